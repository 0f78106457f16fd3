/- Proved here: words for the font that Make writes into a builder. Condition: lists that lie in memory · what Make answers, in the program. Condition: a list that lies in memory, of up to 10^6 tables, of tags and bytes of up to 900000 each · what Make answers of tables that may be, in the program. Condition: a list that lies in memory. -/
import Derived.Test.YtfhaloclbbmbeaaGreatM03
namespace Go.Proofs.YtfhaloclbbmbeaaGreat
open Go.RowKit
structure MkS (w W : World) (b g : Nat) (l : List UInt8) (X D : ByteArray) : Prop where
  bel : Below w.heap.size w W
  hb : w.heap.size ≤ b
  hbW : b ≤ W.heap.size
  bld : Bld b b l W
  blk : W.heap[g]? = some (.cells #[.string X, .string D] 34 (0, 0))
  safe : ∀ v, W.cell? ⟨b, 1, none⟩ = some v → v.ownBlock ≠ some g
  ne : g ≠ b
theorem heap_lt {w : World} {g : Nat} {o : Obj} (h : w.heap[g]? = some o) : g < w.heap.size := by
  rcases Nat.lt_or_ge g w.heap.size with hl | hl
  · exact hl
  · rw [Array.getElem?_eq_none hl] at h; cases h
theorem Bld.blk {B b : Nat} {l : List UInt8} {W : World} (h : Bld B b l W) : ∃ p v, W.heap[b]? = some (.cells #[p, v] 173 (0, 0)) ∧ W.ownsRow B 5 1 v (Lib.byteCells l).length (Lib.byteCells l) := by
  rcases h with ⟨_, v, hbk, ho, _⟩ | ⟨_, v, hbk, ho, _⟩
  · exact ⟨_, v, hbk, ho⟩
  · exact ⟨_, v, hbk, ho⟩
theorem Bld.lt {B b : Nat} {l : List UInt8} {W : World} (h : Bld B b l W) : b < W.heap.size := by
  obtain ⟨p, v, h1, _⟩ := h.blk
  exact heap_lt h1
section
variable {w W W' : World} {b g : Nat} {l : List UInt8} {X D : ByteArray}
theorem MkS.start (hbel : Below w.heap.size w W) (hb : w.heap.size ≤ b) (h : Bld b b l W) (X D : ByteArray) : MkS w (W.alloc (.cells #[.string X, .string D] 34)) b W.heap.size l X D := by
  obtain ⟨p, v, h1, h2⟩ := h.blk
  have hlt := h.lt
  refine ⟨hbel.alloc hbel.size _, hb, by simp; omega, h.bel ((Below.refl _ _).alloc (Nat.le_refl _) _), heap_alloc_new W _, fun u hu he => ?_, by omega⟩
  have h3 : (W.alloc (.cells #[.string X, .string D] 34)).heap[b]? = some (.cells #[p, v] 173 (0, 0)) := (Below.heap_alloc W _ b hlt).trans h1
  rw [cell_of_row _ b 1 _ 173 (0, 0) h3] at hu
  injection hu with hu
  subst hu
  have := (h2.lt _ he).2
  omega
theorem MkS.next (h : MkS w W b g l X D) (hb : Below W.heap.size W W') : MkS w W' b g l X D := by
  refine ⟨h.bel.trans (hb.mono h.bel.size), h.hb, Nat.le_trans h.hbW hb.size, h.bld.bel hb, (hb.block g (heap_lt h.blk)).trans h.blk, fun v hv => h.safe v ?_, h.ne⟩
  rw [← hv, hb.cell h.bld.lt]
theorem MkS.drewN (h : MkS w W b g l X D) (n : Nat) : MkS w (W.drewN n) b g l X D := h.next (below_drewN (Below.refl _ _) n)
theorem MkS.drew (h : MkS w W b g l X D) : MkS w W.drew b g l X D := h.next ((Below.refl _ _).drew)
theorem MkS.c0 (h : MkS w W b g l X D) : W.cell? ⟨g, 0, none⟩ = some (.string X) := cell_of_row W g 0 _ 34 (0, 0) h.blk
theorem MkS.c1 (h : MkS w W b g l X D) : W.cell? ⟨g, 1, none⟩ = some (.string D) := cell_of_row W g 1 _ 34 (0, 0) h.blk
theorem MkS.both (h : MkS w W b g l X D) : W.cell? ⟨g, 0, none⟩ = some (.string X) ∧ W.cell? ⟨g, 1, none⟩ = some (.string D) := ⟨h.c0, h.c1⟩
structure MkE (w W : World) (b g : Nat) (l : List UInt8) (X D : ByteArray) : Prop where
  bel : Below w.heap.size w W
  hb : w.heap.size ≤ b
  hbW : b ≤ W.heap.size
  bld : Bld b b l W
  blk : W.heap[g]? = some (.cells #[.string X, .string D] 34 (0, 0))
theorem MkS.wrote {l' : List UInt8} (h : MkS w W b g l X D) (h1 : Bld b b l' W') (h2 : Below b W W') (h3 : KeptB b W W') : MkE w W' b g l' X D :=
  ⟨h.bel.trans (h2.mono h.hb), h.hb, Nat.le_trans h.hbW h2.size, h1, (h3 g (heap_lt h.blk) h.ne h.safe).trans h.blk⟩
theorem MkE.next (h : MkE w W b g l X D) (hb : Below W.heap.size W W') : MkE w W' b g l X D :=
  ⟨h.bel.trans (hb.mono h.bel.size), h.hb, Nat.le_trans h.hbW hb.size, h.bld.bel hb, (hb.block g (heap_lt h.blk)).trans h.blk⟩
theorem MkE.drewN (h : MkE w W b g l X D) (n : Nat) : MkE w (W.drewN n) b g l X D := h.next (below_drewN (Below.refl _ _) n)
theorem MkE.both (h : MkE w W b g l X D) : W.cell? ⟨g, 0, none⟩ = some (.string X) ∧ W.cell? ⟨g, 1, none⟩ = some (.string D) := ⟨cell_of_row W g 0 _ 34 (0, 0) h.blk, cell_of_row W g 1 _ 34 (0, 0) h.blk⟩
theorem MkE.c0 (h : MkE w W b g l X D) : W.cell? ⟨g, 0, none⟩ = some (.string X) := cell_of_row W g 0 _ 34 (0, 0) h.blk
theorem MkE.c1 (h : MkE w W b g l X D) : W.cell? ⟨g, 1, none⟩ = some (.string D) := cell_of_row W g 1 _ 34 (0, 0) h.blk
end
structure MkH (w W : World) (b : Nat) (l : List UInt8) : Prop where
  bel : Below w.heap.size w W
  hb : w.heap.size ≤ b
  bld : Bld b b l W
theorem MkH.start {w W : World} {b : Nat} {l : List UInt8} (h : MkH w W b l) (X D : ByteArray) : MkS w (W.alloc (.cells #[.string X, .string D] 34)) b W.heap.size l X D := MkS.start h.bel h.hb h.bld X D
theorem MkE.head {w W : World} {b g : Nat} {l : List UInt8} {X D : ByteArray} (h : MkE w W b g l X D) : MkH w W b l := ⟨h.bel, h.hb, h.bld⟩
theorem MkH.next {w W W' : World} {b : Nat} {l : List UInt8} (h : MkH w W b l) (hb : Below W.heap.size W W') : MkH w W' b l := ⟨h.bel.trans (hb.mono h.bel.size), h.hb, h.bld.bel hb⟩
theorem MkH.new {w W : World} (h : Below w.heap.size w W) : MkH w (W.alloc (.cells #[.pointer none, .slice none 0 0] 173)) W.heap.size [] := ⟨h.alloc h.size _, h.size, Bld.new W⟩
theorem MkH.wrote {w W W' : World} {b : Nat} {l l' : List UInt8} (h : MkH w W b l) (h1 : Bld b b l' W') (h2 : Below b W W') : MkH w W' b l' := ⟨h.bel.trans (h2.mono h.hb), h.hb, h1⟩
theorem zer_rep : ∀ p, p < 4 → Lib.repeatL [(0 : UInt8)] p = zer p := by decide
theorem dir_next {L : List (List UInt8 × List UInt8)} {i : Nat} (hi : i < L.length) (a : Nat) : dir a (L.take (i + 1)) = dir a (L.take i) ++ line (tg L i, dt L i) (a + (body (L.take i)).length) := by
  have h1 : L.take (i + 1) = L.take i ++ [(tg L i, dt L i)] := by
    rw [List.take_succ_eq_append_getElem hi, tg_get hi]
  rw [h1, dir_app]
  simp [dir]
theorem line_cat (X T1 T2 T3 : ByteArray) (x : List UInt8) (d : List UInt8) (a : Nat) (hX : X = ⟨x.toArray⟩) (h1 : T1 = ⟨(byt 4 (total x d)).toArray⟩) (h2 : T2 = ⟨(byt 4 a).toArray⟩) (h3 : T3 = ⟨(byt 4 d.length).toArray⟩) :
    (X ++ T1 ++ T2 ++ T3).data.toList = line (x, d) a := by
  rw [hX, h1, h2, h3, app_four]
  unfold line
  simp
end Go.Proofs.YtfhaloclbbmbeaaGreat
namespace Go.Proofs.YtfhaloclbbmbeaaGreat
open Go.RowKit
set_option maxHeartbeats 4000000 in
theorem make_none (A : Option Addr) (m c : Nat) (L : List (List UInt8 × List UInt8)) (w : World) (h : Tl w A m L) (hm : m ≤ 1000000) (ht : ∀ i, i < m → (tg L i).length ≤ 1000000) (hd : ∀ i, i < m → (dt L i).length ≤ 900000) (hE : mkE L ≠ 0) :
    Calls Tryz.prog 51 #[.slice A m c] w fun e w' => e = .returned (.tuple #[.string ⟨#[]⟩, .int .i64 (mkE L)]) ∧ Below w.heap.size w w' := by
  have hl := h.len
  have HX := Lib.hid h
  by_cases h0 : m = 0
  · have HE := Lib.hid (show mkE L = 1 by unfold mkE; rw [if_pos (.inl (by omega))])
    have e0 : ((m : Int) == 0) = true := by simp; omega
    clear h hl h0 hE ht hd
    go_enter Tryz.func51, Tryz.ntmps51
    go_wp2_with fail
    go_ret2
    exact ⟨(by rw [HE.out] <;> rfl), Below.refl _ _⟩
  · have e0 : ((m : Int) == 0) = false := by simp; omega
    have hr := fun W (hb : Below w.heap.size w W) => rising_any A m c L W (HX.out.bel hb) hm ht
    have hr0 := hr w (Below.refl _ _)
    cases hri : risU L m
    · have HE := Lib.hid (show mkE L = 1 by unfold mkE; rw [if_pos (.inr (by rw [hl]; exact hri))])
      rw [hri] at hr0
      have HR := Lib.hid hr0
      clear h hl h0 hE ht hd hr hr0 hri
      go_enter Tryz.func51, Tryz.ntmps51
      go_wp2_with (go_at_call 108; (with_reducible refine HR.out.mono ?_); rintro e w1 ⟨rfl, hb⟩; have B := Lib.hid hb; clear hb)
      go_ret2
      exact ⟨(by rw [HE.out] <;> rfl), B.out⟩
    · have hfi : fitsL L = false := by
        cases hf : fitsL L
        · rfl
        · exfalso
          apply hE
          unfold fitsL at hf
          simp only [Bool.and_eq_true, decide_eq_true_eq] at hf
          unfold mkE
          rw [if_neg (by rw [hl, hri]; rintro (h | h) <;> first | omega | cases h), if_neg (by omega)]
      have HE := Lib.hid (show mkE L = 6 by
        unfold fitsL at hfi
        simp only [Bool.and_eq_false_iff, decide_eq_false_iff_not] at hfi
        unfold mkE
        rw [if_neg (by rw [hl, hri]; rintro (h | h) <;> first | omega | cases h), if_pos (by omega)])
      have hf := fun W (hb : Below w.heap.size w W) => fits_any A m c L W (HX.out.bel hb) hm (fun i hi => by have := hd i hi; omega)
      rw [hri] at hr0
      rw [hfi] at hf
      have HR := Lib.hid hr0
      have HF := Lib.hid hf
      clear h hl h0 hE ht hd hr hr0 hri hfi hf
      go_enter Tryz.func51, Tryz.ntmps51
      go_wp2_with (first
        | (go_at_call 108; (with_reducible refine HR.out.mono ?_); rintro e w1 ⟨rfl, hb⟩; have B := Lib.hid hb; clear hb)
        | (go_at_call 109; (with_reducible refine (HF.out _ B.out).mono ?_); rintro e w2 ⟨rfl, hb⟩; have B2 := Lib.hid (B.out.trans (hb.mono B.out.size)); clear hb))
      go_ret2
      exact ⟨(by rw [HE.out] <;> rfl), B2.out⟩
end Go.Proofs.YtfhaloclbbmbeaaGreat
namespace Go.Proofs.YtfhaloclbbmbeaaGreat
open Go.RowKit
set_option maxRecDepth 100000 in
set_option maxHeartbeats 8000000 in
theorem make_main (A : Option Addr) (m c : Nat) (L : List (List UInt8 × List UInt8)) (w : World) (h : Tl w A m L) (hE : mkE L = 0) (hd : ∀ i, i < m → (dt L i).length ≤ 900000) :
    Calls Tryz.prog 51 #[.slice A m c] w fun e w' => e = .returned (.tuple #[.string ⟨(mkF L).toArray⟩, .int .i64 0]) ∧ Below w.heap.size w w' := by
  have hl := h.len
  have HX := Lib.hid h
  obtain ⟨h0, hris, h64, hsz⟩ := mkE_zero hE
  have hri := risU_iff.2 hris
  rw [hl] at h0 h64 hri
  have hfi : fitsL L = true := by unfold fitsL; rw [decide_eq_true (by omega), decide_eq_true hsz]; rfl
  have e0 : ((m : Int) == 0) = false := by simp; omega
  have t4 := fun i (hi : i < m) => tagOK_len (risK_tag (hris i (by omega)))
  have hr := rising_any A m c L w h (by omega) (fun i hi => by rw [t4 i hi]; decide)
  have hf := fun W (hb : Below w.heap.size w W) => fits_any A m c L W (HX.out.bel hb) (by omega) (fun i hi => by have := hd i hi; omega)
  rw [hri] at hr
  rw [hfi] at hf
  have HR := Lib.hid hr
  have HF := Lib.hid hf
  have hn := fun W => numbers_any m W h0 h64
  obtain ⟨N, hN⟩ : ∃ N : ByteArray, N = ⟨(nums m).toArray⟩ := ⟨_, rfl⟩
  rw [← hN] at hn
  have HN := Lib.hid hn
  have nz : N.size = 8 := by rw [hN]; exact nums_len m
  have hcat : (⟨#[0, 1, 0, 0]⟩ ++ N : ByteArray).data.toList = hdr m := by
    rw [hN, show (⟨#[0, 1, 0, 0]⟩ : ByteArray) = ⟨([0, 1, 0, 0] : List UInt8).toArray⟩ from rfl, app_txt]
    rfl
  have hcs : (⟨#[0, 1, 0, 0]⟩ ++ N : ByteArray).size = 12 := by rw [← size_list, hcat, hdr_len]
  have l1 : ¬ 9223372036854775807 < 4 + N.size := by omega
  have H0 := Lib.hid (Below.refl w.heap.size w)
  have HC := Lib.hid hcat
  have HZ := Lib.hid hcs
  have H6 := Lib.hid (And.intro h0 h64)
  have HS := Lib.hid hsz
  have HL := Lib.hid hl
  have HT := Lib.hid t4
  have HD := Lib.hid hd
  have HRi := Lib.hid hris
  clear h hl h0 hE hd hr hf hn hN nz hcat hcs hris h64 hsz hri hfi t4
  go_enter Tryz.func51, Tryz.ntmps51
  go_upto_region 7 with (first
    | (go_at_call 108; (with_reducible refine HR.out.mono ?_); rintro e w1 ⟨rfl, hb⟩; have B := Lib.hid hb; clear hb)
    | (go_at_call 109; (with_reducible refine (HF.out _ B.out).mono ?_); rintro e w2 ⟨rfl, hb⟩; have B2 := Lib.hid (B.out.trans (hb.mono B.out.size)); clear hb; have K0 := Lib.hid (MkH.new B2.out))
    | (go_at_call 110; (with_reducible refine (HN.out _).mono ?_); rintro e w3 ⟨rfl, hb⟩; have K1 := Lib.hid (K0.out.next hb); clear hb)
    | (go_at_call 97; (with_reducible refine (ws_any _ _ [] _ _ K1.out.bld (by rw [HZ.out]; decide) (Nat.le_of_lt K1.out.bld.lt)).mono ?_); rintro e w4 ⟨rfl, h1, h2, _⟩; rw [HC.out] at h1; have K2 := Lib.hid (K1.out.wrote h1 h2); clear h1 h2))
  obtain ⟨b, hb⟩ : ∃ b, b = w2.heap.size := ⟨_, rfl⟩
  rw [← hb] at K2 ⊢
  clear hb B B2 K0 K1
  rename KeptB _ _ _ => hkept
  clear hkept
  go_wp2_with fail
  go_loopw [5, 32] (fun v i wr => ∃ k o : Nat, i = .int .i64 (k : Int) ∧ k ≤ m ∧ v = .int .i64 (o : Int) ∧ o = 12 + 16 * m + (body (L.take k)).length ∧ MkH w wr b (hdr m ++ dir (12 + 16 * m) (L.take k))) (fun _ i _ => m - (intOf i).toNat)
  case atStart => exact ⟨0, 12 + 16 * m, rfl, Nat.zero_le _, by have := H6.out; congr 1; unfold wrap64; omega, rfl, by simpa [dir] using K2.out⟩
  case round =>
    obtain ⟨k, o, rfl, hk, rfl, ho, hK⟩ := hrel
    have HK := Lib.hid hK
    clear hK
    by_cases hgo : k < m
    · obtain ⟨ad, rfl, c0, c1⟩ := HX.out.at_ HK.out.bel hgo
      have hn := HD.out k hgo
      have hx4 := HT.out k hgo
      have hnx := body_next (L := L) (i := k) (by have := HL.out; omega)
      have hble := body_le (L := L) (i := k) (by have := HL.out; omega)
      have hbl := blk_len (dt L k)
      have hnl := dir_next (L := L) (i := k) (by have := HL.out; omega) (12 + 16 * m)
      have hsz := HS.out
      unfold szF at hsz
      rw [HL.out] at hsz
      have h64 := H6.out.2
      have hdl := dir_len (L := L.take k) (12 + 16 * m) (fun t ht => tags_four HRi.out t (List.mem_of_mem_take ht))
      rw [List.length_take, HL.out, Nat.min_eq_left (Nat.le_of_lt hgo)] at hdl
      rw [← ho] at hnl
      have hn1 := congrArg List.length hnx
      rw [List.length_append] at hn1
      obtain ⟨X, hX⟩ : ∃ X : ByteArray, X = ⟨(tg L k).toArray⟩ := ⟨_, rfl⟩
      obtain ⟨D, hDD⟩ : ∃ D : ByteArray, D = ⟨(dt L k).toArray⟩ := ⟨_, rfl⟩
      have hXl : X.data.toList = tg L k := by rw [hX]
      have hDl : D.data.toList = dt L k := by rw [hDD]
      have hXz : X.size = 4 := by rw [← size_list, hXl]; exact hx4
      have hz : D.size = (dt L k).length := by rw [← size_list, hDl]
      have htot := fun W => total_any X D W (by rw [hDl]; omega)
      have hpd := fun W => (pad_any D W (by rw [hDl]; omega)).mono fun _ _ h => And.intro h.1 h.2.symm
      rw [hXl, hDl] at htot
      rw [hDl] at hpd
      have htl := total_lt (tg L k) (dt L k)
      rw [← hX] at c0
      rw [← hDD] at c1
      have hc1 := fun W => p32_any (total (tg L k) (dt L k)) W (by omega)
      have hc2 := fun W => p32_any o W (by omega)
      have hc3 := fun W => p32_any (dt L k).length W (by omega)
      obtain ⟨T1, hT1⟩ : ∃ X : ByteArray, X = ⟨(byt 4 (total (tg L k) (dt L k))).toArray⟩ := ⟨_, rfl⟩
      obtain ⟨T2, hT2⟩ : ∃ X : ByteArray, X = ⟨(byt 4 o).toArray⟩ := ⟨_, rfl⟩
      obtain ⟨T3, hT3⟩ : ∃ X : ByteArray, X = ⟨(byt 4 (dt L k).length).toArray⟩ := ⟨_, rfl⟩
      have hcat := line_cat X T1 T2 T3 _ _ _ hX hT1 hT2 hT3
      rw [show (tg L k, dt L k) = (tg L k, dt L k) from rfl, ← hcat] at hnl
      have z1 : T1.size = 4 := by rw [hT1]; exact byt_len 4 _
      have z2 : T2.size = 4 := by rw [hT2]; exact byt_len 4 _
      have z3 : T3.size = 4 := by rw [hT3]; exact byt_len 4 _
      have q1 : ¬ 9223372036854775807 < X.size + T1.size := by omega
      have q2 : ¬ 9223372036854775807 < X.size + T1.size + T2.size := by omega
      have q3 : ¬ 9223372036854775807 < X.size + T1.size + T2.size + T3.size := by omega
      have hcz : (X ++ T1 ++ T2 ++ T3 : ByteArray).size = 16 := by
        rw [← size_list, hcat]
        exact line_len hx4 _
      rw [← hT1] at hc1
      rw [← hT2] at hc2
      rw [← hT3] at hc3
      obtain ⟨n, hnn⟩ : ∃ n, n = (dt L k).length := ⟨_, rfl⟩
      rw [← hnn] at hz hpd hbl hn hble hc3
      obtain ⟨tt, htt⟩ : ∃ n, n = total (tg L k) (dt L k) := ⟨_, rfl⟩
      rw [← htt] at htot hc1
      obtain ⟨p, hpp⟩ : ∃ p, p = padn n := ⟨_, rfl⟩
      rw [← hpp] at hpd hbl
      have hp3 : p < 4 := by rw [hpp]; unfold padn; omega
      have w1 : IntKind.u32.wrap (o : Int) = (o : Int) := by rw [IntKind.wrap_u32]; omega
      have w2 : IntKind.u32.wrap (n : Int) = (n : Int) := by rw [IntKind.wrap_u32]; omega
      obtain ⟨o2, ho2⟩ : ∃ o2, o2 = o + (n + p) := ⟨_, rfl⟩
      have w3 : IntKind.i64.wrap ((n : Int) + (p : Int)) = (n : Int) + (p : Int) := i64_in _ (by omega)
      have w4 : IntKind.i64.wrap ((o : Int) + ((n : Int) + (p : Int))) = (o2 : Int) := by rw [i64_in _ (by omega)]; omega
      have HN2 := Lib.hid (show o2 = 12 + 16 * m + (body (L.take (k + 1))).length by omega)
      have HNL := Lib.hid hnl
      have HCZ := Lib.hid hcz
      have HHL := Lib.hid (show (hdr m ++ dir (12 + 16 * m) (L.take k)).length + 16 ≤ 100000000 by rw [List.length_append, hdr_len, hdl]; omega)
      have C0 := Lib.hid htot
      have C1 := Lib.hid hc1
      have C2 := Lib.hid hc2
      have C3 := Lib.hid hc3
      have CP := Lib.hid hpd
      have HS1 := Lib.hid (HK.out.start X D)
      clear hn hx4 hnx hble hbl hnl hsz hdl hn1 hX hDD hXl hDl hXz htot hpd htl hc1 hc2 hc3 hT1 hT2 hT3 hcat z1 z2 z3 hcz hnn htt hpp hp3 ho2 ho
      go_upto_region 11 with fail
      obtain ⟨g, hg⟩ : ∃ g, g = wr.heap.size := ⟨_, rfl⟩
      obtain ⟨W1, hW1⟩ : ∃ W, W = wr.alloc (.cells #[.string X, .string D] 34) := ⟨_, rfl⟩
      rw [← hg, ← hW1] at HS1 ⊢
      clear hg hW1 c0 c1
      have f0 := HS1.out.both
      obtain ⟨f1, f2⟩ := f0
      go_region_held3 (fun w' => w'.cell? ⟨g, 0, none⟩ = some (.string X) ∧ w'.cell? ⟨g, 1, none⟩ = some (.string D))
        (first | with_reducible exact HS1.out.both | with_reducible exact HS2.out.both | with_reducible exact HS3.out.both | with_reducible exact HS4.out.both | with_reducible exact HS5.out.both | with_reducible exact HS6.out.both | go_keep)
        (first
          | (go_at_call 111; (with_reducible refine (C0.out _).mono ?_); rintro e w5 ⟨q, rfl, rfl⟩; have HS2 := Lib.hid (HS1.out.drewN (1 + q)))
          | (go_at_call 91; (with_reducible refine (C1.out _).mono ?_); rintro e w6 ⟨rfl, hb⟩; have HS3 := Lib.hid (HS2.out.next hb); clear hb)
          | (go_at_call 91; (with_reducible refine (C2.out _).mono ?_); rintro e w7 ⟨rfl, hb⟩; have HS4 := Lib.hid (HS3.out.next hb); clear hb)
          | (go_at_call 91; (with_reducible refine (C3.out _).mono ?_); rintro e w8 ⟨rfl, hb⟩; have HS5 := Lib.hid (HS4.out.next hb); clear hb)
          | (go_at_call 97; (with_reducible refine (ws_any _ _ _ _ _ HS5.out.bld (by rw [HCZ.out]; exact HHL.out) HS5.out.hbW).mono ?_); rintro e w9 ⟨rfl, h1, h2, h3⟩; have HS6 := Lib.hid (HS5.out.wrote h1 h2 h3); clear h1 h2 h3))
      obtain ⟨f3, f4⟩ := HS6.out.both
      clear f1 f2
      go_wp2_with fail
      go_quiet ((go_at_call 112; with_reducible exact Calls.quiet_of_same (CP.out _)))
      go_wp2_with fail
      refine ⟨⟨k + 1, o2, by simp, by omega, rfl, HN2.out, ?_⟩, by simp [intOf]; omega⟩
      have h9 := fun n => (HS6.out.drewN n).head
      rw [HNL.out, ← List.append_assoc]
      exact h9 _
    · have hkm : k = m := by omega
      subst hkm
      have HM := Lib.hid (show L.take k = L by rw [← HL.out, List.take_length])
      rw [HM.out] at HK
      clear ho
      go_wp2_with fail
      go_loopw [68] (fun i wi => ∃ j : Nat, i = .int .i64 (j : Int) ∧ j ≤ k ∧ MkH w wi b (hdr k ++ dir (12 + 16 * k) L ++ body (L.take j))) (fun i _ => k - (intOf i).toNat)
      case atStart => exact ⟨0, rfl, Nat.zero_le _, by simpa [body] using HK.out⟩
      case round =>
        obtain ⟨j, rfl, hj, hK⟩ := hrel
        have HK := Lib.hid hK
        clear hK
        have h64 := H6.out.2
        by_cases hgo2 : j < k
        · obtain ⟨ad, rfl, c0, c1⟩ := HX.out.at_ HK.out.bel hgo2
          have hn := HD.out j hgo2
          have hnx := body_next (L := L) (i := j) (by have := HL.out; omega)
          have hble := body_le (L := L) (i := j) (by have := HL.out; omega)
          have hbl := blk_len (dt L j)
          have hsz := HS.out
          unfold szF at hsz
          rw [HL.out] at hsz
          have hdl := dir_len (L := L) (12 + 16 * k) (tags_four HRi.out)
          rw [HL.out] at hdl
          have hbj := body_mono (L := L) (i := j) (j := k) hj (by have := HL.out; omega)
          rw [HM.out] at hbj
          obtain ⟨X, hX⟩ : ∃ X : ByteArray, X = ⟨(tg L j).toArray⟩ := ⟨_, rfl⟩
          obtain ⟨D, hDD⟩ : ∃ D : ByteArray, D = ⟨(dt L j).toArray⟩ := ⟨_, rfl⟩
          have hDl : D.data.toList = dt L j := by rw [hDD]
          have hz : D.size = (dt L j).length := by rw [← size_list, hDl]
          have hpd := fun W => pad_any D W (by rw [hDl]; omega)
          rw [hDl] at hpd
          rw [← hX] at c0
          rw [← hDD] at c1
          have hp3 : padn (dt L j).length < 4 := by unfold padn; omega
          have hrp := fun W => Tryz.strings_Repeat ⟨#[0]⟩ (padn (dt L j).length) W (by omega) (by show 1 * _ ≤ _; omega)
          obtain ⟨Z, hZ⟩ : ∃ X : ByteArray, X = ⟨(Lib.repeatL (⟨#[0]⟩ : ByteArray).data.toList (padn (dt L j).length)).toArray⟩ := ⟨_, rfl⟩
          have hZl : Z.data.toList = zer (padn (dt L j).length) := by rw [hZ]; exact zer_rep _ hp3
          have hZz : Z.size = padn (dt L j).length := by rw [← size_list, hZl]; simp [zer]
          rw [← hZ] at hrp
          have HHL := Lib.hid (show (hdr k ++ dir (12 + 16 * k) L ++ body (L.take j)).length + D.size ≤ 100000000 ∧ (hdr k ++ dir (12 + 16 * k) L ++ body (L.take j) ++ D.data.toList).length + Z.size ≤ 100000000 by
            rw [List.length_append, List.length_append, List.length_append, hdr_len, hdl, List.length_append, List.length_append, hdr_len, hdl, hZz, size_list]
            omega)
          have HNX := Lib.hid (show body (L.take (j + 1)) = body (L.take j) ++ D.data.toList ++ Z.data.toList by rw [hnx, hDl, hZl]; simp [blk])
          obtain ⟨p, hpp⟩ : ∃ p, p = padn (dt L j).length := ⟨_, rfl⟩
          rw [← hpp] at hpd hrp
          have CP := Lib.hid hpd
          have CR := Lib.hid hrp
          have HS1 := Lib.hid (HK.out.start X D)
          clear hn hnx hble hbl hsz hdl hbj hX hDD hDl hpd hp3 hrp hZ hZl hZz hpp hz
          go_upto_region 17 with fail
          obtain ⟨g, hg⟩ : ∃ g, g = wr.heap.size := ⟨_, rfl⟩
          obtain ⟨W1, hW1⟩ : ∃ W, W = wr.alloc (.cells #[.string X, .string D] 34) := ⟨_, rfl⟩
          rw [← hg, ← hW1] at HS1 ⊢
          clear hg hW1 c0 c1
          obtain ⟨f1, f2⟩ := HS1.out.both
          go_upto_region 18 with (go_at_call 97; (with_reducible refine (ws_any _ _ _ _ _ HS1.out.bld HHL.out.1 HS1.out.hbW).mono ?_); rintro e w9 ⟨rfl, h1, h2, h3⟩; have HS2 := Lib.hid (HS1.out.wrote h1 h2 h3); clear h1 h2 h3)
          obtain ⟨f3, f4⟩ := HS2.out.both
          clear f1 f2
          go_wp2_with (first
            | (go_at_call 112; (with_reducible refine (CP.out _).mono ?_); rintro e w' ⟨rfl, rfl⟩)
            | (go_at_call 113; (with_reducible refine (CR.out _).mono ?_); rintro e w10 ⟨rfl, hb⟩; have HS3 := Lib.hid (HS2.out.next hb); clear hb)
            | (go_at_call 97; (with_reducible refine (ws_any _ _ _ _ _ HS3.out.bld HHL.out.2 HS3.out.hbW).mono ?_); rintro e w11 ⟨rfl, h1, h2, h3⟩; have HS4 := Lib.hid (HS3.out.head.wrote h1 h2); clear h1 h2 h3))
          refine ⟨⟨j + 1, by simp, by omega, ?_⟩, by simp [intOf]; omega⟩
          rw [HNX.out, ← List.append_assoc, ← List.append_assoc]
          exact HS4.out
        · have hjk : j = k := by omega
          subst hjk
          rw [HM.out] at HK
          have hmk : hdr j ++ dir (12 + 16 * j) L ++ body L = mkF L := by unfold mkF; rw [HL.out]
          have CS := Lib.hid (str_any b b _ wr HK.out.bld (Nat.le_of_lt HK.out.bld.lt))
          rw [hmk] at CS
          go_wp2_with (go_at_call 100; (with_reducible refine CS.out.mono ?_); rintro e w10 ⟨rfl, hb⟩; have HE := Lib.hid (HK.out.bel.trans (hb.mono HK.out.hb)); clear hb)
          go_ret2
          exact ⟨rfl, HE.out⟩
theorem make_any (A : Option Addr) (m c : Nat) (L : List (List UInt8 × List UInt8)) (w : World) (h : Tl w A m L) (hm : m ≤ 1000000) (ht : ∀ i, i < m → (tg L i).length ≤ 1000000) (hd : ∀ i, i < m → (dt L i).length ≤ 900000) :
    Calls Tryz.prog 51 #[.slice A m c] w fun e w' => e = .returned (.tuple #[.string ⟨(mkS L).toArray⟩, .int .i64 (mkE L)]) ∧ Below w.heap.size w w' := by
  unfold mkS
  by_cases hE : mkE L = 0
  · rw [if_pos hE, hE]
    exact make_main A m c L w h hE hd
  · rw [if_neg hE]
    exact make_none A m c L w h hm ht hd hE
end Go.Proofs.YtfhaloclbbmbeaaGreat
