/- Proved here: what tellParts and Make answer. Condition: parts that lie in memory, at most 100000 of them. -/
import Derived.Test.YtbmeamhpmahlgaaVa
import Derived.Test.YtbmeamhpmahlgaaRa
namespace Go.Proofs.Ytbmeamhpmahlgaa
open Go.RowKit

/-- While parts are told: the builder, and a part's box. -/
structure TpS (w W : World) (b : Nat) (l : List UInt8) (r : Option Nat) (h : Nat) (p : Prt) : Prop where
  bel : Below w.heap.size w W
  bw : Bw w.heap.size b l r W
  box : Bp W h p
section
variable {w W W' : World} {b : Nat} {l : List UInt8} {r : Option Nat} {h : Nat} {p : Prt}
theorem Bw.bel {B : Nat} (s : Bw B b l r W) (hb : Below W.heap.size W W') : Bw B b l r W' :=
  s.of (hb.block b s.lt) fun k hk => hb.block k (by obtain ⟨_, cs, fr, h4⟩ := s.row hk; exact heap_lt h4)
theorem TpS.next (s : TpS w W b l r h p) (hb : Below W.heap.size W W') : TpS w W' b l r h p := ⟨s.bel.trans (hb.mono s.bel.size), s.bw.bel hb, s.box.bel hb⟩
theorem TpS.drew (s : TpS w W b l r h p) : TpS w W.drew b l r h p := s.next (Below.drew (Below.refl _ _))
theorem TpS.write (s : TpS w W b l r h p) {l' : List UInt8} {r' : Option Nat} (hw : Bw w.heap.size b l' r' W') (hb : Below w.heap.size W W') (k : Kr b r W W') : TpS w W' b l' r' h p :=
  ⟨s.bel.trans hb, hw, (k.keep s.bw s.box (by decide) (by decide)).trans s.box⟩
theorem TpS.cells (s : TpS w W b l r h p) : W.cell? ⟨h, 0, none⟩ = some (.int .i64 p.1) ∧ W.cell? ⟨h, 1, none⟩ = some (.int .i64 p.2.1) ∧ W.cell? ⟨h, 2, none⟩ = some (.int .i64 p.2.2.1) ∧ W.cell? ⟨h, 3, none⟩ = some (.int .i64 p.2.2.2.1) ∧ W.cell? ⟨h, 4, none⟩ = some (.int .i64 p.2.2.2.2.1) ∧ W.cell? ⟨h, 5, none⟩ = some (.int .i64 p.2.2.2.2.2.1) ∧ W.cell? ⟨h, 6, none⟩ = some (.int .i64 p.2.2.2.2.2.2) := s.box.cells
theorem TpS.len (s : TpS w W b l r h p) : w.heap.size ≤ W.heap.size := s.bel.size
end
theorem or_bits (p : Prt) : bits .or .u16 2 (mvB p : Int) = ((2 + mvB p : Nat) : Int) ∧ bits .or .u16 ((2 + mvB p : Nat) : Int) (nuB p : Int) = ((2 + mvB p + nuB p : Nat) : Int) ∧ bits .or .u16 ((2 + mvB p + nuB p : Nat) : Int) 32 = ((2 + mvB p + nuB p + 32 : Nat) : Int) := by
  have h1 : mvB p = 0 ∨ mvB p = 1 := by unfold mvB; split <;> simp
  have h2 : nuB p = 0 ∨ nuB p = 8 ∨ nuB p = 64 ∨ nuB p = 128 := by unfold nuB; (repeat' split) <;> simp
  rcases h1 with h1 | h1 <;> rcases h2 with h2 | h2 | h2 | h2 <;> rw [h1, h2] <;> decide
set_option maxHeartbeats 8000000 in
set_option maxRecDepth 100000 in
theorem tellParts_any (A : Option Addr) (m c : Nat) (L : List Prt) (w : World) (hP : Prl w A m L) (hm : m ≤ 64) :
    Calls Try.prog 19 #[.slice A m c] w fun e w' => e = .returned (.string ⟨(pkE L m).toArray⟩) ∧ Below w.heap.size w w' := by
  have HI := Lib.hid hP
  have HL := Lib.hid hP.len
  have B0 := Lib.hid (And.intro (Bw.new w w.heap.size (Nat.le_refl _)) ((Below.refl w.heap.size w).alloc (Nat.le_refl _) (.cells #[.pointer none, .slice none 0 0] 70)))
  clear hP
  go_enter Try.func19, Try.ntmps19
  go_upto_region 2 with fail
  obtain ⟨b, hb⟩ : ∃ b, b = w.heap.size := ⟨_, rfl⟩
  obtain ⟨W0, hW0⟩ : ∃ W, W = w.alloc (.cells #[.pointer none, .slice none 0 0] 70) := ⟨_, rfl⟩
  rw [← hW0] at B0 ⊢
  rw [← hb]
  have B0 := Lib.hid (show Bw w.heap.size b [] none W0 ∧ Below w.heap.size w W0 from ⟨by have := B0.out.1; rw [← hb] at this ⊢; exact this, B0.out.2⟩)
  clear hb hW0
  go_wp2_with fail
  go_loopw [9] (fun i wr => ∃ (k : Nat) (r : Option Nat), i = .int .i64 (k : Int) ∧ k ≤ m ∧ Bw w.heap.size b (pkE L k) r wr ∧ Below w.heap.size w wr) (fun i _ => m - (intOf i).toNat)
  case atStart => exact ⟨0, none, rfl, Nat.zero_le _, B0.out.1, B0.out.2⟩
  case round =>
    obtain ⟨k, r, rfl, hk, hbw, hbl⟩ := hrel
    have HB := Lib.hid (And.intro hbw hbl)
    by_cases hgo : k < m
    · obtain ⟨ad, rfl, hc⟩ := HI.out.at_ hbl hgo
      obtain ⟨p, hp⟩ : ∃ p, p = qp L k := ⟨_, rfl⟩
      rw [← hp] at hc
      have HPP := Lib.hid hp
      have hll := pkE_len L k
      have ob := or_bits p
      have hfl := flg_lt p (decide (k + 1 = m))
      have hfd : flg p (decide (k + 1 = m)) = 2 + mvB p + nuB p + (if decide (k + 1 = m) = true then 0 else 32) := rfl
      have lm := mvE_len p
      have ln := nuE_len p
      obtain ⟨v1, hv1⟩ : ∃ v, v = mvB p := ⟨_, rfl⟩
      obtain ⟨v2, hv2⟩ : ∃ v, v = nuB p := ⟨_, rfl⟩
      rw [← hv1, ← hv2] at ob hfd
      obtain ⟨o1, ho1⟩ : ∃ o, o = 2 + v1 := ⟨_, rfl⟩
      obtain ⟨o2, ho2⟩ : ∃ o, o = 2 + v1 + v2 := ⟨_, rfl⟩
      rw [← ho2] at hfd ob
      rw [← ho1] at ob
      obtain ⟨f, hf⟩ : ∃ f, f = flg p (decide (k + 1 = m)) := ⟨_, rfl⟩
      rw [← hf] at hfd hfl
      obtain ⟨pg, px, py, pa, pb, pc, pd⟩ := p
      dsimp only at hc
      have CMb := Lib.hid (show ∀ W, Calls Try.prog 38 #[.agg #[.int .i64 pg, .int .i64 px, .int .i64 py, .int .i64 pa, .int .i64 pb, .int .i64 pc, .int .i64 pd]] W fun e w' => e = .returned (.int .u16 (v1 : Int)) ∧ Below W.heap.size W w' from fun W => by rw [hv1]; exact moveBit_any pg px py pa pb pc pd W)
      have CNb := Lib.hid (show ∀ W, Calls Try.prog 39 #[.agg #[.int .i64 pg, .int .i64 px, .int .i64 py, .int .i64 pa, .int .i64 pb, .int .i64 pc, .int .i64 pd]] W fun e w' => e = .returned (.int .u16 (v2 : Int)) ∧ Below W.heap.size W w' from fun W => by rw [hv2]; exact numbersBit_any pg px py pa pb pc pd W)
      obtain ⟨D1, hD1⟩ : ∃ D : ByteArray, D = ⟨(byt 2 f).toArray⟩ := ⟨_, rfl⟩
      obtain ⟨D2, hD2⟩ : ∃ D : ByteArray, D = ⟨(u2 pg).toArray⟩ := ⟨_, rfl⟩
      obtain ⟨D3, hD3⟩ : ∃ D : ByteArray, D = ⟨(mvE (pg, px, py, pa, pb, pc, pd)).toArray⟩ := ⟨_, rfl⟩
      obtain ⟨D4, hD4⟩ : ∃ D : ByteArray, D = ⟨(nuE (pg, px, py, pa, pb, pc, pd)).toArray⟩ := ⟨_, rfl⟩
      have C1 := Lib.hid (show ∀ W, Calls Try.prog 41 #[.int .u16 (f : Int)] W fun e w' => e = .returned (.string D1) ∧ Below W.heap.size W w' from fun W => by rw [hD1]; exact p16_any f W (by omega))
      have C2 := Lib.hid (show ∀ W, Calls Try.prog 36 #[.int .i64 pg] W fun e w' => e = .returned (.string D2) ∧ Below W.heap.size W w' from fun W => by rw [hD2]; exact sh_any pg W)
      have C3 := Lib.hid (show ∀ W, Calls Try.prog 42 #[.agg #[.int .i64 pg, .int .i64 px, .int .i64 py, .int .i64 pa, .int .i64 pb, .int .i64 pc, .int .i64 pd]] W fun e w' => e = .returned (.string D3) ∧ Below W.heap.size W w' from fun W => by rw [hD3]; exact tellMove_any pg px py pa pb pc pd W)
      have C4 := Lib.hid (show ∀ W, Calls Try.prog 43 #[.agg #[.int .i64 pg, .int .i64 px, .int .i64 py, .int .i64 pa, .int .i64 pb, .int .i64 pc, .int .i64 pd]] W fun e w' => e = .returned (.string D4) ∧ Below W.heap.size W w' from fun W => by rw [hD4]; exact tellNumbers_any pg px py pa pb pc pd W)
      have t1 : D1.data.toList = byt 2 f := by rw [hD1]
      have t2 : D2.data.toList = u2 pg := by rw [hD2]
      have t3 : D3.data.toList = mvE (pg, px, py, pa, pb, pc, pd) := by rw [hD3]
      have t4 : D4.data.toList = nuE (pg, px, py, pa, pb, pc, pd) := by rw [hD4]
      have s1 : D1.size = 2 := by rw [← size_list, t1]; exact byt_len 2 f
      have s2 : D2.size = 2 := by rw [← size_list, t2]; exact u2_len pg
      have s3 : D3.size ≤ 4 := by rw [← size_list, t3]; exact lm.2
      have s4 : D4.size ≤ 8 := by rw [← size_list, t4]; exact ln
      have z1 := size_list D1
      have z2 := size_list D2
      have z3 := size_list D3
      obtain ⟨l0, hl0⟩ : ∃ l, l = pkE L k := ⟨_, rfl⟩
      rw [← hl0] at HB hll
      have HL1 := Lib.hid (show l0.length + D1.size ≤ 100000000 by omega)
      have HL2 := Lib.hid (show (l0 ++ D1.data.toList).length + D2.size ≤ 100000000 by rw [List.length_append]; omega)
      have HL3 := Lib.hid (show (l0 ++ D1.data.toList ++ D2.data.toList).length + D3.size ≤ 100000000 by rw [List.length_append, List.length_append]; omega)
      have HL4 := Lib.hid (show (l0 ++ D1.data.toList ++ D2.data.toList ++ D3.data.toList).length + D4.size ≤ 100000000 by rw [List.length_append, List.length_append, List.length_append]; omega)
      have HR := Lib.hid (show l0 ++ D1.data.toList ++ D2.data.toList ++ D3.data.toList ++ D4.data.toList = pkE L (k + 1) from by
        show _ = pkE L k ++ prE (qp L k) (decide (k + 1 = L.length))
        rw [t1, t2, t3, t4, ← HPP.out, HL.out, hl0, hf]
        unfold prE
        simp only [List.append_assoc])
      have S1 := Lib.hid (show TpS w (wr.alloc (.cells #[.int .i64 pg, .int .i64 px, .int .i64 py, .int .i64 pa, .int .i64 pb, .int .i64 pc, .int .i64 pd] 38)) b l0 r wr.heap.size (pg, px, py, pa, pb, pc, pd) from
        ⟨HB.out.2.alloc HB.out.2.size _, HB.out.1.bel ((Below.refl _ _).alloc (Nat.le_refl _) _), Bp.new wr pg px py pa pb pc pd⟩)
      obtain ⟨c0, c1, c2, c3, c4, c5, c6⟩ := hc
      obtain ⟨q1, q2, q3⟩ := ob
      by_cases hl : k + 1 = m
      · have e9 : decide ((k : Int) < (m : Int) - 1) = false := decide_eq_false (by omega)
        rw [decide_eq_true hl, if_pos rfl] at hfd
        have hfo : f = o2 := by omega
        have C1 := Lib.hid (show ∀ W, Calls Try.prog 41 #[.int .u16 (o2 : Int)] W fun e w' => e = .returned (.string D1) ∧ Below W.heap.size W w' from fun W => by rw [← hfo]; exact C1.out W)
        clear hbw hbl hp hll hfl hfd lm ln hv1 hv2 ho1 ho2 hf hD1 hD2 hD3 hD4 t1 t2 t3 t4 s1 s2 s3 s4 z1 z2 z3 hl0 hfo q3 hl
        go_upto_region 5 with fail
        have H := S1
        clear S1
        generalize wr.heap.size = hb1 at H ⊢
        generalize wr.alloc (.cells #[.int .i64 pg, .int .i64 px, .int .i64 py, .int .i64 pa, .int .i64 pb, .int .i64 pc, .int .i64 pd] 38) = W1 at H ⊢
        clear c0 c1 c2 c3 c4 c5 c6
        obtain ⟨c0, c1, c2, c3, c4, c5, c6⟩ := H.out.cells
        go_region_held3 (fun w' => w'.cell? ⟨hb1, 0, none⟩ = some (.int .i64 pg) ∧ w'.cell? ⟨hb1, 1, none⟩ = some (.int .i64 px) ∧ w'.cell? ⟨hb1, 2, none⟩ = some (.int .i64 py) ∧ w'.cell? ⟨hb1, 3, none⟩ = some (.int .i64 pa) ∧ w'.cell? ⟨hb1, 4, none⟩ = some (.int .i64 pb) ∧ w'.cell? ⟨hb1, 5, none⟩ = some (.int .i64 pc) ∧ w'.cell? ⟨hb1, 6, none⟩ = some (.int .i64 pd))
          (first | with_reducible exact H.out.cells | go_keep)
          (first
            | (go_at_call 38; (with_reducible refine (CMb.out _).mono ?_); rintro e wx ⟨rfl, hb⟩; (first | have H := Lib.hid (H.out.next hb) | have H := Lib.hid (H.out.drew.next hb)); clear hb)
            | (go_at_call 39; (with_reducible refine (CNb.out _).mono ?_); rintro e wx ⟨rfl, hb⟩; (first | have H := Lib.hid (H.out.next hb) | have H := Lib.hid (H.out.drew.next hb)); clear hb))
        go_wp2_with (first
          | (go_at_call 41; (with_reducible refine (C1.out _).mono ?_); rintro e wx ⟨rfl, hb⟩; (first | have H := Lib.hid (H.out.next hb) | have H := Lib.hid (H.out.drew.next hb)); obtain ⟨c0, c1, c2, c3, c4, c5, c6⟩ := H.out.cells; clear hb)
          | (go_at_call 36; (with_reducible refine (C2.out _).mono ?_); rintro e wx ⟨rfl, hb⟩; (first | have H := Lib.hid (H.out.next hb) | have H := Lib.hid (H.out.drew.next hb)); obtain ⟨c0, c1, c2, c3, c4, c5, c6⟩ := H.out.cells; clear hb)
          | (go_at_call 42; (with_reducible refine (C3.out _).mono ?_); rintro e wx ⟨rfl, hb⟩; (first | have H := Lib.hid (H.out.next hb) | have H := Lib.hid (H.out.drew.next hb)); obtain ⟨c0, c1, c2, c3, c4, c5, c6⟩ := H.out.cells; clear hb)
          | (go_at_call 43; (with_reducible refine (C4.out _).mono ?_); rintro e wx ⟨rfl, hb⟩; (first | have H := Lib.hid (H.out.next hb) | have H := Lib.hid (H.out.drew.next hb)); obtain ⟨c0, c1, c2, c3, c4, c5, c6⟩ := H.out.cells; clear hb)
          | (go_at_call 40; (with_reducible refine (wsr_any w.heap.size b (l0) _ D1 _ H.out.bw HL1.out H.out.len).mono ?_); rintro e wx ⟨rfl, ⟨r5, hw5, _⟩, hb5, k5⟩; have H := Lib.hid (H.out.write hw5 hb5 k5); obtain ⟨c0, c1, c2, c3, c4, c5, c6⟩ := H.out.cells; clear hw5 hb5 k5)
          | (go_at_call 40; (with_reducible refine (wsr_any w.heap.size b (l0 ++ D1.data.toList) _ D2 _ H.out.bw HL2.out H.out.len).mono ?_); rintro e wx ⟨rfl, ⟨r5, hw5, _⟩, hb5, k5⟩; have H := Lib.hid (H.out.write hw5 hb5 k5); obtain ⟨c0, c1, c2, c3, c4, c5, c6⟩ := H.out.cells; clear hw5 hb5 k5)
          | (go_at_call 40; (with_reducible refine (wsr_any w.heap.size b (l0 ++ D1.data.toList ++ D2.data.toList) _ D3 _ H.out.bw HL3.out H.out.len).mono ?_); rintro e wx ⟨rfl, ⟨r5, hw5, _⟩, hb5, k5⟩; have H := Lib.hid (H.out.write hw5 hb5 k5); obtain ⟨c0, c1, c2, c3, c4, c5, c6⟩ := H.out.cells; clear hw5 hb5 k5)
          | (go_at_call 40; (with_reducible refine (wsr_any w.heap.size b (l0 ++ D1.data.toList ++ D2.data.toList ++ D3.data.toList) _ D4 _ H.out.bw HL4.out H.out.len).mono ?_); rintro e wx ⟨rfl, ⟨r5, hw5, _⟩, hb5, k5⟩; have H := Lib.hid (H.out.write hw5 hb5 k5); obtain ⟨c0, c1, c2, c3, c4, c5, c6⟩ := H.out.cells; clear hw5 hb5 k5))
        exact ⟨⟨k + 1, _, by simp, by omega, by rw [← HR.out]; exact H.out.bw, H.out.bel⟩, by simp [intOf]; omega⟩
      · have e9 : decide ((k : Int) < (m : Int) - 1) = true := decide_eq_true (by omega)
        rw [decide_eq_false hl, if_neg (by decide)] at hfd
        have hfo : f = o2 + 32 := by omega
        rw [← hfo] at q3
        have HFO := Lib.hid hfo
        clear hbw hbl hp hll hfl hfd lm ln hv1 hv2 ho1 ho2 hf hD1 hD2 hD3 hD4 t1 t2 t3 t4 s1 s2 s3 s4 z1 z2 z3 hl0 hfo hl
        go_upto_region 5 with fail
        have H := S1
        clear S1
        generalize wr.heap.size = hb1 at H ⊢
        generalize wr.alloc (.cells #[.int .i64 pg, .int .i64 px, .int .i64 py, .int .i64 pa, .int .i64 pb, .int .i64 pc, .int .i64 pd] 38) = W1 at H ⊢
        clear c0 c1 c2 c3 c4 c5 c6
        obtain ⟨c0, c1, c2, c3, c4, c5, c6⟩ := H.out.cells
        go_region_held3 (fun w' => w'.cell? ⟨hb1, 0, none⟩ = some (.int .i64 pg) ∧ w'.cell? ⟨hb1, 1, none⟩ = some (.int .i64 px) ∧ w'.cell? ⟨hb1, 2, none⟩ = some (.int .i64 py) ∧ w'.cell? ⟨hb1, 3, none⟩ = some (.int .i64 pa) ∧ w'.cell? ⟨hb1, 4, none⟩ = some (.int .i64 pb) ∧ w'.cell? ⟨hb1, 5, none⟩ = some (.int .i64 pc) ∧ w'.cell? ⟨hb1, 6, none⟩ = some (.int .i64 pd))
          (first | with_reducible exact H.out.cells | go_keep)
          (first
            | (go_at_call 38; (with_reducible refine (CMb.out _).mono ?_); rintro e wx ⟨rfl, hb⟩; (first | have H := Lib.hid (H.out.next hb) | have H := Lib.hid (H.out.drew.next hb)); clear hb)
            | (go_at_call 39; (with_reducible refine (CNb.out _).mono ?_); rintro e wx ⟨rfl, hb⟩; (first | have H := Lib.hid (H.out.next hb) | have H := Lib.hid (H.out.drew.next hb)); clear hb))
        go_wp2_with (first
          | (go_at_call 41; (with_reducible refine (C1.out _).mono ?_); rintro e wx ⟨rfl, hb⟩; (first | have H := Lib.hid (H.out.next hb) | have H := Lib.hid (H.out.drew.next hb)); obtain ⟨c0, c1, c2, c3, c4, c5, c6⟩ := H.out.cells; clear hb)
          | (go_at_call 36; (with_reducible refine (C2.out _).mono ?_); rintro e wx ⟨rfl, hb⟩; (first | have H := Lib.hid (H.out.next hb) | have H := Lib.hid (H.out.drew.next hb)); obtain ⟨c0, c1, c2, c3, c4, c5, c6⟩ := H.out.cells; clear hb)
          | (go_at_call 42; (with_reducible refine (C3.out _).mono ?_); rintro e wx ⟨rfl, hb⟩; (first | have H := Lib.hid (H.out.next hb) | have H := Lib.hid (H.out.drew.next hb)); obtain ⟨c0, c1, c2, c3, c4, c5, c6⟩ := H.out.cells; clear hb)
          | (go_at_call 43; (with_reducible refine (C4.out _).mono ?_); rintro e wx ⟨rfl, hb⟩; (first | have H := Lib.hid (H.out.next hb) | have H := Lib.hid (H.out.drew.next hb)); obtain ⟨c0, c1, c2, c3, c4, c5, c6⟩ := H.out.cells; clear hb)
          | (go_at_call 40; (with_reducible refine (wsr_any w.heap.size b (l0) _ D1 _ H.out.bw HL1.out H.out.len).mono ?_); rintro e wx ⟨rfl, ⟨r5, hw5, _⟩, hb5, k5⟩; have H := Lib.hid (H.out.write hw5 hb5 k5); obtain ⟨c0, c1, c2, c3, c4, c5, c6⟩ := H.out.cells; clear hw5 hb5 k5)
          | (go_at_call 40; (with_reducible refine (wsr_any w.heap.size b (l0 ++ D1.data.toList) _ D2 _ H.out.bw HL2.out H.out.len).mono ?_); rintro e wx ⟨rfl, ⟨r5, hw5, _⟩, hb5, k5⟩; have H := Lib.hid (H.out.write hw5 hb5 k5); obtain ⟨c0, c1, c2, c3, c4, c5, c6⟩ := H.out.cells; clear hw5 hb5 k5)
          | (go_at_call 40; (with_reducible refine (wsr_any w.heap.size b (l0 ++ D1.data.toList ++ D2.data.toList) _ D3 _ H.out.bw HL3.out H.out.len).mono ?_); rintro e wx ⟨rfl, ⟨r5, hw5, _⟩, hb5, k5⟩; have H := Lib.hid (H.out.write hw5 hb5 k5); obtain ⟨c0, c1, c2, c3, c4, c5, c6⟩ := H.out.cells; clear hw5 hb5 k5)
          | (go_at_call 40; (with_reducible refine (wsr_any w.heap.size b (l0 ++ D1.data.toList ++ D2.data.toList ++ D3.data.toList) _ D4 _ H.out.bw HL4.out H.out.len).mono ?_); rintro e wx ⟨rfl, ⟨r5, hw5, _⟩, hb5, k5⟩; have H := Lib.hid (H.out.write hw5 hb5 k5); obtain ⟨c0, c1, c2, c3, c4, c5, c6⟩ := H.out.cells; clear hw5 hb5 k5))
        exact ⟨⟨k + 1, _, by simp, by omega, by rw [← HR.out]; exact H.out.bw, H.out.bel⟩, by simp [intOf]; omega⟩
    · obtain rfl : k = m := by omega
      clear hbw hbl
      go_wp2_with (go_at_call 44; (with_reducible refine (strr_any w.heap.size b (pkE L k) r wr HB.out.1 HB.out.2.size).mono ?_); rintro e w2 ⟨rfl, hb2, _⟩; have HF := Lib.hid (HB.out.2.trans hb2); clear hb2)
      go_ret
      exact ⟨rfl, HF.out⟩
end Go.Proofs.Ytbmeamhpmahlgaa
