/- Proved here: what the document's Without answers and leaves in memory. Condition: a polynomial of at most 14 numbers of at most 400 digits, in its one form and not empty, that lies in memory, and a fraction that may be. -/
import Derived.Test.YtpobhegllhhdgaaGreatRg
namespace Go.Proofs.YtpobhegllhhdgaaGreat
open Go.RowKit

def tri : Nat → Nat
  | 0 => 0
  | n + 1 => tri n + n
theorem tri_le {x : Nat} (h : x ≤ 14) : tri x ≤ 91 := by
  have : ∀ x, x < 15 → tri x ≤ 91 := by decide
  exact this x (by omega)
theorem mkNum (n : Nat) (hn : n ≤ 1000000) (w : World) (D : Int) (hD : D = (n : Int)) :
    (Instr.makeSlice 27 (.int .i64 D) (.int .i64 D)).run Tryz.prog w = .ok (.slice (some ⟨w.heap.size, 0, none⟩) n n) (w.alloc (.cells (List.flatten (List.replicate n [.bool false, .slice none 0 0])).toArray 69)) := by
  subst hD
  obtain ⟨i0, hi0, hz0, hz1, hz2⟩ := info_parts Tryz.info69
  have := run_makeSlice (P := Tryz.prog) w 27 69 i0 (.agg #[.bool false, .slice none 0 0]) Tryz.underlying27 hi0 hz0 .i64 .i64 (n : Int) (n : Int) (by omega) (Int.le_refl _) (by rw [hz1]; omega) (by rw [hz2]; omega) (by omega)
  rw [this, hz1, Int.toNat_natCast, made_two]
/-- What is made, and a number in its box. -/
structure WiH (w W : World) (go gv : Nat) (cur : List Int) (lo : Nat) (b : Bool) (v : Value) (a : Int) (la : Nat) : Prop where
  bel : Below w.heap.size w W
  O : Ob .n 69 W go cur lo
  V : Bx 69 W gv b v
  ea : El .n W (.agg #[.bool b, v]) a la
  ne : w.heap.size ≤ go ∧ w.heap.size ≤ gv ∧ go ≠ gv
section
variable {w W W' : World} {go gv lo la : Nat} {cur : List Int} {b : Bool} {v : Value} {a : Int}
theorem WiH.next (h : WiH w W go gv cur lo b v a la) (hb : Below W.heap.size W W') : WiH w W' go gv cur lo b v a la := ⟨bel_tr h.bel hb, h.O.bel hb, h.V.bel hb, h.ea.bel hb, h.ne⟩
theorem WiH.drew (h : WiH w W go gv cur lo b v a la) : WiH w W.drew go gv cur lo b v a la := h.next ((Below.refl _ _).drew)
theorem WiH.le {la' : Nat} (h : WiH w W go gv cur lo b v a la) (h1 : la ≤ la') : WiH w W go gv cur lo b v a la' := ⟨h.bel, h.O, h.V, h.ea.le h1, h.ne⟩
theorem WiH.facts (h : WiH w W go gv cur lo b v a la) : W.cell? ⟨gv, 0, none⟩ = some (.bool b) ∧ W.cell? ⟨gv, 1, none⟩ = some v ∧ W.frozen? ⟨gv, 0, none⟩ = false ∧ W.frozen? ⟨gv, 1, none⟩ = false := ⟨h.V.c0, h.V.c1, h.V.fr 0, h.V.fr 1⟩
theorem WiH.putv {b' : Bool} {B B0 : Option Addr} {i j i0 j0 : Nat} {z : Int} {lz : Nat} (h : WiH w W go gv cur lo b (.slice B0 i0 j0) a la) (hz : El .n W (.agg #[.bool b', .slice B i j]) z lz) :
    WiH w ((W.setCell ⟨gv, 0, none⟩ (.bool b')).setCell ⟨gv, 1, none⟩ (.slice B i j)) go gv cur lo b' (.slice B i j) z lz := by
  obtain ⟨n1, n2, n3⟩ := h.ne
  have e : ∀ k, k ≠ gv → ((W.setCell ⟨gv, 0, none⟩ (.bool b')).setCell ⟨gv, 1, none⟩ (.slice B i j)).heap[k]? = W.heap[k]? := fun k hk => (Below.heap_setCell _ ⟨gv, 1, none⟩ _ k hk).trans (Below.heap_setCell _ ⟨gv, 0, none⟩ _ k hk)
  obtain ⟨cells, hc, hr⟩ := h.O
  exact ⟨bel_set (bel_set h.bel n2 _ _) n2 _ _, ⟨cells, (e _ n3).trans hc, (hr.store h.V.noint _ _).store (h.V.noint.set _ (by intro k z h; cases h)) _ _⟩, h.V.put _ _, hz.box h.V _ _ _ _, h.ne⟩
theorem WiH.puto {B0 : Option Addr} {i0 j0 : Nat} {z : Int} (h : WiH w W go gv cur lo b (.slice B0 i0 j0) a la) {b' : Bool} {B : Option Addr} {i j : Nat} (hz : El .n W (.agg #[.bool b', .slice B i j]) z lo) (k : Nat) :
    WiH w ((W.setCell ⟨go, k * 2, none⟩ (.bool b')).setCell ⟨go, k * 2 + 1, none⟩ (.slice B i j)) go gv (cur.set k z) lo b (.slice B0 i0 j0) a la := by
  obtain ⟨n1, n2, n3⟩ := h.ne
  exact ⟨bel_set (bel_set h.bel n1 _ _) n1 _ _, h.O.set k hz, h.V.two (Ne.symm n3) _ _ _ _, h.ea.two h.O _ _ _ _ _ _, h.ne⟩
end
/-- What the document's Without answers. -/
def RwE (R : List Int × Nat) (l : Nat) (w : World) (e : Ending) (w' : World) : Prop :=
  ∃ A c, e = .returned (.tuple #[.slice A R.1.length c, .int .i64 (R.2 : Int)]) ∧ Pol .n w' (.slice A R.1.length c) R.1 l ∧ Below w.heap.size w w'
theorem DivRE.open1 {x n : Int} {l : Nat} {w w' : World} {e : Ending} (h : DivRE x n l w e w') : ∃ b B p q b2 B2 p2 q2, e = .returned (.tuple #[.agg #[.bool b, .slice B p q], .agg #[.bool b2, .slice B2 p2 q2]]) ∧ El .n w' (.agg #[.bool b, .slice B p q]) (x.tdiv n) l ∧ Below w.heap.size w w' := by
  obtain ⟨X, Y, rfl, h1, h2, h3⟩ := h
  obtain ⟨b, B, p, q, rfl⟩ := El.form (K := .n) h1
  obtain ⟨b2, B2, p2, q2, rfl⟩ := El.form (K := .n) h2
  exact ⟨b, B, p, q, b2, B2, p2, q2, rfl, h1, h3⟩
set_option maxRecDepth 100000 in
set_option maxHeartbeats 4000000 in
theorem rwo_any (A : Option Addr) (m c : Nat) (L : List Int) (l : Nat) (n d : Int) (w : World) (h : Pol .n w (.slice A m c) L l) (hm : m ≤ 14) (hl : l ≤ 400) (hn : Fit n) (hd : Fit d) (hmb : Maybe n d) (hc : Cf L) (h0 : 0 < m) :
    Calls Tryz.prog 82 #[.slice A m c, .agg #[.int .i64 n, .int .i64 d]] w (RwE (woP n d L) (l + 546) w) := by
  have hmL := h.cap.1
  have H := Lib.hid h
  have HL := Lib.hid (And.intro hmL hc)
  have HMB := Lib.hid hmb
  have htri := tri_le hm
  have HN := Lib.hid (fun W => rof_any n W hn.1 hn.2)
  have HB := Lib.hid (show Rt (w.alloc (.cells #[.int .i64 n, .int .i64 d] 24)) w.heap.size n d ∧ Below w.heap.size w (w.alloc (.cells #[.int .i64 n, .int .i64 d] 24)) from ⟨Rt.new w n d, bel_a _ _⟩)
  have hdne : d ≠ 0 := by have := hmb.1; omega
  have HFD := Lib.hid (show -9223372036854775808 ≤ d ∧ d ≤ 9223372036854775807 from hd)
  clear h hmL hc hmb
  go_enter Tryz.func82, Tryz.ntmps82
  go_wp2_with fail
  go_loopw [0, 6] (fun p t wr => ∃ (P : List Int) (k : Nat) (A1 : Option Addr) (c1 y lp : Nat), p = .slice A1 y c1 ∧ t = .int .i64 (k : Int) ∧ y = P.length ∧ Pol .n wr (.slice A1 y c1) P lp ∧ Cf P ∧ 0 < y ∧ y ≤ m ∧ k ≤ m - y ∧ lp + 6 * tri y ≤ l + 6 * tri m ∧
    woP n d L = ((woP n d P).1, (woP n d P).2 + k) ∧ Below w.heap.size w wr ∧ Rt wr w.heap.size n d) (fun p _ _ => lenOf p)
  case atStart => exact ⟨L, 0, A, c, m, l, rfl, rfl, HL.out.1, H.out.bel HB.out.2, HL.out.2, h0, Nat.le_refl _, Nat.zero_le _, Nat.le_refl _, rfl, HB.out.2, HB.out.1⟩
  case round =>
    obtain ⟨wi, hwi⟩ : ∃ W, W = wr := ⟨_, rfl⟩
    subst hwi
    obtain ⟨P, k, A1, c1, y, lp, rfl, rfl, hy, hP, hC, hy0, hym, hk, hlp, hw, hb, hr⟩ := hrel
    obtain ⟨M, hM⟩ : ∃ M, M = y - 1 := ⟨_, rfl⟩
    have htr : tri y = tri M + M := by rw [show y = M + 1 by omega]; rfl
    have hlpm : lp + 6 * M ≤ 946 := by omega
    have HY := Lib.hid (And.intro hy (And.intro hC hw))
    have HP := Lib.hid hP
    have HB1 := Lib.hid (And.intro hr hb)
    have HTR := Lib.hid (And.intro htr hlp)
    have hMa : M < y := by omega
    have hMb : y ≤ M + 1 := by omega
    clear hy hC hw hP hb hr htr hlp hM
    obtain ⟨f0, f1⟩ := rt_facts HB1.out.1
    by_cases hgt : 1 < y
    · by_cases hz : hor n d P = 0
      · have hsg : (sgn (hor n d P) == 0) = true := by rw [sgn_zero]; exact decide_eq_true hz
        have HW := Lib.hid (wo_next HMB.out HY.out.2.1 (by rw [← HY.out.1]; exact hy0) hz)
        have e3 : (y : Int) - 1 = (M : Int) := by omega
        have hmk := fun W => mkNum M (by omega) W (M : Int) rfl
        clear hz
        go_upto_region 5 with (first
          | (go_at_call 44; (with_reducible refine (rhor_any A1 y c1 P lp n d _ HP.out (by omega) (by omega) hn hd).mono ?_); rintro e w3 he; obtain ⟨n3, B3, p3, q3, rfl, he1, hb⟩ := he.open_; have HE3 := Lib.hid he1; have HBB := Lib.hid hb; clear he he1 hb)
          | (go_at_call 43; (with_reducible refine (rsign_any (.agg #[.bool n3, .slice B3 p3 q3]) (hor n d P) (lp + 10 + 6 * y) _ HE3.out.num_).mono ?_); rintro e w4 ⟨rfl, hb⟩; have HBB := Lib.hid (bel_tr HBB.out hb); clear hb))
        have HS := Lib.hid (show WiH wi ((w4.alloc (.cells (List.flatten (List.replicate M [.bool false, .slice none 0 0])).toArray 69)).alloc (.cells #[.bool false, .slice none 0 0] 69)) w4.heap.size (w4.heap.size + 1) (List.replicate M 0) (lp + 6 * M) false (.slice none 0 0) 0 lp from by
          have hb2 := bel_tr (bel_a w4 (.cells (List.flatten (List.replicate M [.bool false, .slice none 0 0])).toArray 69)) (bel_a _ (.cells #[.bool false, .slice none 0 0] 69))
          have e2 := Bx.new 69 (w4.alloc (.cells (List.flatten (List.replicate M [.bool false, .slice none 0 0])).toArray 69)) false (.slice none 0 0)
          rw [size_a1] at e2
          have hs := HBB.out.size
          exact ⟨bel_tr HBB.out hb2, (Ob.new (K := .n) 69 w4 M (lp + 6 * M)).bel (bel_a _ _), e2, El.zero .n _ _, by omega⟩)
        obtain ⟨go, hgo⟩ : ∃ go, go = w4.heap.size := ⟨_, rfl⟩
        obtain ⟨gv, hgv⟩ : ∃ gv, gv = go + 1 := ⟨_, rfl⟩
        obtain ⟨W5, hW5⟩ : ∃ W5, W5 = (w4.alloc (.cells (List.flatten (List.replicate M [.bool false, .slice none 0 0])).toArray 69)).alloc (.cells #[.bool false, .slice none 0 0] 69) := ⟨_, rfl⟩
        rw [← hW5] at HS ⊢
        rw [← hgo] at HS ⊢
        rw [← hgv] at HS ⊢
        clear hgo hgv hW5 HBB HE3 f0 f1 hmk
        have HXX := Lib.hid (fun (W : World) (hW : Below wi.heap.size wi W) => rt_facts (HB1.out.1.below hW HB1.out.1.lt))
        go_wp2_with fail
        go_loopw [9] (fun s w6 => ∃ (i : Nat) (b : Bool) (v : Value) (a : Int), s = .int .i64 (i : Int) ∧ i ≤ M ∧ a = hd0 (syn n d (P.drop (i + 1))) ∧ WiH wi w6 go gv (List.replicate i 0 ++ syn n d (P.drop (i + 1))) (lp + 6 * M) b v a (lp + 6 * (M - i))) (fun s _ => (intOf s).toNat)
        case atStart =>
          have hnil : P.drop (M + 1) = [] := List.drop_eq_nil_of_le (by rw [← HY.out.1]; omega)
          refine ⟨M, false, .slice none 0 0, 0, rfl, Nat.le_refl _, by rw [hnil]; rfl, ?_⟩
          rw [hnil, show List.replicate M 0 ++ syn n d [] = List.replicate M (0 : Int) by simp [syn]]
          exact HS.out.le (by omega)
        case round =>
          obtain ⟨i, b, v, a, rfl, hi, ha, hS⟩ := hrel
          obtain ⟨Bv, iv, jv, rfl⟩ := hS.ea.ne_int
          have HS := Lib.hid hS
          have HA := Lib.hid ha
          clear hS ha
          rcases i with _ | t
          · have hPn := HS.out.O.pol (by have := HY.out.1; simp [syn_len]; omega)
            rw [show List.replicate 0 (0 : Int) ++ syn n d (P.drop (0 + 1)) = syn n d (P.drop 1) from rfl] at hPn
            have hlen : (syn n d (P.drop 1)).length = M := by have := HW.out.2.2.1; have := HY.out.1; omega
            rw [hlen] at hPn
            have HPn := Lib.hid hPn
            have HLn := Lib.hid hlen
            have HB2 := Lib.hid HS.out.bel
            clear hPn hlen
            go_wp2_with (go_at_call 28; (with_reducible refine (rtrim_any _ M M (syn n d (P.drop 1)) (lp + 6 * M) _ HPn.out).mono ?_); rintro e w7 ⟨rfl, hb⟩; have HB2 := Lib.hid (bel_tr HB2.out hb); have HPn := Lib.hid (HPn.out.bel hb); rw [pl_cf HW.out.2.1, HLn.out]; clear hb)
            exact ⟨⟨syn n d (P.drop 1), k + 1, _, M, M, lp + 6 * M, rfl, by simp, HLn.out.symm, HPn.out, HW.out.2.1, by omega, by omega, by omega, by have := HTR.out.1; have := HTR.out.2; omega, by rw [HY.out.2.2, HW.out.2.2.2]; simp; omega, bel_tr HB1.out.2 HB2.out, HB1.out.1.below HB2.out HB1.out.1.lt⟩, by simp [lenOf]; omega⟩
          · obtain ⟨i, hi2⟩ : ∃ i, i = t + 1 := ⟨_, rfl⟩
            rw [← hi2] at hi HA HS
            rw [← hi2]
            have hi1 : 1 ≤ i := by omega
            have hit : (i : Int) - 1 = (t : Int) := by omega
            have wit : IntKind.i64.wrap (t : Int) = (t : Int) := IntWalk.i64_in _ (by omega)
            have htM : t < M := by omega
            have hiy : i < y := by omega
            have hii : (i : Int) < (y : Int) := by omega
            have hi0 : (0 : Int) ≤ (i : Int) := by omega
            have HI := Lib.hid hi2
            obtain ⟨ad, na, Ba, pa, qa, hA2, had, hga⟩ := HP.out.at_ i (by rw [← HY.out.1]; exact hiy)
            subst hA2
            have HG := Lib.hid hga
            obtain ⟨⟨g0, g1⟩, he⟩ := hga _ HS.out.bel
            have HE := Lib.hid he
            obtain ⟨f0, f1⟩ := HXX.out _ HS.out.bel
            obtain ⟨k0, k1, k2, k3⟩ := HS.out.facts
            obtain ⟨la, hla⟩ : ∃ la, la = lp + 6 * (M - i) := ⟨_, rfl⟩
            rw [← hla] at HS
            have HLA := Lib.hid (show max lp (la + 4 + 1) + 1 ≤ lp + 6 * (M - t) ∧ max lp (la + 4 + 1) + 1 ≤ lp + 6 * M by omega)
            have hla2 : la ≤ 940 := by omega
            obtain ⟨r, hr⟩ : ∃ r, r = (co P i + a * n).tdiv d := ⟨_, rfl⟩
            have HR := Lib.hid (show r = hd0 (syn n d (P.drop (t + 1))) ∧ (List.replicate i (0 : Int) ++ syn n d (P.drop (i + 1))).set t r = List.replicate t 0 ++ syn n d (P.drop (t + 1)) by
              have hiL : i < P.length := by rw [← HY.out.1]; exact hiy
              rw [pdiv_head HI.out hiL, hr, HA.out]
              exact ⟨rfl, pdiv_step HI.out hiL⟩)
            have HRR := Lib.hid hr
            clear hga he hi2 hla hr
            go_wp2_with fail
            refine wt_start (S := (fun w' => w'.cell? (ad.add (i * 2)) = some (.bool na) ∧ w'.cell? { block := (ad.add (i * 2)).block, off := (ad.add (i * 2)).off + 1 } = some (.slice Ba pa qa) ∧ w'.cell? ⟨gv, 0, none⟩ = some (.bool b) ∧ w'.cell? ⟨gv, 1, none⟩ = some (.slice Bv iv jv) ∧ w'.cell? ⟨w.heap.size, 0, none⟩ = some (.int .i64 n) ∧ w'.cell? ⟨w.heap.size, 1, none⟩ = some (.int .i64 d))) 16 (by kernel_rfl) ?_ (fun hHeld => ?_)
            · exact ⟨g0, g1, k0, k1, f0, f1⟩
            refine wt_take (i := 0) (oi := { dst := some 33, op := Op.move (Operand.tmp 0), type := 27, pos := "ref.go:126", after := #[], guard := none }) (v := ?_) [] (by kernel_rfl) rfl (by kernel_rfl) (by kernel_rfl) (by kernel_rfl) rfl (fun _ _ _ h => h) (Or.inl ⟨by rfl, ?_⟩) (by assumption) ?_
            rotate_left 1
            · (intro w0 hS0; (try dsimp only at hS0); go_simp; try with_reducible rfl)
            try simp only [Act.put, List.setIfInBounds_toArray, List.set_cons_zero, List.set_cons_succ]
            refine wt_take (i := 1) (oi := { dst := some 34, op := Op.move (Operand.tmp 9), type := 3, pos := "ref.go:126", after := #[], guard := none }) (v := ?_) [] (by kernel_rfl) rfl (by kernel_rfl) (by kernel_rfl) (by kernel_rfl) rfl (fun _ _ _ h => h) (Or.inl ⟨by rfl, ?_⟩) (by assumption) ?_
            rotate_left 1
            · (intro w0 hS0; (try dsimp only at hS0); go_simp; try with_reducible rfl)
            try simp only [Act.put, List.setIfInBounds_toArray, List.set_cons_zero, List.set_cons_succ]
            refine wt_take (i := 2) (oi := { dst := some 35, op := Op.indexAddr 27 (Operand.tmp 33) (Operand.tmp 34), type := 0, pos := "ref.go:126", after := #[{ on := 0, ground := Ground.data }, { on := 1, ground := Ground.data }], guard := none }) (v := ?_) [] (by kernel_rfl) rfl (by kernel_rfl) (by kernel_rfl) (by kernel_rfl) rfl (fun _ _ _ h => h) (Or.inl ⟨by rfl, ?_⟩) (by assumption) ?_
            rotate_left 1
            · (intro w0 hS0; (try dsimp only at hS0); go_simp; try with_reducible rfl)
            try simp only [Act.put, List.setIfInBounds_toArray, List.set_cons_zero, List.set_cons_succ]
            refine wt_take (i := 3) (oi := { dst := some 36, op := Op.load 69 (Operand.tmp 35), type := 69, pos := "ref.go:126", after := #[{ on := 2, ground := Ground.data }], guard := none }) (v := ?_) [] (by kernel_rfl) rfl (by kernel_rfl) (by kernel_rfl) (by kernel_rfl) rfl (fun _ _ _ h => h) (Or.inl ⟨by rfl, ?_⟩) (by assumption) ?_
            rotate_left 1
            · (intro w0 hS0; (try dsimp only at hS0); go_simp; try with_reducible rfl)
            try simp only [Act.put, List.setIfInBounds_toArray, List.set_cons_zero, List.set_cons_succ]
            refine wt_take (i := 4) (oi := { dst := some 37, op := Op.load 69 (Operand.tmp 8), type := 69, pos := "ref.go:126", after := #[], guard := none }) (v := ?_) [] (by kernel_rfl) rfl (by kernel_rfl) (by kernel_rfl) (by kernel_rfl) rfl (fun _ _ _ h => h) (Or.inl ⟨by rfl, ?_⟩) (by assumption) ?_
            rotate_left 1
            · (intro w0 hS0; (try dsimp only at hS0); go_simp; try with_reducible rfl)
            try simp only [Act.put, List.setIfInBounds_toArray, List.set_cons_zero, List.set_cons_succ]
            refine wt_take (i := 5) (oi := { dst := some 38, op := Op.fieldAddr 24 (Operand.tmp 3) 0, type := 0, pos := "ref.go:126", after := #[], guard := none }) (v := ?_) [] (by kernel_rfl) rfl (by kernel_rfl) (by kernel_rfl) (by kernel_rfl) rfl (fun _ _ _ h => h) (Or.inl ⟨by rfl, ?_⟩) (by assumption) ?_
            rotate_left 1
            · (intro w0 hS0; (try dsimp only at hS0); go_simp; try with_reducible rfl)
            try simp only [Act.put, List.setIfInBounds_toArray, List.set_cons_zero, List.set_cons_succ]
            refine wt_take (i := 6) (oi := { dst := some 39, op := Op.load 2 (Operand.tmp 38), type := 2, pos := "ref.go:126", after := #[{ on := 5, ground := Ground.data }], guard := none }) (v := ?_) [] (by kernel_rfl) rfl (by kernel_rfl) (by kernel_rfl) (by kernel_rfl) rfl (fun _ _ _ h => h) (Or.inl ⟨by rfl, ?_⟩) (by assumption) ?_
            rotate_left 1
            · (intro w0 hS0; (try dsimp only at hS0); go_simp; try with_reducible rfl)
            try simp only [Act.put, List.setIfInBounds_toArray, List.set_cons_zero, List.set_cons_succ]
            refine wt_take (i := 10) (oi := { dst := some 43, op := Op.fieldAddr 24 (Operand.tmp 3) 1, type := 0, pos := "ref.go:126", after := #[], guard := none }) (v := ?_) [] (by kernel_rfl) rfl (by kernel_rfl) (by kernel_rfl) (by kernel_rfl) rfl (fun _ _ _ h => h) (Or.inl ⟨by rfl, ?_⟩) (by assumption) ?_
            rotate_left 1
            · (intro w0 hS0; (try dsimp only at hS0); go_simp; try with_reducible rfl)
            try simp only [Act.put, List.setIfInBounds_toArray, List.set_cons_zero, List.set_cons_succ]
            refine wt_take (i := 11) (oi := { dst := some 44, op := Op.load 2 (Operand.tmp 43), type := 2, pos := "ref.go:126", after := #[{ on := 10, ground := Ground.data }], guard := none }) (v := ?_) [] (by kernel_rfl) rfl (by kernel_rfl) (by kernel_rfl) (by kernel_rfl) rfl (fun _ _ _ h => h) (Or.inl ⟨by rfl, ?_⟩) (by assumption) ?_
            rotate_left 1
            · (intro w0 hS0; (try dsimp only at hS0); go_simp; try with_reducible rfl)
            try simp only [Act.put, List.setIfInBounds_toArray, List.set_cons_zero, List.set_cons_succ]
            refine wt_next (i := 7) (o := { dst := some 40, op := Op.call { callee := Callee.value (Operand.func 71), args := #[Operand.tmp 39], argTypes := #[2] }, type := 69, pos := "ref.go:126", after := #[{ on := 6, ground := Ground.data }], guard := none }) (by kernel_rfl) rfl (fun K hK => ?_)
            go_simp
            (go_at_call 71; (with_reducible refine (HN.out _).mono ?_); rintro e wa he; obtain ⟨n6, B6, p6, q6, rfl, he1, hb⟩ := he.open1; have HS := Lib.hid (HS.out.drew.next hb); have HE := Lib.hid (HE.out.drew.bel hb); have HE6 := Lib.hid he1; clear k0 k1 k2 k3 g0 g1 f0 f1 he he1; obtain ⟨k0, k1, k2, k3⟩ := HS.out.facts; obtain ⟨g0, g1⟩ := (HG.out _ HS.out.bel).1; obtain ⟨f0, f1⟩ := HXX.out _ HS.out.bel; clear hb)
            refine hK.out _ _ ⟨g0, g1, k0, k1, f0, f1⟩ (fun hHeld => ?_)
            clear hK K
            try simp only [Act.put, List.setIfInBounds_toArray, List.set_cons_zero, List.set_cons_succ]
            refine wt_next (i := 8) (o := { dst := some 41, op := Op.call { callee := Callee.value (Operand.func 70), args := #[Operand.tmp 37, Operand.tmp 40], argTypes := #[69, 69] }, type := 69, pos := "ref.go:126", after := #[{ on := 4, ground := Ground.data }, { on := 7, ground := Ground.data }, { on := 7, ground := Ground.chain }], guard := none }) (by kernel_rfl) rfl (fun K hK => ?_)
            go_simp
            (go_at_call 70; (with_reducible refine (rmul_any (.agg #[.bool b, .slice Bv iv jv]) (.agg #[.bool n6, .slice B6 p6 q6]) a n la 4 _ HS.out.ea.num_ HE6.out.num_ (by omega) (by omega)).mono ?_); rintro e wb he; obtain ⟨n7, B7, p7, q7, rfl, he1, hb⟩ := he.open1; have HS := Lib.hid (HS.out.next hb); have HE := Lib.hid (HE.out.bel hb); have HE7 := Lib.hid he1; clear k0 k1 k2 k3 g0 g1 f0 f1 he he1; obtain ⟨k0, k1, k2, k3⟩ := HS.out.facts; obtain ⟨g0, g1⟩ := (HG.out _ HS.out.bel).1; obtain ⟨f0, f1⟩ := HXX.out _ HS.out.bel; clear hb)
            refine hK.out _ _ ⟨g0, g1, k0, k1, f0, f1⟩ (fun hHeld => ?_)
            clear hK K
            try simp only [Act.put, List.setIfInBounds_toArray, List.set_cons_zero, List.set_cons_succ]
            refine wt_next (i := 9) (o := { dst := some 42, op := Op.call { callee := Callee.value (Operand.func 79), args := #[Operand.tmp 36, Operand.tmp 41], argTypes := #[69, 69] }, type := 69, pos := "ref.go:126", after := #[{ on := 3, ground := Ground.data }, { on := 8, ground := Ground.data }, { on := 8, ground := Ground.chain }], guard := none }) (by kernel_rfl) rfl (fun K hK => ?_)
            go_simp
            (go_at_call 79; (with_reducible refine (radd_any (.agg #[.bool na, .slice Ba pa qa]) (.agg #[.bool n7, .slice B7 p7 q7]) (co P i) (a * n) lp (la + 4 + 1) _ HE.out.num_ HE7.out.num_ (by omega) (by omega)).mono ?_); rintro e wc he; obtain ⟨n8, B8, p8, q8, rfl, he1, hb⟩ := he.open1; have HS := Lib.hid (HS.out.next hb); have HE8 := Lib.hid he1; clear k0 k1 k2 k3 g0 g1 f0 f1 he he1; obtain ⟨k0, k1, k2, k3⟩ := HS.out.facts; obtain ⟨g0, g1⟩ := (HG.out _ HS.out.bel).1; obtain ⟨f0, f1⟩ := HXX.out _ HS.out.bel; clear hb)
            refine hK.out _ _ ⟨g0, g1, k0, k1, f0, f1⟩ (fun hHeld => ?_)
            clear hK K
            try simp only [Act.put, List.setIfInBounds_toArray, List.set_cons_zero, List.set_cons_succ]
            refine wt_next (i := 12) (o := { dst := some 45, op := Op.call { callee := Callee.value (Operand.func 107), args := #[Operand.tmp 42, Operand.tmp 44], argTypes := #[69, 2] }, type := 142, pos := "ref.go:126", after := #[{ on := 9, ground := Ground.data }, { on := 11, ground := Ground.data }, { on := 9, ground := Ground.chain }], guard := none }) (by kernel_rfl) rfl (fun K hK => ?_)
            go_simp
            (go_at_call 107; (with_reducible refine (rdiv_any (.agg #[.bool n8, .slice B8 p8 q8]) (co P i + a * n) d (max lp (la + 4 + 1) + 1) _ HE8.out.num_ (by omega) hdne HFD.out.1 HFD.out.2).mono ?_); rintro e wd he; obtain ⟨n9, B9, p9, q9, nz, Bz, pz, qz, rfl, he1, hb⟩ := he.open1; rw [← HRR.out] at he1; have HS := Lib.hid (HS.out.next hb); have HE9 := Lib.hid he1; clear k0 k1 k2 k3 g0 g1 f0 f1 he he1; obtain ⟨k0, k1, k2, k3⟩ := HS.out.facts; obtain ⟨g0, g1⟩ := (HG.out _ HS.out.bel).1; obtain ⟨f0, f1⟩ := HXX.out _ HS.out.bel; clear hb)
            refine hK.out _ _ ⟨g0, g1, k0, k1, f0, f1⟩ (fun hHeld => ?_)
            clear hK K
            try simp only [Act.put, List.setIfInBounds_toArray, List.set_cons_zero, List.set_cons_succ]
            refine wt_take (i := 13) (oi := { dst := some 32, op := Op.move (Operand.tmp 45), type := 142, pos := "ref.go:126", after := #[{ on := 12, ground := Ground.data }], guard := none }) (v := ?_) [] (by kernel_rfl) rfl (by kernel_rfl) (by kernel_rfl) (by kernel_rfl) rfl (fun _ _ _ h => h) (Or.inl ⟨by rfl, ?_⟩) (by assumption) ?_
            rotate_left 1
            · (intro w0 hS0; (try dsimp only at hS0); go_simp; try with_reducible rfl)
            try simp only [Act.put, List.setIfInBounds_toArray, List.set_cons_zero, List.set_cons_succ]
            refine wt_take (i := 14) (oi := { dst := some 46, op := Op.extract (Operand.tmp 32) 0, type := 69, pos := "ref.go:126", after := #[{ on := 13, ground := Ground.data }], guard := none }) (v := ?_) [] (by kernel_rfl) rfl (by kernel_rfl) (by kernel_rfl) (by kernel_rfl) rfl (fun _ _ _ h => h) (Or.inl ⟨by rfl, ?_⟩) (by assumption) ?_
            rotate_left 1
            · (intro w0 hS0; (try dsimp only at hS0); go_simp; try with_reducible rfl)
            try simp only [Act.put, List.setIfInBounds_toArray, List.set_cons_zero, List.set_cons_succ]
            refine wt_takeB (i := 15) (oi := { dst := some 47, op := Op.extract (Operand.tmp 32) 1, type := 69, pos := "ref.go:126", after := #[{ on := 13, ground := Ground.data }, { on := 16, ground := Ground.gcOnly Departure.lateStores }], guard := none }) (v := ?_) rfl (by kernel_rfl) (by kernel_rfl) (by kernel_rfl) rfl (fun _ _ _ h => h) (Or.inl ⟨by rfl, ?_⟩) (by assumption) ?_
            rotate_left 1
            · (intro w0 hS0; (try dsimp only at hS0); go_simp; try with_reducible rfl)
            try simp only [Act.put, List.setIfInBounds_toArray, List.set_cons_zero, List.set_cons_succ]
            refine wt_last (o := { dst := none, op := Op.store 69 (Operand.tmp 8) (Operand.tmp 46), type := 0, pos := "ref.go:126", after := #[{ on := 14, ground := Ground.data }, { on := 12, ground := Ground.chain }, { on := 0, ground := Ground.phase }, { on := 1, ground := Ground.phase }, { on := 2, ground := Ground.phase }, { on := 3, ground := Ground.phase }, { on := 4, ground := Ground.phase }, { on := 5, ground := Ground.phase }, { on := 6, ground := Ground.phase }, { on := 7, ground := Ground.phase }, { on := 8, ground := Ground.phase }, { on := 9, ground := Ground.phase }, { on := 10, ground := Ground.phase }, { on := 11, ground := Ground.phase }, { on := 12, ground := Ground.phase }, { on := 13, ground := Ground.phase }, { on := 14, ground := Ground.phase }, { on := 15, ground := Ground.textOnly Departure.lateStores }], guard := none }) (by kernel_rfl) (by kernel_rfl) rfl (fun K hK => ?_)
            go_simp
            refine hK.out _ _ ?_
            clear hK K hHeld
            try simp only [Act.put, List.setIfInBounds_toArray, List.set_cons_zero, List.set_cons_succ]
            have HV := Lib.hid (HS.out.putv HE9.out)
            obtain ⟨gq, hgq⟩ : ∃ W, W = (wd.setCell ⟨gv, 0, none⟩ (.bool n9)).setCell ⟨gv, 1, none⟩ (.slice B9 p9 q9) := ⟨_, rfl⟩
            have HE9 := Lib.hid (HE9.out.box HS.out.V n9 B9 p9 q9)
            rw [← hgq] at HV HE9 ⊢
            clear k0 k1 k2 k3 g0 g1 f0 f1 hgq HS HE6 HE7 HE8 HE
            obtain ⟨k0, k1, k2, k3⟩ := HV.out.facts
            have fr := HV.out.O.fr
            obtain ⟨_, _, _, _, g2, g3, _⟩ := HV.out.O.get t (by rw [List.length_append, List.length_replicate]; omega)
            go_wp2_with fail
            have h9 := (HV.out.puto (HE9.out.le (show max lp (la + 4 + 1) + 1 ≤ lp + 6 * M from HLA.out.2)) t).le HLA.out.1
            rw [HR.out.2] at h9
            exact ⟨⟨t, n9, .slice B9 p9 q9, r, rfl, by omega, HR.out.1, h9⟩, by simp [intOf]; omega⟩
      · have hsg : (sgn (hor n d P) == 0) = false := by rw [sgn_zero]; exact decide_eq_false hz
        have HZ := Lib.hid hz
        clear hz
        go_wp2_with (first
          | (go_at_call 44; (with_reducible refine (rhor_any A1 y c1 P lp n d _ HP.out (by omega) (by omega) hn hd).mono ?_); rintro e w3 he; obtain ⟨n3, B3, p3, q3, rfl, he1, hb⟩ := he.open_; have HE3 := Lib.hid he1; have HBB := Lib.hid hb; clear he he1 hb)
          | (go_at_call 43; (with_reducible refine (rsign_any (.agg #[.bool n3, .slice B3 p3 q3]) (hor n d P) (lp + 10 + 6 * y) _ HE3.out.num_).mono ?_); rintro e w4 ⟨rfl, hb⟩; have HBB := Lib.hid (bel_tr HBB.out hb); clear hb))
        go_ret2
        have e1 := woP_stop (n := n) (d := d) (p := P) (fun h => HZ.out h.1)
        have e2 := HY.out.2.2
        rw [e1] at e2
        have hy := HY.out.1
        have h3 := HTR.out.2
        subst hy
        rw [e2]
        exact ⟨A1, c1, by simp, (HP.out.bel HBB.out).le (by omega), bel_tr HB1.out.2 HBB.out⟩
    · go_wp2_with fail
      go_ret2
      have hy := HY.out.1
      have e1 := woP_stop (n := n) (d := d) (p := P) (fun h => hgt (by rw [hy]; exact h.2))
      have e2 := HY.out.2.2
      rw [e1] at e2
      have h3 := HTR.out.2
      subst hy
      rw [e2]
      exact ⟨A1, c1, by simp, HP.out.le (by omega), HB1.out.2⟩
end Go.Proofs.YtpobhegllhhdgaaGreat
