/- Proved here: the point in the middle between two (the program's middle), and where the first point on the outline is (slices.IndexFunc). Condition: points that lie in memory, and may be. -/
import Derived.Test.YtnnanlilnlimaaaEn
namespace Go.Proofs.Ytnnanlilnlimaaa
open Go.RowKit

theorem ret_pt {fn : Func} {q : Tmp} {tmps : Array Value} {W : World} {g : Nat} {a : P2} (hf : fn.results = #[.cell q 35]) (hq : tmps.getD q undef = .pointer (some ⟨g, 0, none⟩)) (ha : Pbx W g a) :
    (results fn tmps).run Try.prog W = .ok (.agg #[.int .i64 a.1, .int .i64 a.2]) W := by
  obtain ⟨c0, c1, _, _⟩ := ha.cells
  rw [Array.getD_eq_getD_getElem?] at hq
  simp [results, hf, hq, go_sem, c0, c1]
theorem mul_px2 {x y px : Int} (h1 : 1 ≤ px) (h2 : px ≤ 128) (hx : okU x) (hy : okU y) : -(128 * 65534) ≤ (x + y) * px ∧ (x + y) * px ≤ 128 * 65534 := by
  have := mul_px (px := px) (s := x + y) (B := 65534) h1 h2 (by have := hx.1; have := hy.1; omega) (by have := hx.2; have := hy.2; omega) (by decide)
  rw [Int.mul_comm (x + y) px]
  exact this
set_option maxHeartbeats 4000000 in
set_option maxRecDepth 100000 in
theorem middle_any (ax ay bx by_ px : Int) (ao bo : Bool) (w : World) (hp : 1 ≤ px ∧ px ≤ 128) (h1 : okU ax) (h2 : okU ay) (h3 : okU bx) (h4 : okU by_) :
    Calls Try.prog 29 #[.agg #[.int .i64 ax, .int .i64 ay, .bool ao], .agg #[.int .i64 bx, .int .i64 by_, .bool bo], .int .i64 px] w fun e w' => e = .returned (.agg #[.int .i64 ((ax + bx) * px), .int .i64 ((ay + by_) * px)]) ∧ Below w.heap.size w w' := by
  have m1 := mul_px2 hp.1 hp.2 h1 h3
  have m2 := mul_px2 hp.1 hp.2 h2 h4
  obtain ⟨h11, h12⟩ := h1
  obtain ⟨h21, h22⟩ := h2
  obtain ⟨h31, h32⟩ := h3
  obtain ⟨h41, h42⟩ := h4
  have v1 : IntKind.i64.wrap (ax + bx) = ax + bx := i64_in _ (by omega)
  have v2 : IntKind.i64.wrap (ay + by_) = ay + by_ := i64_in _ (by omega)
  have v3 : IntKind.i64.wrap ((ax + bx) * px) = (ax + bx) * px := i64_in _ (by omega)
  have v4 : IntKind.i64.wrap ((ay + by_) * px) = (ay + by_) * px := i64_in _ (by omega)
  have hA1 : Below w.heap.size w (w.alloc (.cells #[.int .i64 ax, .int .i64 ay, .bool ao] 40)) := (Below.refl _ _).alloc (Nat.le_refl _) _
  have hA2 : Below w.heap.size w ((w.alloc (.cells #[.int .i64 ax, .int .i64 ay, .bool ao] 40)).alloc (.cells #[.int .i64 bx, .int .i64 by_, .bool bo] 40)) := hA1.alloc (by simp) _
  have hA3 : Below w.heap.size w (((w.alloc (.cells #[.int .i64 ax, .int .i64 ay, .bool ao] 40)).alloc (.cells #[.int .i64 bx, .int .i64 by_, .bool bo] 40)).alloc (.cells #[.int .i64 0, .int .i64 0] 35)) := hA2.alloc (by simp; omega) _
  obtain ⟨W2, hW2⟩ : ∃ W, W = (w.alloc (.cells #[.int .i64 ax, .int .i64 ay, .bool ao] 40)).alloc (.cells #[.int .i64 bx, .int .i64 by_, .bool bo] 40) := ⟨_, rfl⟩
  have hs2 : W2.heap.size = w.heap.size + 1 + 1 := by rw [hW2]; simp
  have hP2 : Ppt W2 w.heap.size (ax, ay, ao) := by rw [hW2]; exact Ppt.bel (Ppt.new w (ax, ay, ao)) ((Below.refl _ _).alloc (Nat.le_refl _) _)
  have hQ2 : Ppt W2 (w.heap.size + 1) (bx, by_, bo) := by
    have := Ppt.new (w.alloc (.cells #[.int .i64 ax, .int .i64 ay, .bool ao] 40)) (bx, by_, bo)
    rw [hW2]
    unfold Ppt
    simpa using this
  have hA : Below W2.heap.size W2 (W2.alloc (.cells #[.int .i64 0, .int .i64 0] 35)) := (Below.refl _ _).alloc (Nat.le_refl _) _
  have HM := Lib.hid (And.intro (hP2.bel hA) (hQ2.bel hA))
  have HR := Lib.hid (show Pbx (W2.alloc (.cells #[.int .i64 0, .int .i64 0] 35)) (w.heap.size + 1 + 1) (0, 0) from by have := Pbx.new W2 (0, 0); rw [hs2] at this; exact this)
  rw [← hW2] at hA3
  have HA3 := Lib.hid hA3
  have HW := Lib.hid hW2
  clear hA1 hA2 hA3 hW2 hs2 hP2 hQ2 hA m1 m2
  go_enter Try.func29, Try.ntmps29
  go_upto_region 1 with fail
  rw [← HW.out]
  obtain ⟨W3, hW3⟩ : ∃ W, W = W2.alloc (.cells #[.int .i64 0, .int .i64 0] 35) := ⟨_, rfl⟩
  rw [← hW3] at HM HR HA3 ⊢
  obtain ⟨c0, c1, c2⟩ := HM.out.1.cells
  obtain ⟨d0, d1, d2⟩ := HM.out.2.cells
  obtain ⟨y0, y1, y2, y3⟩ := HR.out.cells
  dsimp only at c0 c1 c2 d0 d1 d2 y0 y1
  clear hW3
  go_wp2_with fail
  have hR := HR.out.set ((ax + bx) * px, (ay + by_) * px)
  have hb := below_st2 (below_st2 HA3.out (g := w.heap.size + 1 + 1) (j := 0) (u := .int .i64 ((ax + bx) * px)) (by omega)) (g := w.heap.size + 1 + 1) (j := 1) (u := .int .i64 ((ay + by_) * px)) (by omega)
  exact bodyPost_ret (ret_pt rfl rfl hR) rfl ⟨rfl, hb⟩
set_option maxHeartbeats 4000000 in
theorem isOn_any (x y : Int) (o : Bool) (w : World) : Calls Try.prog 28 #[.agg #[.int .i64 x, .int .i64 y, .bool o]] w fun e w' => e = .returned (.bool o) ∧ Below w.heap.size w w' := by
  obtain ⟨c0, c1, c2⟩ := Ppt.cells (show Ppt (w.alloc (.cells #[.int .i64 x, .int .i64 y, .bool o] 40)) w.heap.size (x, y, o) from Ppt.new w (x, y, o))
  have HA := Lib.hid (show Below w.heap.size w (w.alloc (.cells #[.int .i64 x, .int .i64 y, .bool o] 40)) from (Below.refl _ _).alloc (Nat.le_refl _) _)
  dsimp only at c0 c1 c2
  go_enter Try.func28, Try.ntmps28
  go_wp2_with fail
  go_ret
  exact ⟨rfl, HA.out⟩
/-- What the first point on the outline is. -/
def FstI (L : List Pt) (z : Int) : Prop := (∃ k : Nat, k < L.length ∧ z = (k : Int) ∧ po L k = true ∧ ∀ i, i < k → po L i = false) ∨ (z = -1 ∧ ∀ i, i < L.length → po L i = false)
set_option maxHeartbeats 4000000 in
set_option maxRecDepth 100000 in
theorem index_any (A : Option Addr) (m c : Nat) (L : List Pt) (w : World) (hL : Ptl w A m L) (hm : m ≤ 100000) :
    Calls Try.prog 27 #[.slice A m c, .func (.func 28) #[] #[]] w fun e w' => ∃ z, e = .returned (.int .i64 z) ∧ FstI L z ∧ Below w.heap.size w w' := by
  have HLen := Lib.hid hL.len
  have HL := Lib.hid hL
  clear hL
  go_enter Try.func27, Try.ntmps27
  go_wp2_with fail
  go_loopw [8] (fun i wr => ∃ k : Nat, i = .int .i64 (k : Int) ∧ k ≤ m ∧ (∀ i, i < k → po L i = false) ∧ Below w.heap.size w wr) (fun i _ => m - (intOf i).toNat)
  case atStart => exact ⟨0, rfl, Nat.zero_le _, fun i hi => by omega, Below.refl _ _⟩
  case round =>
    obtain ⟨k, rfl, hk, hok, hb⟩ := hrel
    have HB := Lib.hid hb
    have HOK := Lib.hid hok
    by_cases hgo : k < m
    · obtain ⟨ad, hA, c0, c1, c2⟩ := HL.out.at_ hb hgo
      subst hA
      have CO := Lib.hid (isOn_any (px L k) (py L k) (po L k) wr)
      obtain ⟨o, ho⟩ : ∃ o, o = po L k := ⟨_, rfl⟩
      rw [← ho] at CO c2
      have HO := Lib.hid ho
      clear hok hb ho
      cases o with
      | true =>
        go_wp2_with (go_at_call 28; (with_reducible refine CO.out.mono ?_); rintro e w1 ⟨rfl, hb⟩; have HB1 := Lib.hid (HB.out.trans (hb.mono HB.out.size)); clear hb)
        go_ret
        exact ⟨_, rfl, .inl ⟨k, by rw [HLen.out]; exact hgo, rfl, HO.out.symm, HOK.out⟩, HB1.out⟩
      | false =>
        go_wp2_with (go_at_call 28; (with_reducible refine CO.out.mono ?_); rintro e w1 ⟨rfl, hb⟩; have HB1 := Lib.hid (HB.out.trans (hb.mono HB.out.size)); clear hb)
        exact ⟨⟨k + 1, by simp, by omega, all_succ HOK.out HO.out.symm, HB1.out⟩, by simp [intOf]; omega⟩
    · obtain rfl : k = m := by omega
      clear hok hb
      go_wp2_with fail
      go_ret
      exact ⟨_, rfl, .inr ⟨rfl, fun i hi => HOK.out i (by rw [HLen.out] at hi; exact hi)⟩, HB.out⟩
end Go.Proofs.Ytnnanlilnlimaaa
