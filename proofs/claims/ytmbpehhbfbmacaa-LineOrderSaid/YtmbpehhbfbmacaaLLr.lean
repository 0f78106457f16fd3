/- Proved here: what the law LineOrder answers, over memory. Condition: numbers of 32 bits and of eight. -/
import Derived.Test.YtmbpehhbfbmacaaLLo
import Derived.Test.YtmbpehhbfbmacaaLLq
import Derived.Test.YtmbpehhbfbmacaaLPAi
namespace Go.Proofs.Ytmbpehhbfbmacaa
open Go.RowKit

/-- The boxes: of the points as given, and a row of three points. -/
structure OrS (w W : World) (b7 : Nat) (L p : List Int) : Prop where
  bel : Below w.heap.size w W
  h2 : W.heap[w.heap.size]? = some (.cells (L.map fun x => .int .i32 x).toArray 44 (0, 0))
  h7 : W.heap[b7]? = some (.cells (i6 p).toArray 24 (0, 0))
  g7 : w.heap.size < b7
section
variable {w W W' : World} {b7 : Nat} {L p : List Int}
theorem OrS.next (h : OrS w W b7 L p) (hb : Below W.heap.size W W') : OrS w W' b7 L p :=
  ⟨h.bel.trans (hb.mono h.bel.size), row_keep hb h.h2, row_keep hb h.h7, h.g7⟩
theorem OrS.set7 (h : OrS w W b7 L p) (j : Nat) (x y : Int) : OrS w ((W.setCell ⟨b7, j, none⟩ (.int .i64 x)).setCell ⟨b7, j + 1, none⟩ (.int .i64 y)) b7 L ((p.set j x).set (j + 1) y) := by
  have ho := onl2 b7 j W (.int .i64 x) (.int .i64 y)
  have g7 := h.g7
  exact ⟨bel_onl h.bel ho (by omega), row_onl ho h.h2 (by omega), row_set h.h7 j x y, g7⟩
end
theorem OrS.start {w w1 : World} (L : List Int) (hb : Below w.heap.size w w1) (hs : w.heap.size < w1.heap.size) (h2 : w1.heap[w.heap.size]? = some (.cells (L.map fun x => .int .i32 x).toArray 44 (0, 0))) :
    OrS w (w1.alloc (.cells #[.int .i64 0, .int .i64 0, .int .i64 0, .int .i64 0, .int .i64 0, .int .i64 0] 24)) w1.heap.size L [0, 0, 0, 0, 0, 0] := by
  have b2 : Below w1.heap.size w1 (w1.alloc (.cells #[.int .i64 0, .int .i64 0, .int .i64 0, .int .i64 0, .int .i64 0, .int .i64 0] 24)) := (Below.refl _ _).alloc (Nat.le_refl _) _
  exact ⟨hb.trans (b2.mono hb.size), row_keep b2 h2, heap_alloc_new w1 _, hs⟩
set_option maxHeartbeats 8000000 in
set_option maxRecDepth 100000 in
theorem law_order (x0 y0 x1 y1 x2 y2 r0 n0 : Int) (w : World) (hx0 : -2147483648 ≤ x0 ∧ x0 ≤ 2147483647) (hy0 : -2147483648 ≤ y0 ∧ y0 ≤ 2147483647) (hx1 : -2147483648 ≤ x1 ∧ x1 ≤ 2147483647) (hy1 : -2147483648 ≤ y1 ∧ y1 ≤ 2147483647) (hx2 : -2147483648 ≤ x2 ∧ x2 ≤ 2147483647) (hy2 : -2147483648 ≤ y2 ∧ y2 ≤ 2147483647) (hr0 : 0 ≤ r0 ∧ r0 ≤ 4294967295) (hn0 : 0 ≤ n0 ∧ n0 ≤ 255) :
    Calls Try.prog 5 #[.agg #[.int .i32 x0, .int .i32 y0, .int .i32 x1, .int .i32 y1, .int .i32 x2, .int .i32 y2], .int .u32 r0, .int .u8 n0] w fun e w' => e = .returned (.bool true) ∧ Below w.heap.size w w' := by
  have CA := Lib.hid (fun W => awake19_any W)
  have vx0 : IntKind.i64.wrap x0 = x0 := IntWalk.i64_in _ (by omega)
  have qx0 : x0.tmod 1048576 = rm x0 := rfl
  have bx0 := rm_in (x := x0)
  have ux0 : IntKind.i64.wrap (rm x0) = rm x0 := IntWalk.i64_in _ (by omega)
  have vy0 : IntKind.i64.wrap y0 = y0 := IntWalk.i64_in _ (by omega)
  have qy0 : y0.tmod 1048576 = rm y0 := rfl
  have by0 := rm_in (x := y0)
  have uy0 : IntKind.i64.wrap (rm y0) = rm y0 := IntWalk.i64_in _ (by omega)
  have vx1 : IntKind.i64.wrap x1 = x1 := IntWalk.i64_in _ (by omega)
  have qx1 : x1.tmod 1048576 = rm x1 := rfl
  have bx1 := rm_in (x := x1)
  have ux1 : IntKind.i64.wrap (rm x1) = rm x1 := IntWalk.i64_in _ (by omega)
  have vy1 : IntKind.i64.wrap y1 = y1 := IntWalk.i64_in _ (by omega)
  have qy1 : y1.tmod 1048576 = rm y1 := rfl
  have by1 := rm_in (x := y1)
  have uy1 : IntKind.i64.wrap (rm y1) = rm y1 := IntWalk.i64_in _ (by omega)
  have vx2 : IntKind.i64.wrap x2 = x2 := IntWalk.i64_in _ (by omega)
  have qx2 : x2.tmod 1048576 = rm x2 := rfl
  have bx2 := rm_in (x := x2)
  have ux2 : IntKind.i64.wrap (rm x2) = rm x2 := IntWalk.i64_in _ (by omega)
  have vy2 : IntKind.i64.wrap y2 = y2 := IntWalk.i64_in _ (by omega)
  have qy2 : y2.tmod 1048576 = rm y2 := rfl
  have by2 := rm_in (x := y2)
  have uy2 : IntKind.i64.wrap (rm y2) = rm y2 := IntWalk.i64_in _ (by omega)
  obtain ⟨R, qR⟩ : ∃ R : Nat, r0.tmod 1048576 = (R : Int) := ⟨(r0.tmod 1048576).toNat, by rw [Int.tmod_eq_emod_of_nonneg hr0.1]; omega⟩
  have hR : R < 1048576 := by rw [Int.tmod_eq_emod_of_nonneg hr0.1] at qR; omega
  obtain ⟨N, qN⟩ : ∃ N : Nat, n0.tmod 127 = (N : Int) := ⟨(n0.tmod 127).toNat, by rw [Int.tmod_eq_emod_of_nonneg hn0.1]; omega⟩
  have hN : N < 127 := by rw [Int.tmod_eq_emod_of_nonneg hn0.1] at qN; omega
  obtain ⟨RR, hRR⟩ : ∃ RR, RR = R + 1 := ⟨_, rfl⟩
  obtain ⟨NN, hNN⟩ : ∃ NN, NN = N + 1 := ⟨_, rfl⟩
  have u1 : IntKind.u32.wrap (R : Int) = (R : Int) := IntWalk.u32_in _ (by omega)
  have u2 : IntKind.i64.wrap (R : Int) = (R : Int) := IntWalk.i64_in _ (by omega)
  have u3 : IntKind.i64.wrap (1 + (R : Int)) = (RR : Int) := by rw [IntWalk.i64_in _ (by omega)]; omega
  have u4 : IntKind.u8.wrap (N : Int) = (N : Int) := IntWalk.u8_in _ (by omega)
  have u5 : IntKind.i64.wrap (N : Int) = (N : Int) := IntWalk.i64_in _ (by omega)
  have u6 : IntKind.i64.wrap (1 + (N : Int)) = (NN : Int) := by rw [IntWalk.i64_in _ (by omega)]; omega
  have u7 : IntKind.i64.wrap (2 * (NN : Int)) = ((2 * NN : Nat) : Int) := by rw [IntWalk.i64_in _ (by omega)]; simp
  have hRb : 1 ≤ RR ∧ RR ≤ 1048576 := by omega
  have hNb : 1 ≤ NN ∧ NN ≤ 127 := by omega
  have hP : riP (RR : Int) (NN : Int) := ⟨⟨by omega, by omega⟩, by omega, by omega⟩
  have hP2 : riP (RR : Int) ((2 * NN : Nat) : Int) := ⟨⟨by omega, by omega⟩, by omega, by omega⟩
  have fp0 : fiP (rm x0, rm y0) := ⟨⟨by dsimp only; omega, by dsimp only; omega⟩, by dsimp only; omega, by dsimp only; omega⟩
  have fp1 : fiP (rm x1, rm y1) := ⟨⟨by dsimp only; omega, by dsimp only; omega⟩, by dsimp only; omega, by dsimp only; omega⟩
  have fp2 : fiP (rm x2, rm y2) := ⟨⟨by dsimp only; omega, by dsimp only; omega⟩, by dsimp only; omega, by dsimp only; omega⟩
  have S1 := Lib.hid (fun W => show Calls Try.prog 8 #[.agg #[.int .i64 (rm x0), .int .i64 (rm y0)], .agg #[.int .i64 (rm x1), .int .i64 (rm y1)], .agg #[.int .i64 (rm x2), .int .i64 (rm y2)], .int .i64 (RR : Int), .int .i64 (NN : Int)] W fun e w' => e = .returned (.tuple #[.int .i64 (segN (rm x0, rm y0) (rm x1, rm y1) (rm x2, rm y2) RR NN : Int), .int .i64 0]) ∧ Below W.heap.size W w' from by
    have h := pseg_any (rm x0) (rm y0) (rm x1) (rm y1) (rm x2) (rm y2) (RR : Int) (NN : Int) W
    rw [show sgA (rm x0, rm y0) (rm x1, rm y1) (rm x2, rm y2) (RR : Int) (NN : Int) = ((segN (rm x0, rm y0) (rm x1, rm y1) (rm x2, rm y2) RR NN : Int), 0) from if_pos ⟨hP, fp0, fp1, fp2⟩] at h
    exact h)
  have S2 := Lib.hid (fun W => show Calls Try.prog 9 #[.agg #[.int .i64 (rm x0), .int .i64 (rm y0)], .agg #[.int .i64 (rm x1), .int .i64 (rm y1)], .agg #[.int .i64 (rm x2), .int .i64 (rm y2)], .int .i64 (RR : Int), .int .i64 (NN : Int)] W fun e w' => e = .returned (.tuple #[.int .i64 (rayN (rm x0, rm y0) (rm x1, rm y1) (rm x2, rm y2) RR NN : Int), .int .i64 0]) ∧ Below W.heap.size W w' from by
    have h := pray_any (rm x0) (rm y0) (rm x1) (rm y1) (rm x2) (rm y2) (RR : Int) (NN : Int) W
    rw [show ryA (rm x0, rm y0) (rm x1, rm y1) (rm x2, rm y2) (RR : Int) (NN : Int) = ((rayN (rm x0, rm y0) (rm x1, rm y1) (rm x2, rm y2) RR NN : Int), 0) from if_pos ⟨hP, fp0, fp1, fp2⟩] at h
    exact h)
  have S3 := Lib.hid (fun W => show Calls Try.prog 7 #[.agg #[.int .i64 (rm x0), .int .i64 (rm y0)], .agg #[.int .i64 (rm x1), .int .i64 (rm y1)], .int .i64 (RR : Int), .int .i64 (NN : Int)] W fun e w' => e = .returned (.tuple #[.int .i64 (nearN (rm x0, rm y0) (rm x1, rm y1) RR NN : Int), .int .i64 0]) ∧ Below W.heap.size W w' from by
    have h := ppoint_any (rm x0) (rm y0) (rm x1) (rm y1) (RR : Int) (NN : Int) W
    rw [show ptA (rm x0, rm y0) (rm x1, rm y1) (RR : Int) (NN : Int) = ((nearN (rm x0, rm y0) (rm x1, rm y1) RR NN : Int), 0) from if_pos ⟨hP, fp0, fp1⟩] at h
    exact h)
  have S4 := Lib.hid (fun W => show Calls Try.prog 7 #[.agg #[.int .i64 (rm x0), .int .i64 (rm y0)], .agg #[.int .i64 (rm x2), .int .i64 (rm y2)], .int .i64 (RR : Int), .int .i64 (NN : Int)] W fun e w' => e = .returned (.tuple #[.int .i64 (nearN (rm x0, rm y0) (rm x2, rm y2) RR NN : Int), .int .i64 0]) ∧ Below W.heap.size W w' from by
    have h := ppoint_any (rm x0) (rm y0) (rm x2) (rm y2) (RR : Int) (NN : Int) W
    rw [show ptA (rm x0, rm y0) (rm x2, rm y2) (RR : Int) (NN : Int) = ((nearN (rm x0, rm y0) (rm x2, rm y2) RR NN : Int), 0) from if_pos ⟨hP, fp0, fp2⟩] at h
    exact h)
  have S5 := Lib.hid (fun W => show Calls Try.prog 8 #[.agg #[.int .i64 (rm x0), .int .i64 (rm y0)], .agg #[.int .i64 (rm x2), .int .i64 (rm y2)], .agg #[.int .i64 (rm x1), .int .i64 (rm y1)], .int .i64 (RR : Int), .int .i64 (NN : Int)] W fun e w' => e = .returned (.tuple #[.int .i64 (segN (rm x0, rm y0) (rm x2, rm y2) (rm x1, rm y1) RR NN : Int), .int .i64 0]) ∧ Below W.heap.size W w' from by
    have h := pseg_any (rm x0) (rm y0) (rm x2) (rm y2) (rm x1) (rm y1) (RR : Int) (NN : Int) W
    rw [show sgA (rm x0, rm y0) (rm x2, rm y2) (rm x1, rm y1) (RR : Int) (NN : Int) = ((segN (rm x0, rm y0) (rm x2, rm y2) (rm x1, rm y1) RR NN : Int), 0) from if_pos ⟨hP, fp0, fp2, fp1⟩] at h
    exact h)
  have S6 := Lib.hid (fun W => show Calls Try.prog 8 #[.agg #[.int .i64 (rm x0), .int .i64 (rm y0)], .agg #[.int .i64 (rm x1), .int .i64 (rm y1)], .agg #[.int .i64 (rm x2), .int .i64 (rm y2)], .int .i64 (RR : Int), .int .i64 ((2 * NN : Nat) : Int)] W fun e w' => e = .returned (.tuple #[.int .i64 (segN (rm x0, rm y0) (rm x1, rm y1) (rm x2, rm y2) RR (2 * NN) : Int), .int .i64 0]) ∧ Below W.heap.size W w' from by
    have h := pseg_any (rm x0) (rm y0) (rm x1) (rm y1) (rm x2) (rm y2) (RR : Int) ((2 * NN : Nat) : Int) W
    rw [show sgA (rm x0, rm y0) (rm x1, rm y1) (rm x2, rm y2) (RR : Int) ((2 * NN : Nat) : Int) = ((segN (rm x0, rm y0) (rm x1, rm y1) (rm x2, rm y2) RR (2 * NN) : Int), 0) from if_pos ⟨hP2, fp0, fp1, fp2⟩] at h
    exact h)
  have f1 := seg_a (rm x0, rm y0) (rm x1, rm y1) (rm x2, rm y2) RR NN
  have f2 := seg_b (rm x0, rm y0) (rm x1, rm y1) (rm x2, rm y2) RR NN
  have f3 := ray_seg (rm x0, rm y0) (rm x1, rm y1) (rm x2, rm y2) RR NN
  have f4 := seg_rev (rm x0, rm y0) (rm x1, rm y1) (rm x2, rm y2) RR NN
  have f5 := seg_twice (rm x0, rm y0) (rm x1, rm y1) (rm x2, rm y2) RR NN
  have f6 := seg_top (rm x0, rm y0) (rm x1, rm y1) (rm x2, rm y2) RR NN
  rw [f4] at S5
  obtain ⟨N2, hN2⟩ : ∃ x : Int, x = ((2 * NN : Nat) : Int) := ⟨_, rfl⟩
  rw [← hN2] at u7 S6
  obtain ⟨s, hs⟩ : ∃ x : Int, x = (segN (rm x0, rm y0) (rm x1, rm y1) (rm x2, rm y2) RR NN : Int) := ⟨_, rfl⟩
  obtain ⟨t, ht⟩ : ∃ x : Int, x = (rayN (rm x0, rm y0) (rm x1, rm y1) (rm x2, rm y2) RR NN : Int) := ⟨_, rfl⟩
  obtain ⟨a, ha⟩ : ∃ x : Int, x = (nearN (rm x0, rm y0) (rm x1, rm y1) RR NN : Int) := ⟨_, rfl⟩
  obtain ⟨b, hb⟩ : ∃ x : Int, x = (nearN (rm x0, rm y0) (rm x2, rm y2) RR NN : Int) := ⟨_, rfl⟩
  obtain ⟨tw, htw⟩ : ∃ x : Int, x = (segN (rm x0, rm y0) (rm x1, rm y1) (rm x2, rm y2) RR (2 * NN) : Int) := ⟨_, rfl⟩
  rw [← hs] at S1 S5
  rw [← ht] at S2
  rw [← ha] at S3
  rw [← hb] at S4
  rw [← htw] at S6
  have k1 : decide (s ≤ a) = true := decide_eq_true (by omega)
  have k2 : decide (s ≤ b) = true := decide_eq_true (by omega)
  have k3 : decide (t ≤ s) = true := decide_eq_true (by omega)
  have k4 : tw.tdiv 2 = s := by rw [Int.tdiv_eq_ediv_of_nonneg (by omega)]; omega
  have k5 : IntKind.i64.wrap s = s := IntWalk.i64_in _ (by omega)
  have HK := Lib.hid (And.intro k1 (And.intro k2 (And.intro k3 (And.intro k4 k5))))
  have HU := Lib.hid (And.intro qR (And.intro u1 (And.intro u2 (And.intro u3 (And.intro qN (And.intro u4 (And.intro u5 (And.intro u6 u7))))))))
  have hA : Below w.heap.size w (w.alloc (.cells #[.int .i32 x0, .int .i32 y0, .int .i32 x1, .int .i32 y1, .int .i32 x2, .int .i32 y2] 44)) := (Below.refl _ _).alloc (Nat.le_refl _) _
  have g2 : (w.alloc (.cells #[.int .i32 x0, .int .i32 y0, .int .i32 x1, .int .i32 y1, .int .i32 x2, .int .i32 y2] 44)).heap[w.heap.size]? = some (.cells (([x0, y0, x1, y1, x2, y2] : List Int).map fun x => .int .i32 x).toArray 44 (0, 0)) := heap_alloc_new w (.cells #[.int .i32 x0, .int .i32 y0, .int .i32 x1, .int .i32 y1, .int .i32 x2, .int .i32 y2] 44)
  have HG := Lib.hid (And.intro hA g2)
  clear hA g2 hx0 hy0 hx1 hy1 hx2 hy2 bx0 by0 bx1 by1 bx2 by2 hr0 hn0 hR hN hRR hNN hRb hNb hP hP2 fp0 fp1 fp2 f1 f2 f3 f4 f5 f6 hN2 hs ht ha hb htw k1 k2 k3 k4 k5 qR u1 u2 u3 qN u4 u5 u6 u7
  go_enter Try.func5, Try.ntmps5
  go_upto_region 3 with (go_at_call 6; (with_reducible refine (CA.out _).mono ?_); rintro e w1 ⟨rfl, hb⟩; have HG1 := Lib.hid (And.intro (HG.out.1.trans (hb.mono HG.out.1.size)) (row_keep hb HG.out.2)); clear hb)
  have H0 := Lib.hid (OrS.start [x0, y0, x1, y1, x2, y2] HG1.out.1 (heap_lt HG1.out.2) HG1.out.2)
  go_upto_region 4 with fail
  obtain ⟨b7, hb7⟩ : ∃ b, b = w1.heap.size := ⟨_, rfl⟩
  obtain ⟨W3, hW3⟩ : ∃ W, W = w1.alloc (.cells #[.int .i64 0, .int .i64 0, .int .i64 0, .int .i64 0, .int .i64 0, .int .i64 0] 24) := ⟨_, rfl⟩
  rw [← hW3] at H0 ⊢
  rw [← hb7] at H0 ⊢
  clear hW3 hb7
  have l0 : W3.cell? ⟨w.heap.size, 0, none⟩ = some (.int .i32 x0) := cell_of_row W3 _ 0 _ 44 (0, 0) H0.out.h2
  have l1 : W3.cell? ⟨w.heap.size, 1, none⟩ = some (.int .i32 y0) := cell_of_row W3 _ 1 _ 44 (0, 0) H0.out.h2
  have l2 : W3.cell? ⟨w.heap.size, 2, none⟩ = some (.int .i32 x1) := cell_of_row W3 _ 2 _ 44 (0, 0) H0.out.h2
  have l3 : W3.cell? ⟨w.heap.size, 3, none⟩ = some (.int .i32 y1) := cell_of_row W3 _ 3 _ 44 (0, 0) H0.out.h2
  have l4 : W3.cell? ⟨w.heap.size, 4, none⟩ = some (.int .i32 x2) := cell_of_row W3 _ 4 _ 44 (0, 0) H0.out.h2
  have l5 : W3.cell? ⟨w.heap.size, 5, none⟩ = some (.int .i32 y2) := cell_of_row W3 _ 5 _ 44 (0, 0) H0.out.h2
  go_wp2_with fail
  clear l0 l1 l2 l3 l4 l5
  go_loopw [27] (fun i wr => ∃ k : Nat, i = .int .i64 (k : Int) ∧ k ≤ 3 ∧ OrS w wr b7 [x0, y0, x1, y1, x2, y2] (pl x0 y0 x1 y1 x2 y2 k)) (fun i _ => 3 - (intOf i).toNat)
  case atStart => exact ⟨0, rfl, by omega, H0.out⟩
  case round =>
    obtain ⟨k, rfl, hk, hS⟩ := hrel
    have hk4 : k = 0 ∨ k = 1 ∨ k = 2 ∨ k = 3 := by omega
    rcases hk4 with rfl | rfl | rfl | rfl
    · have HS0 := Lib.hid hS
      have hA9 := (Below.refl wr.heap.size wr).alloc (Nat.le_refl _) (.cells #[.int .i32 x0, .int .i32 y0] 43)
      have HS1 := Lib.hid (hS.next hA9)
      have HX := Lib.hid (heap_alloc_new wr (.cells #[.int .i32 x0, .int .i32 y0] 43))
      have hlt : b7 < wr.heap.size := heap_lt hS.h7
      have ix := fun W : World => show (Instr.index 44 (.agg #[.int .i32 x0, .int .i32 y0, .int .i32 x1, .int .i32 y1, .int .i32 x2, .int .i32 y2]) (.int .i64 0)).run Try.prog W = .ok (.agg #[.int .i32 x0, .int .i32 y0]) W from by kernel_rfl
      clear hS hA9
      go_upto_region 7 with fail
      obtain ⟨b9, hb9⟩ : ∃ b, b = wr.heap.size := ⟨_, rfl⟩
      obtain ⟨W1, hW1⟩ : ∃ W, W = wr.alloc (.cells #[.int .i32 x0, .int .i32 y0] 43) := ⟨_, rfl⟩
      rw [← hW1] at HS1 HX ⊢
      rw [← hb9] at HX hlt ⊢
      have c0 : W1.cell? ⟨b9, 0, none⟩ = some (.int .i32 x0) := cell_of_row W1 b9 0 _ 43 (0, 0) HX.out
      have c1 : W1.cell? ⟨b9, 1, none⟩ = some (.int .i32 y0) := cell_of_row W1 b9 1 _ 43 (0, 0) HX.out
      obtain ⟨p0, p2⟩ := row_at HS1.out.h7 (j := 0) (x := 0) rfl
      obtain ⟨p1, p3⟩ := row_at HS1.out.h7 (j := 1) (x := 0) rfl
      have n1 : ¬ b9 = b7 := by omega
      have n2 : ¬ b7 = b9 := by omega
      clear hW1 hb9 ix HS0
      go_upto_region 8 with fail
      have HS2 := Lib.hid (HS1.out.set7 0 (rm x0) (rm y0))
      obtain ⟨W2, hW2⟩ : ∃ W, W = (W1.setCell ⟨b7, 0, none⟩ (.int .i64 (rm x0))).setCell ⟨b7, 1, none⟩ (.int .i64 (rm y0)) := ⟨_, rfl⟩
      have HS2 : Hid (OrS w W2 b7 [x0, y0, x1, y1, x2, y2] (pl x0 y0 x1 y1 x2 y2 1)) := by rw [hW2]; exact HS2
      rw [← hW2]
      clear hW2 c0 c1 p0 p1 p2 p3 HS1
      go_wp2_with fail
      exact ⟨⟨1, by simp, by omega, HS2.out⟩, by simp [intOf]⟩
    · have HS0 := Lib.hid hS
      have hA9 := (Below.refl wr.heap.size wr).alloc (Nat.le_refl _) (.cells #[.int .i32 x1, .int .i32 y1] 43)
      have HS1 := Lib.hid (hS.next hA9)
      have HX := Lib.hid (heap_alloc_new wr (.cells #[.int .i32 x1, .int .i32 y1] 43))
      have hlt : b7 < wr.heap.size := heap_lt hS.h7
      have ix := fun W : World => show (Instr.index 44 (.agg #[.int .i32 x0, .int .i32 y0, .int .i32 x1, .int .i32 y1, .int .i32 x2, .int .i32 y2]) (.int .i64 1)).run Try.prog W = .ok (.agg #[.int .i32 x1, .int .i32 y1]) W from by kernel_rfl
      clear hS hA9
      go_upto_region 7 with fail
      obtain ⟨b9, hb9⟩ : ∃ b, b = wr.heap.size := ⟨_, rfl⟩
      obtain ⟨W1, hW1⟩ : ∃ W, W = wr.alloc (.cells #[.int .i32 x1, .int .i32 y1] 43) := ⟨_, rfl⟩
      rw [← hW1] at HS1 HX ⊢
      rw [← hb9] at HX hlt ⊢
      have c0 : W1.cell? ⟨b9, 0, none⟩ = some (.int .i32 x1) := cell_of_row W1 b9 0 _ 43 (0, 0) HX.out
      have c1 : W1.cell? ⟨b9, 1, none⟩ = some (.int .i32 y1) := cell_of_row W1 b9 1 _ 43 (0, 0) HX.out
      obtain ⟨p0, p2⟩ := row_at HS1.out.h7 (j := 2) (x := 0) rfl
      obtain ⟨p1, p3⟩ := row_at HS1.out.h7 (j := 3) (x := 0) rfl
      have n1 : ¬ b9 = b7 := by omega
      have n2 : ¬ b7 = b9 := by omega
      clear hW1 hb9 ix HS0
      go_upto_region 8 with fail
      have HS2 := Lib.hid (HS1.out.set7 2 (rm x1) (rm y1))
      obtain ⟨W2, hW2⟩ : ∃ W, W = (W1.setCell ⟨b7, 2, none⟩ (.int .i64 (rm x1))).setCell ⟨b7, 3, none⟩ (.int .i64 (rm y1)) := ⟨_, rfl⟩
      have HS2 : Hid (OrS w W2 b7 [x0, y0, x1, y1, x2, y2] (pl x0 y0 x1 y1 x2 y2 2)) := by rw [hW2]; exact HS2
      rw [← hW2]
      clear hW2 c0 c1 p0 p1 p2 p3 HS1
      go_wp2_with fail
      exact ⟨⟨2, by simp, by omega, HS2.out⟩, by simp [intOf]⟩
    · have HS0 := Lib.hid hS
      have hA9 := (Below.refl wr.heap.size wr).alloc (Nat.le_refl _) (.cells #[.int .i32 x2, .int .i32 y2] 43)
      have HS1 := Lib.hid (hS.next hA9)
      have HX := Lib.hid (heap_alloc_new wr (.cells #[.int .i32 x2, .int .i32 y2] 43))
      have hlt : b7 < wr.heap.size := heap_lt hS.h7
      have ix := fun W : World => show (Instr.index 44 (.agg #[.int .i32 x0, .int .i32 y0, .int .i32 x1, .int .i32 y1, .int .i32 x2, .int .i32 y2]) (.int .i64 2)).run Try.prog W = .ok (.agg #[.int .i32 x2, .int .i32 y2]) W from by kernel_rfl
      clear hS hA9
      go_upto_region 7 with fail
      obtain ⟨b9, hb9⟩ : ∃ b, b = wr.heap.size := ⟨_, rfl⟩
      obtain ⟨W1, hW1⟩ : ∃ W, W = wr.alloc (.cells #[.int .i32 x2, .int .i32 y2] 43) := ⟨_, rfl⟩
      rw [← hW1] at HS1 HX ⊢
      rw [← hb9] at HX hlt ⊢
      have c0 : W1.cell? ⟨b9, 0, none⟩ = some (.int .i32 x2) := cell_of_row W1 b9 0 _ 43 (0, 0) HX.out
      have c1 : W1.cell? ⟨b9, 1, none⟩ = some (.int .i32 y2) := cell_of_row W1 b9 1 _ 43 (0, 0) HX.out
      obtain ⟨p0, p2⟩ := row_at HS1.out.h7 (j := 4) (x := 0) rfl
      obtain ⟨p1, p3⟩ := row_at HS1.out.h7 (j := 5) (x := 0) rfl
      have n1 : ¬ b9 = b7 := by omega
      have n2 : ¬ b7 = b9 := by omega
      clear hW1 hb9 ix HS0
      go_upto_region 8 with fail
      have HS2 := Lib.hid (HS1.out.set7 4 (rm x2) (rm y2))
      obtain ⟨W2, hW2⟩ : ∃ W, W = (W1.setCell ⟨b7, 4, none⟩ (.int .i64 (rm x2))).setCell ⟨b7, 5, none⟩ (.int .i64 (rm y2)) := ⟨_, rfl⟩
      have HS2 : Hid (OrS w W2 b7 [x0, y0, x1, y1, x2, y2] (pl x0 y0 x1 y1 x2 y2 3)) := by rw [hW2]; exact HS2
      rw [← hW2]
      clear hW2 c0 c1 p0 p1 p2 p3 HS1
      go_wp2_with fail
      exact ⟨⟨3, by simp, by omega, HS2.out⟩, by simp [intOf]⟩
    · have HS := Lib.hid hS
      obtain ⟨k1, k2, k3, k4, k5⟩ := HK.out
      obtain ⟨qR, u1, u2, u3, qN, u4, u5, u6, u7⟩ := HU.out
      clear hS
      have p0 := (row_at HS.out.h7 (j := 0) (x := rm x0) rfl).1
      have p1 := (row_at HS.out.h7 (j := 1) (x := rm y0) rfl).1
      have p2 := (row_at HS.out.h7 (j := 2) (x := rm x1) rfl).1
      have p3 := (row_at HS.out.h7 (j := 3) (x := rm y1) rfl).1
      have p4 := (row_at HS.out.h7 (j := 4) (x := rm x2) rfl).1
      have p5 := (row_at HS.out.h7 (j := 5) (x := rm y2) rfl).1
      go_wp2_with (first
        | (go_at_call 8; (with_reducible refine (S1.out _).mono ?_); rintro e z0_ ⟨rfl, hb⟩; have HT1 := Lib.hid (HS.out.next hb); clear hb S1 p0 p1 p2 p3 p4 p5; have p0 := (row_at HT1.out.h7 (j := 0) (x := rm x0) rfl).1; have p1 := (row_at HT1.out.h7 (j := 1) (x := rm y0) rfl).1; have p2 := (row_at HT1.out.h7 (j := 2) (x := rm x1) rfl).1; have p3 := (row_at HT1.out.h7 (j := 3) (x := rm y1) rfl).1; have p4 := (row_at HT1.out.h7 (j := 4) (x := rm x2) rfl).1; have p5 := (row_at HT1.out.h7 (j := 5) (x := rm y2) rfl).1)
        | (go_at_call 9; (with_reducible refine (S2.out _).mono ?_); rintro e z1_ ⟨rfl, hb⟩; have HT2 := Lib.hid (HT1.out.next hb); clear hb S2 p0 p1 p2 p3 p4 p5; have p0 := (row_at HT2.out.h7 (j := 0) (x := rm x0) rfl).1; have p1 := (row_at HT2.out.h7 (j := 1) (x := rm y0) rfl).1; have p2 := (row_at HT2.out.h7 (j := 2) (x := rm x1) rfl).1; have p3 := (row_at HT2.out.h7 (j := 3) (x := rm y1) rfl).1; have p4 := (row_at HT2.out.h7 (j := 4) (x := rm x2) rfl).1; have p5 := (row_at HT2.out.h7 (j := 5) (x := rm y2) rfl).1)
        | (go_at_call 7; (with_reducible refine (S3.out _).mono ?_); rintro e z2_ ⟨rfl, hb⟩; have HT3 := Lib.hid (HT2.out.next hb); clear hb S3 p0 p1 p2 p3 p4 p5; have p0 := (row_at HT3.out.h7 (j := 0) (x := rm x0) rfl).1; have p1 := (row_at HT3.out.h7 (j := 1) (x := rm y0) rfl).1; have p2 := (row_at HT3.out.h7 (j := 2) (x := rm x1) rfl).1; have p3 := (row_at HT3.out.h7 (j := 3) (x := rm y1) rfl).1; have p4 := (row_at HT3.out.h7 (j := 4) (x := rm x2) rfl).1; have p5 := (row_at HT3.out.h7 (j := 5) (x := rm y2) rfl).1)
        | (go_at_call 7; (with_reducible refine (S4.out _).mono ?_); rintro e z3_ ⟨rfl, hb⟩; have HT4 := Lib.hid (HT3.out.next hb); clear hb S4 p0 p1 p2 p3 p4 p5; have p0 := (row_at HT4.out.h7 (j := 0) (x := rm x0) rfl).1; have p1 := (row_at HT4.out.h7 (j := 1) (x := rm y0) rfl).1; have p2 := (row_at HT4.out.h7 (j := 2) (x := rm x1) rfl).1; have p3 := (row_at HT4.out.h7 (j := 3) (x := rm y1) rfl).1; have p4 := (row_at HT4.out.h7 (j := 4) (x := rm x2) rfl).1; have p5 := (row_at HT4.out.h7 (j := 5) (x := rm y2) rfl).1)
        | (go_at_call 8; (with_reducible refine (S5.out _).mono ?_); rintro e z4_ ⟨rfl, hb⟩; have HT5 := Lib.hid (HT4.out.next hb); clear hb S5 p0 p1 p2 p3 p4 p5; have p0 := (row_at HT5.out.h7 (j := 0) (x := rm x0) rfl).1; have p1 := (row_at HT5.out.h7 (j := 1) (x := rm y0) rfl).1; have p2 := (row_at HT5.out.h7 (j := 2) (x := rm x1) rfl).1; have p3 := (row_at HT5.out.h7 (j := 3) (x := rm y1) rfl).1; have p4 := (row_at HT5.out.h7 (j := 4) (x := rm x2) rfl).1; have p5 := (row_at HT5.out.h7 (j := 5) (x := rm y2) rfl).1)
        | (go_at_call 8; (with_reducible refine (S6.out _).mono ?_); rintro e z5_ ⟨rfl, hb⟩; have HT6 := Lib.hid (HT5.out.next hb); clear hb S6 p0 p1 p2 p3 p4 p5; have p0 := (row_at HT6.out.h7 (j := 0) (x := rm x0) rfl).1; have p1 := (row_at HT6.out.h7 (j := 1) (x := rm y0) rfl).1; have p2 := (row_at HT6.out.h7 (j := 2) (x := rm x1) rfl).1; have p3 := (row_at HT6.out.h7 (j := 3) (x := rm y1) rfl).1; have p4 := (row_at HT6.out.h7 (j := 4) (x := rm x2) rfl).1; have p5 := (row_at HT6.out.h7 (j := 5) (x := rm y2) rfl).1))
      go_ret
      exact ⟨rfl, HT6.out.bel⟩
end Go.Proofs.Ytmbpehhbfbmacaa
