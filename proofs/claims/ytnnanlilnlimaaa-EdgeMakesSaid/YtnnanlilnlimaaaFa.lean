/- Proved here: which numbers, points and edges may be (the program's mayFine, mayPt, isDot, mayEdge). No condition. -/
import Derived.Test.YtnnanlilnlimaaaEe
namespace Go.Proofs.Ytnnanlilnlimaaa
open Go.RowKit

def fiI (x : Int) : Prop := -33554432 ≤ x ∧ x ≤ 33554432
instance (x : Int) : Decidable (fiI x) := inferInstanceAs (Decidable (_ ∧ _))
theorem mfine_any (x : Int) (w : World) : Calls Try.prog 36 #[.int .i64 x] w fun e w' => e = .returned (.bool (decide (fiI x))) ∧ w = w' := by
  by_cases h1 : -33554432 ≤ x
  · by_cases h2 : x ≤ 33554432
    · rw [decide_eq_true (show fiI x from ⟨h1, h2⟩)]
      have g1 : decide (-33554432 ≤ x) = true := decide_eq_true h1
      have g2 : decide (x ≤ 33554432) = true := decide_eq_true h2
      clear h1 h2
      go_enter Try.func36, Try.ntmps36
      go_wp2_with fail
      go_ret
      exact ⟨rfl, rfl⟩
    · rw [decide_eq_false (fun h : fiI x => h2 h.2)]
      have g1 : decide (-33554432 ≤ x) = true := decide_eq_true h1
      have g2 : decide (x ≤ 33554432) = false := decide_eq_false h2
      clear h1 h2
      go_enter Try.func36, Try.ntmps36
      go_wp2_with fail
      go_ret
      exact ⟨rfl, rfl⟩
  · rw [decide_eq_false (fun h : fiI x => h1 h.1)]
    have g1 : decide (-33554432 ≤ x) = false := decide_eq_false h1
    clear h1
    go_enter Try.func36, Try.ntmps36
    go_wp2_with fail
    go_ret
    exact ⟨rfl, rfl⟩
set_option maxHeartbeats 4000000 in
set_option maxRecDepth 100000 in
theorem mpt_any (x y : Int) (w : World) : Calls Try.prog 32 #[.agg #[.int .i64 x, .int .i64 y]] w fun e w' => e = .returned (.bool (decide (fiP (x, y)))) ∧ Below w.heap.size w w' := by
  have hA : Below w.heap.size w (w.alloc (.cells #[.int .i64 x, .int .i64 y] 35)) := (Below.refl _ _).alloc (Nat.le_refl _) _
  have HA := Lib.hid hA
  have hx := heap_alloc_new w (.cells #[.int .i64 x, .int .i64 y] 35)
  have c0 : (w.alloc (.cells #[.int .i64 x, .int .i64 y] 35)).cell? ⟨w.heap.size, 0, none⟩ = some (.int .i64 x) := cell_of_row _ _ 0 _ 35 (0, 0) hx
  have c1 : (w.alloc (.cells #[.int .i64 x, .int .i64 y] 35)).cell? ⟨w.heap.size, 1, none⟩ = some (.int .i64 y) := cell_of_row _ _ 1 _ 35 (0, 0) hx
  have HD := Lib.hid (show decide (fiP (x, y)) = (decide (fiI x) && decide (fiI y)) from by
    have e : decide (fiP (x, y)) = decide (fiI x ∧ fiI y) := rfl
    rw [e, Bool.decide_and])
  have C1 := Lib.hid (fun W => mfine_any x W)
  have C2 := Lib.hid (fun W => mfine_any y W)
  clear hA hx
  by_cases h1 : fiI x
  · rw [decide_eq_true h1] at C1 HD
    obtain ⟨q, hq⟩ : ∃ q, q = decide (fiI y) := ⟨_, rfl⟩
    rw [← hq] at C2 HD
    clear h1 hq
    go_enter Try.func32, Try.ntmps32
    go_wp2_with (first
      | (go_at_call 36; (with_reducible refine (C1.out _).mono ?_); rintro e w1 ⟨rfl, rfl⟩; clear C1)
      | (go_at_call 36; (with_reducible refine (C2.out _).mono ?_); rintro e w1 ⟨rfl, rfl⟩; clear C2))
    go_ret
    exact ⟨by rw [HD.out]; rfl, HA.out⟩
  · rw [decide_eq_false h1] at C1 HD
    clear h1 C2
    go_enter Try.func32, Try.ntmps32
    go_wp2_with (go_at_call 36; (with_reducible refine (C1.out _).mono ?_); rintro e w1 ⟨rfl, rfl⟩; clear C1)
    go_ret
    exact ⟨by rw [HD.out]; rfl, HA.out⟩
set_option maxHeartbeats 4000000 in
set_option maxRecDepth 100000 in
theorem dot_any (k : Int) (q : Bool) (ax ay bx by_ cx cy : Int) (w : World) : Calls Try.prog 26 #[.agg #[.int .i64 k, .bool q, .int .i64 ax, .int .i64 ay, .int .i64 bx, .int .i64 by_, .int .i64 cx, .int .i64 cy]] w fun e w' => e = .returned (.bool (decide (smE (k, q, (ax, ay), (bx, by_), (cx, cy))))) ∧ Below w.heap.size w w' := by
  obtain ⟨c0, c1, c2, c3, c4, c5, c6, c7⟩ := (Ebx.new w (k, q, (ax, ay), (bx, by_), (cx, cy))).cells
  go_enter Try.func26, Try.ntmps26
  go_wp2_with fail
  all_goals
    clear c0 c1 c2 c3 c4 c5 c6 c7
    go_ret
    exact ⟨by simp_all [smE, eq_comm], (Below.refl _ _).alloc (Nat.le_refl _) _⟩
end Go.Proofs.Ytnnanlilnlimaaa
