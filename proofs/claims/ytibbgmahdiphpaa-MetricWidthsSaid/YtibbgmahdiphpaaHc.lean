/- Proved here: what mayEm, mayMetrics, signed and short answer, and the three readers of head, maxp and hhea. Condition: a list of tables that lies in memory, of bytes of at most a million each; what is read lies in a block of its own. -/
import Derived.Test.YtibbgmahdiphpaaHb
namespace Go.Proofs.Ytibbgmahdiphpaa
open Go.RowKit

set_option maxHeartbeats 2000000 in
theorem mayEm_any (n : Int) (w : World) : Calls Try.prog 31 #[.int .i64 n] w fun e w' => e = .returned (.bool (decide (16 ≤ n ∧ n ≤ 16384))) ∧ w = w' := by
  by_cases k1 : 16 ≤ n
  · have d1 : decide (16 ≤ n) = true := decide_eq_true k1
    by_cases k2 : n ≤ 16384
    · have d2 : decide (n ≤ 16384) = true := decide_eq_true k2
      rw [decide_eq_true (And.intro k1 k2)]
      clear k1 k2
      go_enter Try.func31, Try.ntmps31
      go_wp2_with fail
      go_ret
      exact ⟨rfl, rfl⟩
    · have d2 : decide (n ≤ 16384) = false := decide_eq_false k2
      rw [decide_eq_false (fun h => k2 h.2)]
      clear k1 k2
      go_enter Try.func31, Try.ntmps31
      go_wp2_with fail
      go_ret
      exact ⟨rfl, rfl⟩
  · have d1 : decide (16 ≤ n) = false := decide_eq_false k1
    rw [decide_eq_false (fun h => k1 h.1)]
    clear k1
    go_enter Try.func31, Try.ntmps31
    go_wp2_with fail
    go_ret
    exact ⟨rfl, rfl⟩
set_option maxHeartbeats 2000000 in
theorem signed_any (n : Int) (w : World) : Calls Try.prog 33 #[.int .i64 n] w fun e w' => e = .returned (.bool (decide (-32768 ≤ n ∧ n ≤ 32767))) ∧ w = w' := by
  by_cases k1 : -32768 ≤ n
  · have d1 : decide (-32768 ≤ n) = true := decide_eq_true k1
    by_cases k2 : n ≤ 32767
    · have d2 : decide (n ≤ 32767) = true := decide_eq_true k2
      rw [decide_eq_true (And.intro k1 k2)]
      clear k1 k2
      go_enter Try.func33, Try.ntmps33
      go_wp2_with fail
      go_ret
      exact ⟨rfl, rfl⟩
    · have d2 : decide (n ≤ 32767) = false := decide_eq_false k2
      rw [decide_eq_false (fun h => k2 h.2)]
      clear k1 k2
      go_enter Try.func33, Try.ntmps33
      go_wp2_with fail
      go_ret
      exact ⟨rfl, rfl⟩
  · have d1 : decide (-32768 ≤ n) = false := decide_eq_false k1
    rw [decide_eq_false (fun h => k1 h.1)]
    clear k1
    go_enter Try.func33, Try.ntmps33
    go_wp2_with fail
    go_ret
    exact ⟨rfl, rfl⟩
set_option maxHeartbeats 2000000 in
theorem short_any (n : Int) (w : World) : Calls Try.prog 36 #[.int .i64 n] w fun e w' => e = .returned (.bool (decide (-32768 ≤ n ∧ n ≤ 32767))) ∧ w = w' := by
  by_cases k1 : -32768 ≤ n
  · have d1 : decide (-32768 ≤ n) = true := decide_eq_true k1
    by_cases k2 : n ≤ 32767
    · have d2 : decide (n ≤ 32767) = true := decide_eq_true k2
      rw [decide_eq_true (And.intro k1 k2)]
      clear k1 k2
      go_enter Try.func36, Try.ntmps36
      go_wp2_with fail
      go_ret
      exact ⟨rfl, rfl⟩
    · have d2 : decide (n ≤ 32767) = false := decide_eq_false k2
      rw [decide_eq_false (fun h => k2 h.2)]
      clear k1 k2
      go_enter Try.func36, Try.ntmps36
      go_wp2_with fail
      go_ret
      exact ⟨rfl, rfl⟩
  · have d1 : decide (-32768 ≤ n) = false := decide_eq_false k1
    rw [decide_eq_false (fun h => k1 h.1)]
    clear k1
    go_enter Try.func36, Try.ntmps36
    go_wp2_with fail
    go_ret
    exact ⟨rfl, rfl⟩
set_option maxHeartbeats 2000000 in
theorem mayMet_any (em : Int) (lg : Bool) (gl me a1 a2 a3 : Int) (w : World) : Calls Try.prog 32 #[.agg #[.int .i64 em, .bool lg, .int .i64 gl, .int .i64 me, .int .i64 a1, .int .i64 a2, .int .i64 a3]] w fun e w' => e = .returned (.bool (decide (1 ≤ me ∧ me ≤ gl))) ∧ Below w.heap.size w w' := by
  by_cases k1 : 1 ≤ me
  · have d1 : decide (1 ≤ me) = true := decide_eq_true k1
    by_cases k2 : me ≤ gl
    · have d2 : decide (me ≤ gl) = true := decide_eq_true k2
      rw [decide_eq_true (And.intro k1 k2)]
      clear k1 k2
      go_enter Try.func32, Try.ntmps32
      go_wp2_with fail
      go_ret
      exact ⟨rfl, (Below.refl _ _).alloc (Nat.le_refl _) _⟩
    · have d2 : decide (me ≤ gl) = false := decide_eq_false k2
      rw [decide_eq_false (fun h => k2 h.2)]
      clear k1 k2
      go_enter Try.func32, Try.ntmps32
      go_wp2_with fail
      go_ret
      exact ⟨rfl, (Below.refl _ _).alloc (Nat.le_refl _) _⟩
  · have d1 : decide (1 ≤ me) = false := decide_eq_false k1
    rw [decide_eq_false (fun h => k1 h.1)]
    clear k1
    go_enter Try.func32, Try.ntmps32
    go_wp2_with fail
    go_ret
    exact ⟨rfl, (Below.refl _ _).alloc (Nat.le_refl _) _⟩
end Go.Proofs.Ytibbgmahdiphpaa
