/- In words: what the calls of points answer. No condition. -/
import Derived.Test.YtmbpehhbfbmacaaLPAb
import Derived.Test.YtmbpehhbfbmacaaLPBa
import Derived.OrdersHeld
import Derived.Deep.RegionHeld
namespace Go.Proofs.Ytmbpehhbfbmacaa
open Go.RowKit

theorem ask2 (a b : P2) : askN [a, b] = if ok2 a b then 0 else 1 := by
  unfold askN
  have : AllP [a, b] ↔ fiP a ∧ fiP b := ⟨fun h => ⟨h 0 (by simp), h 1 (by simp)⟩, fun h i hi => by
    match i, hi with
    | 0, _ => exact h.1
    | 1, _ => exact h.2⟩
  by_cases h : ok2 a b
  · rw [if_pos h, if_pos (this.2 h)]
  · rw [if_neg h, if_neg (fun h2 => h (this.1 h2))]
theorem ask3 (a b c : P2) : askN [a, b, c] = if ok3 a b c then 0 else 1 := by
  unfold askN
  have : AllP [a, b, c] ↔ fiP a ∧ fiP b ∧ fiP c := ⟨fun h => ⟨h 0 (by simp), h 1 (by simp), h 2 (by simp)⟩, fun h i hi => by
    match i, hi with
    | 0, _ => exact h.1
    | 1, _ => exact h.2.1
    | 2, _ => exact h.2.2⟩
  by_cases h : ok3 a b c
  · rw [if_pos h, if_pos (this.2 h)]
  · rw [if_neg h, if_neg (fun h2 => h (this.1 h2))]
end Go.Proofs.Ytmbpehhbfbmacaa
