/- What the program's calls must answer (stubs: a trial). -/
import Derived.Test.YtiififjbljiggaaPAd
namespace Go.Proofs.Ytiififjbljiggaa
open Go.RowKit

def ok2 (a b : P2) : Prop := fiP a ∧ fiP b
instance (a b : P2) : Decidable (ok2 a b) := inferInstanceAs (Decidable (_ ∧ _))
def ok3 (a b c : P2) : Prop := fiP a ∧ fiP b ∧ fiP c
instance (a b c : P2) : Decidable (ok3 a b c) := inferInstanceAs (Decidable (_ ∧ _))
def ok4 (a b c d : P2) : Prop := fiP a ∧ fiP b ∧ fiP c ∧ fiP d
instance (a b c d : P2) : Decidable (ok4 a b c d) := inferInstanceAs (Decidable (_ ∧ _))
def crsA (a b c : P2) : Int × Int := if ok3 a b c then (crs a b c, 0) else (0, 1)
def dtA (a b c : P2) : Int × Int := if ok3 a b c then (dt a b c, 0) else (0, 1)
def turnA (a b c : P2) : Int × Int := if ok3 a b c then (sg (crs a b c), 0) else (0, 1)
def btwA (a b c : P2) : Bool × Int := if ok3 a b c then (decide (Btw a b c), 0) else (false, 1)
def farA (a b : P2) : Int × Int := if ok2 a b then (dt a b b, 0) else (0, 1)
def meetA (a b c d : P2) : Bool × Int := if ok4 a b c d then (decide (Mt a b c d), 0) else (false, 1)
theorem ask2 (a b : P2) : askN [a, b] = if ok2 a b then 0 else 1 := by
  unfold askN
  have : AllP [a, b] ↔ fiP a ∧ fiP b := ⟨fun h => ⟨h 0 (by simp), h 1 (by simp)⟩, fun h i hi => by
    match i, hi with
    | 0, _ => exact h.1
    | 1, _ => exact h.2⟩
  by_cases h : ok2 a b
  · rw [if_pos h, if_pos (this.2 h)]
  · rw [if_neg h, if_neg (fun h2 => h (this.1 h2))]
theorem ask3 (a b c : P2) : askN [a, b, c] = if ok3 a b c then 0 else 1 := by
  unfold askN
  have : AllP [a, b, c] ↔ fiP a ∧ fiP b ∧ fiP c := ⟨fun h => ⟨h 0 (by simp), h 1 (by simp), h 2 (by simp)⟩, fun h i hi => by
    match i, hi with
    | 0, _ => exact h.1
    | 1, _ => exact h.2.1
    | 2, _ => exact h.2.2⟩
  by_cases h : ok3 a b c
  · rw [if_pos h, if_pos (this.2 h)]
  · rw [if_neg h, if_neg (fun h2 => h (this.1 h2))]
theorem ask4 (a b c d : P2) : askN [a, b, c, d] = if ok4 a b c d then 0 else 1 := by
  unfold askN
  have : AllP [a, b, c, d] ↔ fiP a ∧ fiP b ∧ fiP c ∧ fiP d := ⟨fun h => ⟨h 0 (by simp), h 1 (by simp), h 2 (by simp), h 3 (by simp)⟩, fun h i hi => by
    match i, hi with
    | 0, _ => exact h.1
    | 1, _ => exact h.2.1
    | 2, _ => exact h.2.2.1
    | 3, _ => exact h.2.2.2⟩
  by_cases h : ok4 a b c d
  · rw [if_pos h, if_pos (this.2 h)]
  · rw [if_neg h, if_neg (fun h2 => h (this.1 h2))]
end Go.Proofs.Ytiififjbljiggaa
