/- Proved here (plain): crosses and dots of points, lines that meet; what stays if points are moved, or turned by a quarter. No condition. -/
import Derived.Test.YtiififjbljiggaaPBa
namespace Go.Proofs.Ytiififjbljiggaa
open Go.RowKit

def crs (a b c : P2) : Int := (b.1 - a.1) * (c.2 - a.2) - (b.2 - a.2) * (c.1 - a.1)
def dt (a b c : P2) : Int := (b.1 - a.1) * (c.1 - a.1) + (b.2 - a.2) * (c.2 - a.2)
def sg (n : Int) : Int := if n < 0 then -1 else if 0 < n then 1 else 0
/-- Is p on the line from a to b? -/
def Btw (a b p : P2) : Prop := crs a b p = 0 ∧ (min a.1 b.1 ≤ p.1 ∧ p.1 ≤ max a.1 b.1) ∧ (min a.2 b.2 ≤ p.2 ∧ p.2 ≤ max a.2 b.2)
instance (a b p : P2) : Decidable (Btw a b p) := inferInstanceAs (Decidable (_ ∧ _))
def Crosses (a b c d : P2) : Prop := sg (crs a b c) * sg (crs a b d) < 0 ∧ sg (crs c d a) * sg (crs c d b) < 0
instance (a b c d : P2) : Decidable (Crosses a b c d) := inferInstanceAs (Decidable (_ ∧ _))
def Mt (a b c d : P2) : Prop := ((Btw a b c ∨ Btw a b d) ∨ (Btw c d a ∨ Btw c d b)) ∨ Crosses a b c d
instance (a b c d : P2) : Decidable (Mt a b c d) := inferInstanceAs (Decidable (_ ∨ _))
theorem crs_rev (a b p : P2) : crs b a p = - crs a b p := by unfold crs; grind
theorem crs_cyc (a b c : P2) : crs b c a = crs a b c := by unfold crs; grind
theorem crs_end (a b : P2) : crs a b b = 0 := by unfold crs; grind
theorem crs_mov (a b c m : P2) : crs (a.1 + m.1, a.2 + m.2) (b.1 + m.1, b.2 + m.2) (c.1 + m.1, c.2 + m.2) = crs a b c := by unfold crs; grind
theorem crs_rot (a b c : P2) : crs (-a.2, a.1) (-b.2, b.1) (-c.2, c.1) = crs a b c := by unfold crs; grind
theorem dt_rot (a b : P2) : dt (-b.2, b.1) (-a.2, a.1) (-a.2, a.1) = dt a b b := by unfold dt; grind
theorem sg_neg (n : Int) : sg (-n) = - sg n := by unfold sg; split <;> split <;> (try split) <;> (try split) <;> omega
theorem btw_rev (a b p : P2) : Btw b a p ↔ Btw a b p := by
  unfold Btw
  rw [crs_rev, Int.min_comm b.1, Int.min_comm b.2, Int.max_comm b.1, Int.max_comm b.2]
  constructor <;> (rintro ⟨h, h2⟩; exact ⟨by omega, h2⟩)
theorem btw_end (a b : P2) : Btw a b b := ⟨crs_end a b, by omega, by omega⟩
theorem sg_prod (a b p q : P2) : sg (crs b a p) * sg (crs b a q) = sg (crs a b q) * sg (crs a b p) := by
  rw [crs_rev a b p, crs_rev a b q, sg_neg, sg_neg, Int.neg_mul_neg, Int.mul_comm]
theorem mt_rev (a b c d : P2) : Mt d c a b ↔ Mt a b c d := by
  have e1 := sg_prod c d a b
  have e2 := Int.mul_comm (sg (crs a b d)) (sg (crs a b c))
  have e3 := Int.mul_comm (sg (crs c d b)) (sg (crs c d a))
  have b1 := btw_rev c d a
  have b2 := btw_rev c d b
  unfold Mt Crosses
  rw [e1, e2, e3, b1, b2]
  constructor
  · rintro ((h | h) | h)
    · exact .inl (.inr h)
    · exact .inl (.inl h.symm)
    · exact .inr ⟨h.2, h.1⟩
  · rintro ((h | h) | h)
    · exact .inl (.inr h.symm)
    · exact .inl (.inl h)
    · exact .inr ⟨h.2, h.1⟩
theorem mt_self (a b : P2) : Mt a b b a := .inl (.inl (.inl (btw_end a b)))
theorem mt_end (a b c : P2) : Mt a b b c := .inl (.inl (.inl (btw_end a b)))
end Go.Proofs.Ytiififjbljiggaa
