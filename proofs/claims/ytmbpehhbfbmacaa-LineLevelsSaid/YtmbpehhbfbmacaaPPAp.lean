/- In words: what the calls of points answer. No condition. -/
import Derived.Test.YtmbpehhbfbmacaaPPAb
import Derived.Test.YtmbpehhbfbmacaaPPBa
import Derived.OrdersHeld
import Derived.Deep.RegionHeld
namespace Go.Proofs.Ytmbpehhbfbmacaa
open Go.RowKit

def ok2 (a b : P2) : Prop := fiP a ∧ fiP b
instance (a b : P2) : Decidable (ok2 a b) := inferInstanceAs (Decidable (_ ∧ _))
def ok3 (a b c : P2) : Prop := fiP a ∧ fiP b ∧ fiP c
instance (a b c : P2) : Decidable (ok3 a b c) := inferInstanceAs (Decidable (_ ∧ _))
def ok4 (a b c d : P2) : Prop := fiP a ∧ fiP b ∧ fiP c ∧ fiP d
instance (a b c d : P2) : Decidable (ok4 a b c d) := inferInstanceAs (Decidable (_ ∧ _))
def crsA (a b c : P2) : Int × Int := if ok3 a b c then (crs a b c, 0) else (0, 1)
def dtA (a b c : P2) : Int × Int := if ok3 a b c then (dt a b c, 0) else (0, 1)
def farA (a b : P2) : Int × Int := if ok2 a b then (dt a b b, 0) else (0, 1)
end Go.Proofs.Ytmbpehhbfbmacaa
