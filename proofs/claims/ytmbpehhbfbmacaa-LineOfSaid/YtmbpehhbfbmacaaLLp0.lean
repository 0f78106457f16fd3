/- What the program's calls of lines answer, in words. -/
import Derived.Test.YtmbpehhbfbmacaaLLg
import Derived.Test.YtmbpehhbfbmacaaLPAp
namespace Go.Proofs.Ytmbpehhbfbmacaa
open Go.RowKit

def ptA (p a : P2) (r n : Int) : Int × Int := if riP r n ∧ ok2 p a then ((nearN p a r.toNat n.toNat : Int), 0) else (0, 1)
def sgA (p a b : P2) (r n : Int) : Int × Int := if riP r n ∧ ok3 p a b then ((segN p a b r.toNat n.toNat : Int), 0) else (0, 1)
def ryA (p a b : P2) (r n : Int) : Int × Int := if riP r n ∧ ok3 p a b then ((rayN p a b r.toNat n.toNat : Int), 0) else (0, 1)
end Go.Proofs.Ytmbpehhbfbmacaa
