/- Proved here: arguments opened and read again: numbers, points. No condition. -/
import Derived.Test.YtmbpehhbfbmacaaPPBa
import Derived.ProofKit
import Derived.OpenShut
import Derived.ReadAgain
import Derived.ChangeSlices
import Derived.ChangeMaps5
import Derived.Lib.SmallJoins
import Derived.Deep.Slices
import Derived.Deep.Strs
import Derived.ChangeOld
import Derived.Carry
namespace Go.Proofs.Ytmbpehhbfbmacaa
open Go.ChangeShapes Go.WideShapes Go.ChangeAt Go.RowKit Go.Joins

theorem own : ownKnob Try.prog.godebug = none := by kernel_rfl
end Go.Proofs.Ytmbpehhbfbmacaa
