/-
  No cell of these rows narrows 'for every input' (looked for: loops, veiled, ifaces, maps, wideKeys, modest, calm, conditions, laid).
  DERIVED. THE GIVEN ROWS OF THIS SEAT. 3 by the template 'for every input the law returns true; each argument reads behind the call as it read before'; 0 by the template 'total and deterministic' (their statements: YtbkoeiofofhinaaTotals.lean).
  GIVEN WITH THE SEED: the statements are not yours to turn. If you find one false, say at which input.
  Laid BY PROGRAM, IN A SANDBOX (cutbox-rows.mjs): the forced cells as the released guide's own fill.sh prints them over the translation a82e5be931a2b8c7… (all of the seat's roots in one cut). By AI agents, Wed Nov 11 2026. No macro, syntax, notation, axiom, sorry.
-/
import Derived.Test.YtbkoeiofofhinaaChecked
import GoSem.Claim
import GoSem.ClaimJoined
import GoSem.ClaimMapViews
import Derived.JoinedTies
import Derived.KernelRfl
namespace Go.Proofs.Ytbkoeiofofhinaa
/- THE CELL 'sum', in the pinned program and in every row, IS THE sha256 OF THE DUMP (.gsa) THAT YtbkoeiofofhinaaProg.lean LOADS. Nothing in Lean hashes anything: it is a label: what it is worth is what the hold of that sum in a sandbox is worth. -/
noncomputable def Try.pinned : Pinned := { name := "ytbkoeiofofhinaa", sum := "a82e5be931a2b8c78be540806c400fe3b846e073c9557921b93d39582cd00edb", checked := Try.checked }
namespace Rows
def none {H : Type} : Left H := { results := [], args := [] }

/-- 'pochoirlaw04.RootFloors': WHATEVER THE INPUT: true; the input reads as it did. -/
def rootFloorsSpec : ChangeSpec := { name := "rootFloors", fn := fun _ => fun
  | [d] => { results := [.lit (.bool true)], args := [d] }
  | _ => none }
def rootFloorsRow : OpenClaim := { program := "ytbkoeiofofhinaa", sum := "a82e5be931a2b8c78be540806c400fe3b846e073c9557921b93d39582cd00edb", func := "pochoir/pochoirlaw04.RootFloors", spec := "rootFloors", inPlace := ["math/bits.Add64"], apart := false }
def RootFloorsSaid : Prop := rootFloorsRow.holds Try.pinned (OpenSpec.ofChange rootFloorsSpec)

/-- ITS FALSE NEIGHBOUR: 'it returns false'. Refute it at one input. -/
def rootFloorsWrong : ChangeSpec := { name := "rootFloors", fn := fun _ => fun
  | [d] => { results := [.lit (.bool false)], args := [d] }
  | _ => none }
def RootFloorsWrongFalsely : Prop := rootFloorsRow.holds Try.pinned (OpenSpec.ofChange rootFloorsWrong)

/-- 'pochoirlaw04.RootRatios': WHATEVER THE INPUT: true; the input reads as it did. -/
def rootRatiosSpec : ChangeSpec := { name := "rootRatios", fn := fun _ => fun
  | [d1, d2, d3] => { results := [.lit (.bool true)], args := [d1, d2, d3] }
  | _ => none }
def rootRatiosRow : OpenClaim := { program := "ytbkoeiofofhinaa", sum := "a82e5be931a2b8c78be540806c400fe3b846e073c9557921b93d39582cd00edb", func := "pochoir/pochoirlaw04.RootRatios", spec := "rootRatios", inPlace := ["math/bits.Add64"], apart := false }
def RootRatiosSaid : Prop := rootRatiosRow.holds Try.pinned (OpenSpec.ofChange rootRatiosSpec)

/-- ITS FALSE NEIGHBOUR: 'it returns false'. Refute it at one input. -/
def rootRatiosWrong : ChangeSpec := { name := "rootRatios", fn := fun _ => fun
  | [d1, d2, d3] => { results := [.lit (.bool false)], args := [d1, d2, d3] }
  | _ => none }
def RootRatiosWrongFalsely : Prop := rootRatiosRow.holds Try.pinned (OpenSpec.ofChange rootRatiosWrong)

/-- 'pochoirlaw04.RootBetween': WHATEVER THE INPUT: true; the input reads as it did. -/
def rootBetweenSpec : ChangeSpec := { name := "rootBetween", fn := fun _ => fun
  | [d] => { results := [.lit (.bool true)], args := [d] }
  | _ => none }
def rootBetweenRow : OpenClaim := { program := "ytbkoeiofofhinaa", sum := "a82e5be931a2b8c78be540806c400fe3b846e073c9557921b93d39582cd00edb", func := "pochoir/pochoirlaw04.RootBetween", spec := "rootBetween", inPlace := ["math/bits.Add64"], apart := false }
def RootBetweenSaid : Prop := rootBetweenRow.holds Try.pinned (OpenSpec.ofChange rootBetweenSpec)

/-- ITS FALSE NEIGHBOUR: 'it returns false'. Refute it at one input. -/
def rootBetweenWrong : ChangeSpec := { name := "rootBetween", fn := fun _ => fun
  | [d] => { results := [.lit (.bool false)], args := [d] }
  | _ => none }
def RootBetweenWrongFalsely : Prop := rootBetweenRow.holds Try.pinned (OpenSpec.ofChange rootBetweenWrong)

/- THE SECOND FORM. 'bulk': how many values and letters a reading holds, each counted each time it is reached (what is shared counts as often as it is met; a slice's spare places count too). A statement '..UptoSaid' is the law's where the arguments, and the package variables that the reading takes, are together of bulk at most 1048576: NARROWER than '..Said'. Prove '..Said' where nothing that the law and all that it calls make is longer than what came in: it says more and counts as full. Else prove '..UptoSaid'. A law counts once. -/
mutual
def uptoBulk {H : Type} : DataW H → Nat
  | .lit (.string bytes) => bytes.length + 1
  | .lit _ => 1
  | .nil => 1
  | .ptr d => uptoBulk d + 1
  | .slice elems spare => uptoBulkAll elems + uptoBulkAll spare + 1
  | .agg parts => uptoBulkAll parts + 1
  | .iface _ d => uptoBulk d + 1
  | .map entries => uptoBulkEntries entries + 1
  | .held _ => 1
def uptoBulkAll {H : Type} : List (DataW H) → Nat
  | [] => 0
  | d :: r => uptoBulk d + uptoBulkAll r
def uptoBulkEntries {H : Type} : List (Lit × DataW H) → Nat
  | [] => 0
  | x :: r => uptoBulkEntry x + uptoBulkEntries r
def uptoBulkEntry {H : Type} : Lit × DataW H → Nat
  | (.string bytes, d) => bytes.length + uptoBulk d + 1
  | (_, d) => uptoBulk d + 1
 end
def uptoSmall : (H : Type) → List (DataW H) → Bool := fun _ ds => decide (uptoBulkAll ds ≤ 1048576)
def OpenSpec.upto (s : _root_.Go.ChangeSpec) : _root_.Go.OpenSpec := { _root_.Go.OpenSpec.ofChange s with cond := some uptoSmall }

/-- 'pochoirlaw04.RootFloors', WHERE WHAT IT READS IS OF BULK AT MOST 1048576: true; the input reads as it did. -/
def rootFloorsUptoRow : OpenClaim := { program := "ytbkoeiofofhinaa", sum := "a82e5be931a2b8c78be540806c400fe3b846e073c9557921b93d39582cd00edb", func := "pochoir/pochoirlaw04.RootFloors", spec := "rootFloors", inPlace := ["math/bits.Add64"], apart := false, narrowed := true }
def RootFloorsUptoSaid : Prop := rootFloorsUptoRow.holds Try.pinned (OpenSpec.upto rootFloorsSpec)

/-- 'pochoirlaw04.RootRatios', WHERE WHAT IT READS IS OF BULK AT MOST 1048576: true; the input reads as it did. -/
def rootRatiosUptoRow : OpenClaim := { program := "ytbkoeiofofhinaa", sum := "a82e5be931a2b8c78be540806c400fe3b846e073c9557921b93d39582cd00edb", func := "pochoir/pochoirlaw04.RootRatios", spec := "rootRatios", inPlace := ["math/bits.Add64"], apart := false, narrowed := true }
def RootRatiosUptoSaid : Prop := rootRatiosUptoRow.holds Try.pinned (OpenSpec.upto rootRatiosSpec)

/-- 'pochoirlaw04.RootBetween', WHERE WHAT IT READS IS OF BULK AT MOST 1048576: true; the input reads as it did. -/
def rootBetweenUptoRow : OpenClaim := { program := "ytbkoeiofofhinaa", sum := "a82e5be931a2b8c78be540806c400fe3b846e073c9557921b93d39582cd00edb", func := "pochoir/pochoirlaw04.RootBetween", spec := "rootBetween", inPlace := ["math/bits.Add64"], apart := false, narrowed := true }
def RootBetweenUptoSaid : Prop := rootBetweenUptoRow.holds Try.pinned (OpenSpec.upto rootBetweenSpec)

end Rows
end Go.Proofs.Ytbkoeiofofhinaa
