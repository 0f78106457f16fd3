/-
  No cell of these rows narrows 'for every input' (looked for: loops, veiled, ifaces, maps, wideKeys, modest, calm, conditions, laid).
  DERIVED. THE GIVEN ROWS OF THIS SEAT. 3 by the template 'for every input the law returns true; each argument reads behind the call as it read before'; 0 by the template 'total and deterministic' (their statements: YtibbgmahdiphpaaTotals.lean).
  GIVEN WITH THE SEED: the statements are not yours to turn. If you find one false, say at which input.
  Laid BY PROGRAM, IN A SANDBOX (cutbox-rows.mjs): the forced cells as the released guide's own fill.sh prints them over the translation 494c7a2f3bd0d717… (all of the seat's roots in one cut). By AI agents, Wed Nov 11 2026. No macro, syntax, notation, axiom, sorry.
-/
import Derived.Test.YtibbgmahdiphpaaChecked
import GoSem.Claim
import GoSem.ClaimJoined
import GoSem.ClaimMapViews
import Derived.JoinedTies
import Derived.KernelRfl
namespace Go.Proofs.Ytibbgmahdiphpaa
/- THE CELL 'sum', in the pinned program and in every row, IS THE sha256 OF THE DUMP (.gsa) THAT YtibbgmahdiphpaaProg.lean LOADS. Nothing in Lean hashes anything: it is a label: what it is worth is what the hold of that sum in a sandbox is worth. -/
noncomputable def Try.pinned : Pinned := { name := "ytibbgmahdiphpaa", sum := "494c7a2f3bd0d7179dabc38b3bc93d77dec89960c8340581ad00a4280d34ef30", checked := Try.checked }
namespace Rows
def none {H : Type} : Left H := { results := [], args := [] }

/-- 'pochoirlaw11.MetricReads': WHATEVER THE INPUT: true; the input reads as it did. -/
def metricReadsSpec : ChangeSpec := { name := "metricReads", fn := fun _ => fun
  | [d1, d2, d3] => { results := [.lit (.bool true)], args := [d1, d2, d3] }
  | _ => none }
def metricReadsRow : OpenClaim := { program := "ytibbgmahdiphpaa", sum := "494c7a2f3bd0d7179dabc38b3bc93d77dec89960c8340581ad00a4280d34ef30", func := "pochoir/pochoirlaw11.MetricReads", spec := "metricReads", inPlace := ["internal/abi.NoEscape"], apart := false }
def MetricReadsSaid : Prop := metricReadsRow.holds Try.pinned (OpenSpec.ofChange metricReadsSpec)

/-- ITS FALSE NEIGHBOUR: 'it returns false'. Refute it at one input. -/
def metricReadsWrong : ChangeSpec := { name := "metricReads", fn := fun _ => fun
  | [d1, d2, d3] => { results := [.lit (.bool false)], args := [d1, d2, d3] }
  | _ => none }
def MetricReadsWrongFalsely : Prop := metricReadsRow.holds Try.pinned (OpenSpec.ofChange metricReadsWrong)

/-- 'pochoirlaw11.MetricWidths': WHATEVER THE INPUT: true; the input reads as it did. -/
def metricWidthsSpec : ChangeSpec := { name := "metricWidths", fn := fun _ => fun
  | [d1, d2] => { results := [.lit (.bool true)], args := [d1, d2] }
  | _ => none }
def metricWidthsRow : OpenClaim := { program := "ytibbgmahdiphpaa", sum := "494c7a2f3bd0d7179dabc38b3bc93d77dec89960c8340581ad00a4280d34ef30", func := "pochoir/pochoirlaw11.MetricWidths", spec := "metricWidths", inPlace := ["internal/abi.NoEscape"], apart := false }
def MetricWidthsSaid : Prop := metricWidthsRow.holds Try.pinned (OpenSpec.ofChange metricWidthsSpec)

/-- ITS FALSE NEIGHBOUR: 'it returns false'. Refute it at one input. -/
def metricWidthsWrong : ChangeSpec := { name := "metricWidths", fn := fun _ => fun
  | [d1, d2] => { results := [.lit (.bool false)], args := [d1, d2] }
  | _ => none }
def MetricWidthsWrongFalsely : Prop := metricWidthsRow.holds Try.pinned (OpenSpec.ofChange metricWidthsWrong)

/-- 'pochoirlaw11.MetricPlaces': WHATEVER THE INPUT: true; the input reads as it did. -/
def metricPlacesSpec : ChangeSpec := { name := "metricPlaces", fn := fun _ => fun
  | [d1, d2] => { results := [.lit (.bool true)], args := [d1, d2] }
  | _ => none }
def metricPlacesRow : OpenClaim := { program := "ytibbgmahdiphpaa", sum := "494c7a2f3bd0d7179dabc38b3bc93d77dec89960c8340581ad00a4280d34ef30", func := "pochoir/pochoirlaw11.MetricPlaces", spec := "metricPlaces", inPlace := ["internal/abi.NoEscape"], apart := false }
def MetricPlacesSaid : Prop := metricPlacesRow.holds Try.pinned (OpenSpec.ofChange metricPlacesSpec)

/-- ITS FALSE NEIGHBOUR: 'it returns false'. Refute it at one input. -/
def metricPlacesWrong : ChangeSpec := { name := "metricPlaces", fn := fun _ => fun
  | [d1, d2] => { results := [.lit (.bool false)], args := [d1, d2] }
  | _ => none }
def MetricPlacesWrongFalsely : Prop := metricPlacesRow.holds Try.pinned (OpenSpec.ofChange metricPlacesWrong)

/- THE SECOND FORM. 'bulk': how many values and letters a reading holds, each counted each time it is reached (what is shared counts as often as it is met; a slice's spare places count too). A statement '..UptoSaid' is the law's where the arguments, and the package variables that the reading takes, are together of bulk at most 1048576: NARROWER than '..Said'. Prove '..Said' where nothing that the law and all that it calls make is longer than what came in: it says more and counts as full. Else prove '..UptoSaid'. A law counts once. -/
mutual
def uptoBulk {H : Type} : DataW H → Nat
  | .lit (.string bytes) => bytes.length + 1
  | .lit _ => 1
  | .nil => 1
  | .ptr d => uptoBulk d + 1
  | .slice elems spare => uptoBulkAll elems + uptoBulkAll spare + 1
  | .agg parts => uptoBulkAll parts + 1
  | .iface _ d => uptoBulk d + 1
  | .map entries => uptoBulkEntries entries + 1
  | .held _ => 1
def uptoBulkAll {H : Type} : List (DataW H) → Nat
  | [] => 0
  | d :: r => uptoBulk d + uptoBulkAll r
def uptoBulkEntries {H : Type} : List (Lit × DataW H) → Nat
  | [] => 0
  | x :: r => uptoBulkEntry x + uptoBulkEntries r
def uptoBulkEntry {H : Type} : Lit × DataW H → Nat
  | (.string bytes, d) => bytes.length + uptoBulk d + 1
  | (_, d) => uptoBulk d + 1
 end
def uptoSmall : (H : Type) → List (DataW H) → Bool := fun _ ds => decide (uptoBulkAll ds ≤ 1048576)
def OpenSpec.upto (s : _root_.Go.ChangeSpec) : _root_.Go.OpenSpec := { _root_.Go.OpenSpec.ofChange s with cond := some uptoSmall }

/-- 'pochoirlaw11.MetricReads', WHERE WHAT IT READS IS OF BULK AT MOST 1048576: true; the input reads as it did. -/
def metricReadsUptoRow : OpenClaim := { program := "ytibbgmahdiphpaa", sum := "494c7a2f3bd0d7179dabc38b3bc93d77dec89960c8340581ad00a4280d34ef30", func := "pochoir/pochoirlaw11.MetricReads", spec := "metricReads", inPlace := ["internal/abi.NoEscape"], apart := false, narrowed := true }
def MetricReadsUptoSaid : Prop := metricReadsUptoRow.holds Try.pinned (OpenSpec.upto metricReadsSpec)

/-- 'pochoirlaw11.MetricWidths', WHERE WHAT IT READS IS OF BULK AT MOST 1048576: true; the input reads as it did. -/
def metricWidthsUptoRow : OpenClaim := { program := "ytibbgmahdiphpaa", sum := "494c7a2f3bd0d7179dabc38b3bc93d77dec89960c8340581ad00a4280d34ef30", func := "pochoir/pochoirlaw11.MetricWidths", spec := "metricWidths", inPlace := ["internal/abi.NoEscape"], apart := false, narrowed := true }
def MetricWidthsUptoSaid : Prop := metricWidthsUptoRow.holds Try.pinned (OpenSpec.upto metricWidthsSpec)

/-- 'pochoirlaw11.MetricPlaces', WHERE WHAT IT READS IS OF BULK AT MOST 1048576: true; the input reads as it did. -/
def metricPlacesUptoRow : OpenClaim := { program := "ytibbgmahdiphpaa", sum := "494c7a2f3bd0d7179dabc38b3bc93d77dec89960c8340581ad00a4280d34ef30", func := "pochoir/pochoirlaw11.MetricPlaces", spec := "metricPlaces", inPlace := ["internal/abi.NoEscape"], apart := false, narrowed := true }
def MetricPlacesUptoSaid : Prop := metricPlacesUptoRow.holds Try.pinned (OpenSpec.upto metricPlacesSpec)

end Rows
end Go.Proofs.Ytibbgmahdiphpaa
