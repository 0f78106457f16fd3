/-
  No cell of these rows narrows 'for every input' (looked for: loops, veiled, ifaces, maps, wideKeys, modest, calm, conditions, laid).
  DERIVED. THE GIVEN ROWS OF THIS SEAT. 3 by the template 'for every input the law returns true; each argument reads behind the call as it read before'; 0 by the template 'total and deterministic' (their statements: YtlfnagfcggmeaaaTotals.lean).
  GIVEN WITH THE SEED: the statements are not yours to turn. If you find one false, say at which input.
  Laid BY PROGRAM, IN A SANDBOX (cutbox-rows.mjs): the forced cells as the released guide's own fill.sh prints them over the translation cd749f6563299d65… (all of the seat's roots in one cut). By AI agents, Wed Nov 11 2026. No macro, syntax, notation, axiom, sorry.
-/
import Derived.Test.YtlfnagfcggmeaaaChecked
import GoSem.Claim
import GoSem.ClaimJoined
import GoSem.ClaimMapViews
import Derived.JoinedTies
import Derived.KernelRfl
namespace Go.Proofs.Ytlfnagfcggmeaaa
/- THE CELL 'sum', in the pinned program and in every row, IS THE sha256 OF THE DUMP (.gsa) THAT YtlfnagfcggmeaaaProg.lean LOADS. Nothing in Lean hashes anything: it is a label: what it is worth is what the hold of that sum in a sandbox is worth. -/
noncomputable def Try.pinned : Pinned := { name := "ytlfnagfcggmeaaa", sum := "cd749f6563299d65fc6b43abb3dc1158bf3dde1c08ac6a1b9c7995a5b76d59cf", checked := Try.checked }
namespace Rows
def none {H : Type} : Left H := { results := [], args := [] }

/-- 'pochoirlaw15.FlatOutlines': WHATEVER THE INPUT: true; the input reads as it did. -/
def flatOutlinesSpec : ChangeSpec := { name := "flatOutlines", fn := fun _ => fun
  | [d1, d2] => { results := [.lit (.bool true)], args := [d1, d2] }
  | _ => none }
def flatOutlinesRow : OpenClaim := { program := "ytlfnagfcggmeaaa", sum := "cd749f6563299d65fc6b43abb3dc1158bf3dde1c08ac6a1b9c7995a5b76d59cf", func := "pochoir/pochoirlaw15.FlatOutlines", spec := "flatOutlines", unfollowed := true, recurses := true, apart := false }
def FlatOutlinesSaid : Prop := flatOutlinesRow.holds Try.pinned (OpenSpec.ofChange flatOutlinesSpec)

/-- ITS FALSE NEIGHBOUR: 'it returns false'. Refute it at one input. -/
def flatOutlinesWrong : ChangeSpec := { name := "flatOutlines", fn := fun _ => fun
  | [d1, d2] => { results := [.lit (.bool false)], args := [d1, d2] }
  | _ => none }
def FlatOutlinesWrongFalsely : Prop := flatOutlinesRow.holds Try.pinned (OpenSpec.ofChange flatOutlinesWrong)

/-- 'pochoirlaw15.FlatParses': WHATEVER THE INPUT: true; the input reads as it did. -/
def flatParsesSpec : ChangeSpec := { name := "flatParses", fn := fun _ => fun
  | [d1, d2] => { results := [.lit (.bool true)], args := [d1, d2] }
  | _ => none }
def flatParsesRow : OpenClaim := { program := "ytlfnagfcggmeaaa", sum := "cd749f6563299d65fc6b43abb3dc1158bf3dde1c08ac6a1b9c7995a5b76d59cf", func := "pochoir/pochoirlaw15.FlatParses", spec := "flatParses", unfollowed := true, recurses := true, apart := false }
def FlatParsesSaid : Prop := flatParsesRow.holds Try.pinned (OpenSpec.ofChange flatParsesSpec)

/-- ITS FALSE NEIGHBOUR: 'it returns false'. Refute it at one input. -/
def flatParsesWrong : ChangeSpec := { name := "flatParses", fn := fun _ => fun
  | [d1, d2] => { results := [.lit (.bool false)], args := [d1, d2] }
  | _ => none }
def FlatParsesWrongFalsely : Prop := flatParsesRow.holds Try.pinned (OpenSpec.ofChange flatParsesWrong)

/-- 'pochoirlaw15.FlatRows': WHATEVER THE INPUT: true; the input reads as it did. -/
def flatRowsSpec : ChangeSpec := { name := "flatRows", fn := fun _ => fun
  | [d1, d2] => { results := [.lit (.bool true)], args := [d1, d2] }
  | _ => none }
def flatRowsRow : OpenClaim := { program := "ytlfnagfcggmeaaa", sum := "cd749f6563299d65fc6b43abb3dc1158bf3dde1c08ac6a1b9c7995a5b76d59cf", func := "pochoir/pochoirlaw15.FlatRows", spec := "flatRows", unfollowed := true, recurses := true, apart := false }
def FlatRowsSaid : Prop := flatRowsRow.holds Try.pinned (OpenSpec.ofChange flatRowsSpec)

/-- ITS FALSE NEIGHBOUR: 'it returns false'. Refute it at one input. -/
def flatRowsWrong : ChangeSpec := { name := "flatRows", fn := fun _ => fun
  | [d1, d2] => { results := [.lit (.bool false)], args := [d1, d2] }
  | _ => none }
def FlatRowsWrongFalsely : Prop := flatRowsRow.holds Try.pinned (OpenSpec.ofChange flatRowsWrong)

/- THE SECOND FORM. 'bulk': how many values and letters a reading holds, each counted each time it is reached (what is shared counts as often as it is met; a slice's spare places count too). A statement '..UptoSaid' is the law's where the arguments, and the package variables that the reading takes, are together of bulk at most 1048576: NARROWER than '..Said'. Prove '..Said' where nothing that the law and all that it calls make is longer than what came in: it says more and counts as full. Else prove '..UptoSaid'. A law counts once. -/
mutual
def uptoBulk {H : Type} : DataW H → Nat
  | .lit (.string bytes) => bytes.length + 1
  | .lit _ => 1
  | .nil => 1
  | .ptr d => uptoBulk d + 1
  | .slice elems spare => uptoBulkAll elems + uptoBulkAll spare + 1
  | .agg parts => uptoBulkAll parts + 1
  | .iface _ d => uptoBulk d + 1
  | .map entries => uptoBulkEntries entries + 1
  | .held _ => 1
def uptoBulkAll {H : Type} : List (DataW H) → Nat
  | [] => 0
  | d :: r => uptoBulk d + uptoBulkAll r
def uptoBulkEntries {H : Type} : List (Lit × DataW H) → Nat
  | [] => 0
  | x :: r => uptoBulkEntry x + uptoBulkEntries r
def uptoBulkEntry {H : Type} : Lit × DataW H → Nat
  | (.string bytes, d) => bytes.length + uptoBulk d + 1
  | (_, d) => uptoBulk d + 1
 end
def uptoSmall : (H : Type) → List (DataW H) → Bool := fun _ ds => decide (uptoBulkAll ds ≤ 1048576)
def OpenSpec.upto (s : _root_.Go.ChangeSpec) : _root_.Go.OpenSpec := { _root_.Go.OpenSpec.ofChange s with cond := some uptoSmall }

/-- 'pochoirlaw15.FlatOutlines', WHERE WHAT IT READS IS OF BULK AT MOST 1048576: true; the input reads as it did. -/
def flatOutlinesUptoRow : OpenClaim := { program := "ytlfnagfcggmeaaa", sum := "cd749f6563299d65fc6b43abb3dc1158bf3dde1c08ac6a1b9c7995a5b76d59cf", func := "pochoir/pochoirlaw15.FlatOutlines", spec := "flatOutlines", unfollowed := true, recurses := true, apart := false, narrowed := true }
def FlatOutlinesUptoSaid : Prop := flatOutlinesUptoRow.holds Try.pinned (OpenSpec.upto flatOutlinesSpec)

/-- 'pochoirlaw15.FlatParses', WHERE WHAT IT READS IS OF BULK AT MOST 1048576: true; the input reads as it did. -/
def flatParsesUptoRow : OpenClaim := { program := "ytlfnagfcggmeaaa", sum := "cd749f6563299d65fc6b43abb3dc1158bf3dde1c08ac6a1b9c7995a5b76d59cf", func := "pochoir/pochoirlaw15.FlatParses", spec := "flatParses", unfollowed := true, recurses := true, apart := false, narrowed := true }
def FlatParsesUptoSaid : Prop := flatParsesUptoRow.holds Try.pinned (OpenSpec.upto flatParsesSpec)

/-- 'pochoirlaw15.FlatRows', WHERE WHAT IT READS IS OF BULK AT MOST 1048576: true; the input reads as it did. -/
def flatRowsUptoRow : OpenClaim := { program := "ytlfnagfcggmeaaa", sum := "cd749f6563299d65fc6b43abb3dc1158bf3dde1c08ac6a1b9c7995a5b76d59cf", func := "pochoir/pochoirlaw15.FlatRows", spec := "flatRows", unfollowed := true, recurses := true, apart := false, narrowed := true }
def FlatRowsUptoSaid : Prop := flatRowsUptoRow.holds Try.pinned (OpenSpec.upto flatRowsSpec)

end Rows
end Go.Proofs.Ytlfnagfcggmeaaa
