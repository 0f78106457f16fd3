/-
  No cell of these rows narrows 'for every input' (looked for: loops, veiled, ifaces, maps, wideKeys, modest, calm, conditions, laid).
  DERIVED. THE GIVEN ROWS OF THIS SEAT. 3 by the template 'for every input the law returns true; each argument reads behind the call as it read before'; 0 by the template 'total and deterministic' (their statements: YtbmeamhpmahlgaaTotals.lean).
  GIVEN WITH THE SEED: the statements are not yours to turn. If you find one false, say at which input.
  Laid BY PROGRAM, IN A SANDBOX (cutbox-rows.mjs): the forced cells as the released guide's own fill.sh prints them over the translation 470e26434ec6c007… (all of the seat's roots in one cut). By AI agents, Wed Nov 11 2026. No macro, syntax, notation, axiom, sorry.
-/
import Derived.Test.YtbmeamhpmahlgaaChecked
import GoSem.Claim
import GoSem.ClaimJoined
import GoSem.ClaimMapViews
import Derived.JoinedTies
import Derived.KernelRfl
namespace Go.Proofs.Ytbmeamhpmahlgaa
/- THE CELL 'sum', in the pinned program and in every row, IS THE sha256 OF THE DUMP (.gsa) THAT YtbmeamhpmahlgaaProg.lean LOADS. Nothing in Lean hashes anything: it is a label: what it is worth is what the hold of that sum in a sandbox is worth. -/
noncomputable def Try.pinned : Pinned := { name := "ytbmeamhpmahlgaa", sum := "470e26434ec6c007d9f95cbb42b18ac5626ed5c371798b2bb884b92242f57aaa", checked := Try.checked }
namespace Rows
def none {H : Type} : Left H := { results := [], args := [] }

/-- 'pochoirlaw14.CompBack': WHATEVER THE INPUT: true; the input reads as it did. -/
def compBackSpec : ChangeSpec := { name := "compBack", fn := fun _ => fun
  | [d1, d2] => { results := [.lit (.bool true)], args := [d1, d2] }
  | _ => none }
def compBackRow : OpenClaim := { program := "ytbmeamhpmahlgaa", sum := "470e26434ec6c007d9f95cbb42b18ac5626ed5c371798b2bb884b92242f57aaa", func := "pochoir/pochoirlaw14.CompBack", spec := "compBack", inPlace := ["internal/abi.NoEscape", "internal/bytealg.MakeNoZero"], apart := false }
def CompBackSaid : Prop := compBackRow.holds Try.pinned (OpenSpec.ofChange compBackSpec)

/-- ITS FALSE NEIGHBOUR: 'it returns false'. Refute it at one input. -/
def compBackWrong : ChangeSpec := { name := "compBack", fn := fun _ => fun
  | [d1, d2] => { results := [.lit (.bool false)], args := [d1, d2] }
  | _ => none }
def CompBackWrongFalsely : Prop := compBackRow.holds Try.pinned (OpenSpec.ofChange compBackWrong)

/-- 'pochoirlaw14.CompAny': WHATEVER THE INPUT: true; the input reads as it did. -/
def compAnySpec : ChangeSpec := { name := "compAny", fn := fun _ => fun
  | [d1, d2] => { results := [.lit (.bool true)], args := [d1, d2] }
  | _ => none }
def compAnyRow : OpenClaim := { program := "ytbmeamhpmahlgaa", sum := "470e26434ec6c007d9f95cbb42b18ac5626ed5c371798b2bb884b92242f57aaa", func := "pochoir/pochoirlaw14.CompAny", spec := "compAny", inPlace := ["internal/abi.NoEscape", "internal/bytealg.MakeNoZero"], apart := false }
def CompAnySaid : Prop := compAnyRow.holds Try.pinned (OpenSpec.ofChange compAnySpec)

/-- ITS FALSE NEIGHBOUR: 'it returns false'. Refute it at one input. -/
def compAnyWrong : ChangeSpec := { name := "compAny", fn := fun _ => fun
  | [d1, d2] => { results := [.lit (.bool false)], args := [d1, d2] }
  | _ => none }
def CompAnyWrongFalsely : Prop := compAnyRow.holds Try.pinned (OpenSpec.ofChange compAnyWrong)

/-- 'pochoirlaw14.CompMoves': WHATEVER THE INPUT: true; the input reads as it did. -/
def compMovesSpec : ChangeSpec := { name := "compMoves", fn := fun _ => fun
  | [d1, d2, d3] => { results := [.lit (.bool true)], args := [d1, d2, d3] }
  | _ => none }
def compMovesRow : OpenClaim := { program := "ytbmeamhpmahlgaa", sum := "470e26434ec6c007d9f95cbb42b18ac5626ed5c371798b2bb884b92242f57aaa", func := "pochoir/pochoirlaw14.CompMoves", spec := "compMoves", inPlace := ["internal/abi.NoEscape", "internal/bytealg.MakeNoZero"], apart := false }
def CompMovesSaid : Prop := compMovesRow.holds Try.pinned (OpenSpec.ofChange compMovesSpec)

/-- ITS FALSE NEIGHBOUR: 'it returns false'. Refute it at one input. -/
def compMovesWrong : ChangeSpec := { name := "compMoves", fn := fun _ => fun
  | [d1, d2, d3] => { results := [.lit (.bool false)], args := [d1, d2, d3] }
  | _ => none }
def CompMovesWrongFalsely : Prop := compMovesRow.holds Try.pinned (OpenSpec.ofChange compMovesWrong)

/- THE SECOND FORM. 'bulk': how many values and letters a reading holds, each counted each time it is reached (what is shared counts as often as it is met; a slice's spare places count too). A statement '..UptoSaid' is the law's where the arguments, and the package variables that the reading takes, are together of bulk at most 1048576: NARROWER than '..Said'. Prove '..Said' where nothing that the law and all that it calls make is longer than what came in: it says more and counts as full. Else prove '..UptoSaid'. A law counts once. -/
mutual
def uptoBulk {H : Type} : DataW H → Nat
  | .lit (.string bytes) => bytes.length + 1
  | .lit _ => 1
  | .nil => 1
  | .ptr d => uptoBulk d + 1
  | .slice elems spare => uptoBulkAll elems + uptoBulkAll spare + 1
  | .agg parts => uptoBulkAll parts + 1
  | .iface _ d => uptoBulk d + 1
  | .map entries => uptoBulkEntries entries + 1
  | .held _ => 1
def uptoBulkAll {H : Type} : List (DataW H) → Nat
  | [] => 0
  | d :: r => uptoBulk d + uptoBulkAll r
def uptoBulkEntries {H : Type} : List (Lit × DataW H) → Nat
  | [] => 0
  | x :: r => uptoBulkEntry x + uptoBulkEntries r
def uptoBulkEntry {H : Type} : Lit × DataW H → Nat
  | (.string bytes, d) => bytes.length + uptoBulk d + 1
  | (_, d) => uptoBulk d + 1
 end
def uptoSmall : (H : Type) → List (DataW H) → Bool := fun _ ds => decide (uptoBulkAll ds ≤ 1048576)
def OpenSpec.upto (s : _root_.Go.ChangeSpec) : _root_.Go.OpenSpec := { _root_.Go.OpenSpec.ofChange s with cond := some uptoSmall }

/-- 'pochoirlaw14.CompBack', WHERE WHAT IT READS IS OF BULK AT MOST 1048576: true; the input reads as it did. -/
def compBackUptoRow : OpenClaim := { program := "ytbmeamhpmahlgaa", sum := "470e26434ec6c007d9f95cbb42b18ac5626ed5c371798b2bb884b92242f57aaa", func := "pochoir/pochoirlaw14.CompBack", spec := "compBack", inPlace := ["internal/abi.NoEscape", "internal/bytealg.MakeNoZero"], apart := false, narrowed := true }
def CompBackUptoSaid : Prop := compBackUptoRow.holds Try.pinned (OpenSpec.upto compBackSpec)

/-- 'pochoirlaw14.CompAny', WHERE WHAT IT READS IS OF BULK AT MOST 1048576: true; the input reads as it did. -/
def compAnyUptoRow : OpenClaim := { program := "ytbmeamhpmahlgaa", sum := "470e26434ec6c007d9f95cbb42b18ac5626ed5c371798b2bb884b92242f57aaa", func := "pochoir/pochoirlaw14.CompAny", spec := "compAny", inPlace := ["internal/abi.NoEscape", "internal/bytealg.MakeNoZero"], apart := false, narrowed := true }
def CompAnyUptoSaid : Prop := compAnyUptoRow.holds Try.pinned (OpenSpec.upto compAnySpec)

/-- 'pochoirlaw14.CompMoves', WHERE WHAT IT READS IS OF BULK AT MOST 1048576: true; the input reads as it did. -/
def compMovesUptoRow : OpenClaim := { program := "ytbmeamhpmahlgaa", sum := "470e26434ec6c007d9f95cbb42b18ac5626ed5c371798b2bb884b92242f57aaa", func := "pochoir/pochoirlaw14.CompMoves", spec := "compMoves", inPlace := ["internal/abi.NoEscape", "internal/bytealg.MakeNoZero"], apart := false, narrowed := true }
def CompMovesUptoSaid : Prop := compMovesUptoRow.holds Try.pinned (OpenSpec.upto compMovesSpec)

end Rows
end Go.Proofs.Ytbmeamhpmahlgaa
