/-
  No cell of these rows narrows 'for every input' (looked for: loops, veiled, ifaces, maps, wideKeys, modest, calm, conditions, laid).
  DERIVED. THE GIVEN ROWS OF THIS SEAT. 3 by the template 'for every input the law returns true; each argument reads behind the call as it read before'; 0 by the template 'total and deterministic' (their statements: YtcpphbogadjgfaaTotals.lean).
  GIVEN WITH THE SEED: the statements are not yours to turn. If you find one false, say at which input.
  Laid BY PROGRAM, IN A SANDBOX (cutbox-rows.mjs): the forced cells as the released guide's own fill.sh prints them over the translation a687750f048c2135… (all of the seat's roots in one cut). By AI agents, Wed Nov 11 2026. No macro, syntax, notation, axiom, sorry.
-/
import Derived.Test.YtcpphbogadjgfaaChecked
import GoSem.Claim
import GoSem.ClaimJoined
import GoSem.ClaimMapViews
import Derived.JoinedTies
import Derived.KernelRfl
namespace Go.Proofs.Ytcpphbogadjgfaa
/- THE CELL 'sum', in the pinned program and in every row, IS THE sha256 OF THE DUMP (.gsa) THAT YtcpphbogadjgfaaProg.lean LOADS. Nothing in Lean hashes anything: it is a label: what it is worth is what the hold of that sum in a sandbox is worth. -/
noncomputable def Try.pinned : Pinned := { name := "ytcpphbogadjgfaa", sum := "a687750f048c2135269a0e99451e1e7d7b21735c9cc6537b3b995a7a29939113", checked := Try.checked }
namespace Rows
def none {H : Type} : Left H := { results := [], args := [] }

/-- 'pochoirlaw13.GlyfBack': WHATEVER THE INPUT: true; the input reads as it did. -/
def glyfBackSpec : ChangeSpec := { name := "glyfBack", fn := fun _ => fun
  | [d] => { results := [.lit (.bool true)], args := [d] }
  | _ => none }
def glyfBackRow : OpenClaim := { program := "ytcpphbogadjgfaa", sum := "a687750f048c2135269a0e99451e1e7d7b21735c9cc6537b3b995a7a29939113", func := "pochoir/pochoirlaw13.GlyfBack", spec := "glyfBack", inPlace := ["internal/abi.NoEscape"], apart := false }
def GlyfBackSaid : Prop := glyfBackRow.holds Try.pinned (OpenSpec.ofChange glyfBackSpec)

/-- ITS FALSE NEIGHBOUR: 'it returns false'. Refute it at one input. -/
def glyfBackWrong : ChangeSpec := { name := "glyfBack", fn := fun _ => fun
  | [d] => { results := [.lit (.bool false)], args := [d] }
  | _ => none }
def GlyfBackWrongFalsely : Prop := glyfBackRow.holds Try.pinned (OpenSpec.ofChange glyfBackWrong)

/-- 'pochoirlaw13.GlyfAny': WHATEVER THE INPUT: true; the input reads as it did. -/
def glyfAnySpec : ChangeSpec := { name := "glyfAny", fn := fun _ => fun
  | [d] => { results := [.lit (.bool true)], args := [d] }
  | _ => none }
def glyfAnyRow : OpenClaim := { program := "ytcpphbogadjgfaa", sum := "a687750f048c2135269a0e99451e1e7d7b21735c9cc6537b3b995a7a29939113", func := "pochoir/pochoirlaw13.GlyfAny", spec := "glyfAny", inPlace := ["internal/abi.NoEscape"], apart := false }
def GlyfAnySaid : Prop := glyfAnyRow.holds Try.pinned (OpenSpec.ofChange glyfAnySpec)

/-- ITS FALSE NEIGHBOUR: 'it returns false'. Refute it at one input. -/
def glyfAnyWrong : ChangeSpec := { name := "glyfAny", fn := fun _ => fun
  | [d] => { results := [.lit (.bool false)], args := [d] }
  | _ => none }
def GlyfAnyWrongFalsely : Prop := glyfAnyRow.holds Try.pinned (OpenSpec.ofChange glyfAnyWrong)

/-- 'pochoirlaw13.GlyfBounds': WHATEVER THE INPUT: true; the input reads as it did. -/
def glyfBoundsSpec : ChangeSpec := { name := "glyfBounds", fn := fun _ => fun
  | [d1, d2, d3] => { results := [.lit (.bool true)], args := [d1, d2, d3] }
  | _ => none }
def glyfBoundsRow : OpenClaim := { program := "ytcpphbogadjgfaa", sum := "a687750f048c2135269a0e99451e1e7d7b21735c9cc6537b3b995a7a29939113", func := "pochoir/pochoirlaw13.GlyfBounds", spec := "glyfBounds", inPlace := ["internal/abi.NoEscape"], apart := false }
def GlyfBoundsSaid : Prop := glyfBoundsRow.holds Try.pinned (OpenSpec.ofChange glyfBoundsSpec)

/-- ITS FALSE NEIGHBOUR: 'it returns false'. Refute it at one input. -/
def glyfBoundsWrong : ChangeSpec := { name := "glyfBounds", fn := fun _ => fun
  | [d1, d2, d3] => { results := [.lit (.bool false)], args := [d1, d2, d3] }
  | _ => none }
def GlyfBoundsWrongFalsely : Prop := glyfBoundsRow.holds Try.pinned (OpenSpec.ofChange glyfBoundsWrong)

/- THE SECOND FORM. 'bulk': how many values and letters a reading holds, each counted each time it is reached (what is shared counts as often as it is met; a slice's spare places count too). A statement '..UptoSaid' is the law's where the arguments, and the package variables that the reading takes, are together of bulk at most 1048576: NARROWER than '..Said'. Prove '..Said' where nothing that the law and all that it calls make is longer than what came in: it says more and counts as full. Else prove '..UptoSaid'. A law counts once. -/
mutual
def uptoBulk {H : Type} : DataW H → Nat
  | .lit (.string bytes) => bytes.length + 1
  | .lit _ => 1
  | .nil => 1
  | .ptr d => uptoBulk d + 1
  | .slice elems spare => uptoBulkAll elems + uptoBulkAll spare + 1
  | .agg parts => uptoBulkAll parts + 1
  | .iface _ d => uptoBulk d + 1
  | .map entries => uptoBulkEntries entries + 1
  | .held _ => 1
def uptoBulkAll {H : Type} : List (DataW H) → Nat
  | [] => 0
  | d :: r => uptoBulk d + uptoBulkAll r
def uptoBulkEntries {H : Type} : List (Lit × DataW H) → Nat
  | [] => 0
  | x :: r => uptoBulkEntry x + uptoBulkEntries r
def uptoBulkEntry {H : Type} : Lit × DataW H → Nat
  | (.string bytes, d) => bytes.length + uptoBulk d + 1
  | (_, d) => uptoBulk d + 1
 end
def uptoSmall : (H : Type) → List (DataW H) → Bool := fun _ ds => decide (uptoBulkAll ds ≤ 1048576)
def OpenSpec.upto (s : _root_.Go.ChangeSpec) : _root_.Go.OpenSpec := { _root_.Go.OpenSpec.ofChange s with cond := some uptoSmall }

/-- 'pochoirlaw13.GlyfBack', WHERE WHAT IT READS IS OF BULK AT MOST 1048576: true; the input reads as it did. -/
def glyfBackUptoRow : OpenClaim := { program := "ytcpphbogadjgfaa", sum := "a687750f048c2135269a0e99451e1e7d7b21735c9cc6537b3b995a7a29939113", func := "pochoir/pochoirlaw13.GlyfBack", spec := "glyfBack", inPlace := ["internal/abi.NoEscape"], apart := false, narrowed := true }
def GlyfBackUptoSaid : Prop := glyfBackUptoRow.holds Try.pinned (OpenSpec.upto glyfBackSpec)

/-- 'pochoirlaw13.GlyfAny', WHERE WHAT IT READS IS OF BULK AT MOST 1048576: true; the input reads as it did. -/
def glyfAnyUptoRow : OpenClaim := { program := "ytcpphbogadjgfaa", sum := "a687750f048c2135269a0e99451e1e7d7b21735c9cc6537b3b995a7a29939113", func := "pochoir/pochoirlaw13.GlyfAny", spec := "glyfAny", inPlace := ["internal/abi.NoEscape"], apart := false, narrowed := true }
def GlyfAnyUptoSaid : Prop := glyfAnyUptoRow.holds Try.pinned (OpenSpec.upto glyfAnySpec)

/-- 'pochoirlaw13.GlyfBounds', WHERE WHAT IT READS IS OF BULK AT MOST 1048576: true; the input reads as it did. -/
def glyfBoundsUptoRow : OpenClaim := { program := "ytcpphbogadjgfaa", sum := "a687750f048c2135269a0e99451e1e7d7b21735c9cc6537b3b995a7a29939113", func := "pochoir/pochoirlaw13.GlyfBounds", spec := "glyfBounds", inPlace := ["internal/abi.NoEscape"], apart := false, narrowed := true }
def GlyfBoundsUptoSaid : Prop := glyfBoundsUptoRow.holds Try.pinned (OpenSpec.upto glyfBoundsSpec)

end Rows
end Go.Proofs.Ytcpphbogadjgfaa
