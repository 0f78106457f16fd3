/-
  No cell of these rows narrows 'for every input' (looked for: loops, veiled, ifaces, maps, wideKeys, modest, calm, conditions, laid).
  DERIVED. THE GIVEN ROWS OF THIS SEAT. 4 by the template 'for every input the law returns true; each argument reads behind the call as it read before'; 0 by the template 'total and deterministic' (their statements: YtfhaloclbbmbeaaGreatTotals.lean).
  GIVEN WITH THE SEED: the statements are not yours to turn. If you find one false, say at which input.
  Laid BY PROGRAM, IN A SANDBOX (cutbox-rows.mjs): the forced cells as the released guide's own fill.sh prints them over the translation a60227ee1b41884d… (all of the seat's roots in one cut). By AI agents, Wed Nov 11 2026. No macro, syntax, notation, axiom, sorry.
-/
import Derived.Test.YtfhaloclbbmbeaaGreatChecked
import GoSem.Claim
import GoSem.ClaimJoined
import GoSem.ClaimMapViews
import Derived.JoinedTies
import Derived.KernelRfl
namespace Go.Proofs.YtfhaloclbbmbeaaGreat
/- THE CELL 'sum', in the pinned program and in every row, IS THE sha256 OF THE DUMP (.gsa) THAT YtfhaloclbbmbeaaGreatProg.lean LOADS. Nothing in Lean hashes anything: it is a label: what it is worth is what the hold of that sum in a sandbox is worth. -/
noncomputable def Tryz.pinned : Pinned := { name := "ytfhaloclbbmbeaagreat", sum := "a60227ee1b41884d044a3b1d2322aeb7721290770536ddd7dc3dac7a13908032", checked := Tryz.checked }
namespace Rows
def none {H : Type} : Left H := { results := [], args := [] }

/-- 'pochoirlaw17.FontAny': WHATEVER THE INPUT: true; the input reads as it did. -/
def fontAnySpec : ChangeSpec := { name := "fontAny", fn := fun _ => fun
  | [d] => { results := [.lit (.bool true)], args := [d] }
  | _ => none }
def fontAnyRow : OpenClaim := { program := "ytfhaloclbbmbeaagreat", sum := "a60227ee1b41884d044a3b1d2322aeb7721290770536ddd7dc3dac7a13908032", func := "pochoir/pochoirlaw17.FontAny", spec := "fontAny", inPlace := ["internal/abi.NoEscape", "internal/bytealg.MakeNoZero"], unfollowed := true, recurses := true, plainKeys := false, apart := false }
def FontAnySaid : Prop := fontAnyRow.holds Tryz.pinned (OpenSpec.ofChange fontAnySpec)

/-- ITS FALSE NEIGHBOUR: 'it returns false'. Refute it at one input. -/
def fontAnyWrong : ChangeSpec := { name := "fontAny", fn := fun _ => fun
  | [d] => { results := [.lit (.bool false)], args := [d] }
  | _ => none }
def FontAnyWrongFalsely : Prop := fontAnyRow.holds Tryz.pinned (OpenSpec.ofChange fontAnyWrong)

/-- 'pochoirlaw17.FontTables': WHATEVER THE INPUT: true; the input reads as it did. -/
def fontTablesSpec : ChangeSpec := { name := "fontTables", fn := fun _ => fun
  | [d] => { results := [.lit (.bool true)], args := [d] }
  | _ => none }
def fontTablesRow : OpenClaim := { program := "ytfhaloclbbmbeaagreat", sum := "a60227ee1b41884d044a3b1d2322aeb7721290770536ddd7dc3dac7a13908032", func := "pochoir/pochoirlaw17.FontTables", spec := "fontTables", inPlace := ["internal/abi.NoEscape", "internal/bytealg.MakeNoZero"], unfollowed := true, recurses := true, plainKeys := false, apart := false }
def FontTablesSaid : Prop := fontTablesRow.holds Tryz.pinned (OpenSpec.ofChange fontTablesSpec)

/-- ITS FALSE NEIGHBOUR: 'it returns false'. Refute it at one input. -/
def fontTablesWrong : ChangeSpec := { name := "fontTables", fn := fun _ => fun
  | [d] => { results := [.lit (.bool false)], args := [d] }
  | _ => none }
def FontTablesWrongFalsely : Prop := fontTablesRow.holds Tryz.pinned (OpenSpec.ofChange fontTablesWrong)

/-- 'pochoirlaw17.FontBack': WHATEVER THE INPUT: true; the input reads as it did. -/
def fontBackSpec : ChangeSpec := { name := "fontBack", fn := fun _ => fun
  | [d1, d2] => { results := [.lit (.bool true)], args := [d1, d2] }
  | _ => none }
def fontBackRow : OpenClaim := { program := "ytfhaloclbbmbeaagreat", sum := "a60227ee1b41884d044a3b1d2322aeb7721290770536ddd7dc3dac7a13908032", func := "pochoir/pochoirlaw17.FontBack", spec := "fontBack", inPlace := ["internal/abi.NoEscape", "internal/bytealg.MakeNoZero"], unfollowed := true, recurses := true, plainKeys := false, apart := false }
def FontBackSaid : Prop := fontBackRow.holds Tryz.pinned (OpenSpec.ofChange fontBackSpec)

/-- ITS FALSE NEIGHBOUR: 'it returns false'. Refute it at one input. -/
def fontBackWrong : ChangeSpec := { name := "fontBack", fn := fun _ => fun
  | [d1, d2] => { results := [.lit (.bool false)], args := [d1, d2] }
  | _ => none }
def FontBackWrongFalsely : Prop := fontBackRow.holds Tryz.pinned (OpenSpec.ofChange fontBackWrong)

/-- 'pochoirlaw17.FontNone': WHATEVER THE INPUT: true; the input reads as it did. -/
def fontNoneSpec : ChangeSpec := { name := "fontNone", fn := fun _ => fun
  | [d1, d2] => { results := [.lit (.bool true)], args := [d1, d2] }
  | _ => none }
def fontNoneRow : OpenClaim := { program := "ytfhaloclbbmbeaagreat", sum := "a60227ee1b41884d044a3b1d2322aeb7721290770536ddd7dc3dac7a13908032", func := "pochoir/pochoirlaw17.FontNone", spec := "fontNone", inPlace := ["internal/abi.NoEscape", "internal/bytealg.MakeNoZero"], unfollowed := true, recurses := true, plainKeys := false, apart := false }
def FontNoneSaid : Prop := fontNoneRow.holds Tryz.pinned (OpenSpec.ofChange fontNoneSpec)

/-- ITS FALSE NEIGHBOUR: 'it returns false'. Refute it at one input. -/
def fontNoneWrong : ChangeSpec := { name := "fontNone", fn := fun _ => fun
  | [d1, d2] => { results := [.lit (.bool false)], args := [d1, d2] }
  | _ => none }
def FontNoneWrongFalsely : Prop := fontNoneRow.holds Tryz.pinned (OpenSpec.ofChange fontNoneWrong)

/- THE SECOND FORM. 'bulk': how many values and letters a reading holds, each counted each time it is reached (what is shared counts as often as it is met; a slice's spare places count too). A statement '..UptoSaid' is the law's where the arguments, and the package variables that the reading takes, are together of bulk at most 1048576: NARROWER than '..Said'. Prove '..Said' where nothing that the law and all that it calls make is longer than what came in: it says more and counts as full. Else prove '..UptoSaid'. A law counts once. -/
mutual
def uptoBulk {H : Type} : DataW H → Nat
  | .lit (.string bytes) => bytes.length + 1
  | .lit _ => 1
  | .nil => 1
  | .ptr d => uptoBulk d + 1
  | .slice elems spare => uptoBulkAll elems + uptoBulkAll spare + 1
  | .agg parts => uptoBulkAll parts + 1
  | .iface _ d => uptoBulk d + 1
  | .map entries => uptoBulkEntries entries + 1
  | .held _ => 1
def uptoBulkAll {H : Type} : List (DataW H) → Nat
  | [] => 0
  | d :: r => uptoBulk d + uptoBulkAll r
def uptoBulkEntries {H : Type} : List (Lit × DataW H) → Nat
  | [] => 0
  | x :: r => uptoBulkEntry x + uptoBulkEntries r
def uptoBulkEntry {H : Type} : Lit × DataW H → Nat
  | (.string bytes, d) => bytes.length + uptoBulk d + 1
  | (_, d) => uptoBulk d + 1
 end
def uptoSmall : (H : Type) → List (DataW H) → Bool := fun _ ds => decide (uptoBulkAll ds ≤ 1048576)
def OpenSpec.upto (s : _root_.Go.ChangeSpec) : _root_.Go.OpenSpec := { _root_.Go.OpenSpec.ofChange s with cond := some uptoSmall }

/-- 'pochoirlaw17.FontAny', WHERE WHAT IT READS IS OF BULK AT MOST 1048576: true; the input reads as it did. -/
def fontAnyUptoRow : OpenClaim := { program := "ytfhaloclbbmbeaagreat", sum := "a60227ee1b41884d044a3b1d2322aeb7721290770536ddd7dc3dac7a13908032", func := "pochoir/pochoirlaw17.FontAny", spec := "fontAny", inPlace := ["internal/abi.NoEscape", "internal/bytealg.MakeNoZero"], unfollowed := true, recurses := true, plainKeys := false, apart := false, narrowed := true }
def FontAnyUptoSaid : Prop := fontAnyUptoRow.holds Tryz.pinned (OpenSpec.upto fontAnySpec)

/-- 'pochoirlaw17.FontTables', WHERE WHAT IT READS IS OF BULK AT MOST 1048576: true; the input reads as it did. -/
def fontTablesUptoRow : OpenClaim := { program := "ytfhaloclbbmbeaagreat", sum := "a60227ee1b41884d044a3b1d2322aeb7721290770536ddd7dc3dac7a13908032", func := "pochoir/pochoirlaw17.FontTables", spec := "fontTables", inPlace := ["internal/abi.NoEscape", "internal/bytealg.MakeNoZero"], unfollowed := true, recurses := true, plainKeys := false, apart := false, narrowed := true }
def FontTablesUptoSaid : Prop := fontTablesUptoRow.holds Tryz.pinned (OpenSpec.upto fontTablesSpec)

/-- 'pochoirlaw17.FontBack', WHERE WHAT IT READS IS OF BULK AT MOST 1048576: true; the input reads as it did. -/
def fontBackUptoRow : OpenClaim := { program := "ytfhaloclbbmbeaagreat", sum := "a60227ee1b41884d044a3b1d2322aeb7721290770536ddd7dc3dac7a13908032", func := "pochoir/pochoirlaw17.FontBack", spec := "fontBack", inPlace := ["internal/abi.NoEscape", "internal/bytealg.MakeNoZero"], unfollowed := true, recurses := true, plainKeys := false, apart := false, narrowed := true }
def FontBackUptoSaid : Prop := fontBackUptoRow.holds Tryz.pinned (OpenSpec.upto fontBackSpec)

/-- 'pochoirlaw17.FontNone', WHERE WHAT IT READS IS OF BULK AT MOST 1048576: true; the input reads as it did. -/
def fontNoneUptoRow : OpenClaim := { program := "ytfhaloclbbmbeaagreat", sum := "a60227ee1b41884d044a3b1d2322aeb7721290770536ddd7dc3dac7a13908032", func := "pochoir/pochoirlaw17.FontNone", spec := "fontNone", inPlace := ["internal/abi.NoEscape", "internal/bytealg.MakeNoZero"], unfollowed := true, recurses := true, plainKeys := false, apart := false, narrowed := true }
def FontNoneUptoSaid : Prop := fontNoneUptoRow.holds Tryz.pinned (OpenSpec.upto fontNoneSpec)

end Rows
end Go.Proofs.YtfhaloclbbmbeaaGreat
