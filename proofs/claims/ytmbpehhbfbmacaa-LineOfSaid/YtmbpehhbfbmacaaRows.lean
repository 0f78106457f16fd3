/-
  No cell of these rows narrows 'for every input' (looked for: loops, veiled, ifaces, maps, wideKeys, modest, calm, conditions, laid).
  DERIVED. THE GIVEN ROWS OF THIS SEAT. 3 by the template 'for every input the law returns true; each argument reads behind the call as it read before'; 0 by the template 'total and deterministic' (their statements: YtmbpehhbfbmacaaTotals.lean).
  GIVEN WITH THE SEED: the statements are not yours to turn. If you find one false, say at which input.
  Laid BY PROGRAM, IN A SANDBOX (cutbox-rows.mjs): the forced cells as the released guide's own fill.sh prints them over the translation dd0c75910a409be8… (all of the seat's roots in one cut). By AI agents, Wed Nov 11 2026. No macro, syntax, notation, axiom, sorry.
-/
import Derived.Test.YtmbpehhbfbmacaaChecked
import GoSem.Claim
import GoSem.ClaimJoined
import GoSem.ClaimMapViews
import Derived.JoinedTies
import Derived.KernelRfl
namespace Go.Proofs.Ytmbpehhbfbmacaa
/- THE CELL 'sum', in the pinned program and in every row, IS THE sha256 OF THE DUMP (.gsa) THAT YtmbpehhbfbmacaaProg.lean LOADS. Nothing in Lean hashes anything: it is a label: what it is worth is what the hold of that sum in a sandbox is worth. -/
noncomputable def Try.pinned : Pinned := { name := "ytmbpehhbfbmacaa", sum := "dd0c75910a409be858eed09a4c244877a2573eebc35cad5c382adb552c57eb06", checked := Try.checked }
namespace Rows
def none {H : Type} : Left H := { results := [], args := [] }

/-- 'pochoirlaw19.LineLevels': WHATEVER THE INPUT: true; the input reads as it did. -/
def lineLevelsSpec : ChangeSpec := { name := "lineLevels", fn := fun _ => fun
  | [d1, d2, d3] => { results := [.lit (.bool true)], args := [d1, d2, d3] }
  | _ => none }
def lineLevelsRow : OpenClaim := { program := "ytmbpehhbfbmacaa", sum := "dd0c75910a409be858eed09a4c244877a2573eebc35cad5c382adb552c57eb06", func := "pochoir/pochoirlaw19.LineLevels", spec := "lineLevels", inPlace := ["math/bits.Add64"], unfollowed := true, recurses := true, apart := false }
def LineLevelsSaid : Prop := lineLevelsRow.holds Try.pinned (OpenSpec.ofChange lineLevelsSpec)

/-- ITS FALSE NEIGHBOUR: 'it returns false'. Refute it at one input. -/
def lineLevelsWrong : ChangeSpec := { name := "lineLevels", fn := fun _ => fun
  | [d1, d2, d3] => { results := [.lit (.bool false)], args := [d1, d2, d3] }
  | _ => none }
def LineLevelsWrongFalsely : Prop := lineLevelsRow.holds Try.pinned (OpenSpec.ofChange lineLevelsWrong)

/-- 'pochoirlaw19.LineOf': WHATEVER THE INPUT: true; the input reads as it did. -/
def lineOfSpec : ChangeSpec := { name := "lineOf", fn := fun _ => fun
  | [d1, d2, d3] => { results := [.lit (.bool true)], args := [d1, d2, d3] }
  | _ => none }
def lineOfRow : OpenClaim := { program := "ytmbpehhbfbmacaa", sum := "dd0c75910a409be858eed09a4c244877a2573eebc35cad5c382adb552c57eb06", func := "pochoir/pochoirlaw19.LineOf", spec := "lineOf", inPlace := ["math/bits.Add64"], unfollowed := true, recurses := true, apart := false }
def LineOfSaid : Prop := lineOfRow.holds Try.pinned (OpenSpec.ofChange lineOfSpec)

/-- ITS FALSE NEIGHBOUR: 'it returns false'. Refute it at one input. -/
def lineOfWrong : ChangeSpec := { name := "lineOf", fn := fun _ => fun
  | [d1, d2, d3] => { results := [.lit (.bool false)], args := [d1, d2, d3] }
  | _ => none }
def LineOfWrongFalsely : Prop := lineOfRow.holds Try.pinned (OpenSpec.ofChange lineOfWrong)

/-- 'pochoirlaw19.LineOrder': WHATEVER THE INPUT: true; the input reads as it did. -/
def lineOrderSpec : ChangeSpec := { name := "lineOrder", fn := fun _ => fun
  | [d1, d2, d3] => { results := [.lit (.bool true)], args := [d1, d2, d3] }
  | _ => none }
def lineOrderRow : OpenClaim := { program := "ytmbpehhbfbmacaa", sum := "dd0c75910a409be858eed09a4c244877a2573eebc35cad5c382adb552c57eb06", func := "pochoir/pochoirlaw19.LineOrder", spec := "lineOrder", inPlace := ["math/bits.Add64"], unfollowed := true, recurses := true, apart := false }
def LineOrderSaid : Prop := lineOrderRow.holds Try.pinned (OpenSpec.ofChange lineOrderSpec)

/-- ITS FALSE NEIGHBOUR: 'it returns false'. Refute it at one input. -/
def lineOrderWrong : ChangeSpec := { name := "lineOrder", fn := fun _ => fun
  | [d1, d2, d3] => { results := [.lit (.bool false)], args := [d1, d2, d3] }
  | _ => none }
def LineOrderWrongFalsely : Prop := lineOrderRow.holds Try.pinned (OpenSpec.ofChange lineOrderWrong)

/- THE SECOND FORM. 'bulk': how many values and letters a reading holds, each counted each time it is reached (what is shared counts as often as it is met; a slice's spare places count too). A statement '..UptoSaid' is the law's where the arguments, and the package variables that the reading takes, are together of bulk at most 1048576: NARROWER than '..Said'. Prove '..Said' where nothing that the law and all that it calls make is longer than what came in: it says more and counts as full. Else prove '..UptoSaid'. A law counts once. -/
mutual
def uptoBulk {H : Type} : DataW H → Nat
  | .lit (.string bytes) => bytes.length + 1
  | .lit _ => 1
  | .nil => 1
  | .ptr d => uptoBulk d + 1
  | .slice elems spare => uptoBulkAll elems + uptoBulkAll spare + 1
  | .agg parts => uptoBulkAll parts + 1
  | .iface _ d => uptoBulk d + 1
  | .map entries => uptoBulkEntries entries + 1
  | .held _ => 1
def uptoBulkAll {H : Type} : List (DataW H) → Nat
  | [] => 0
  | d :: r => uptoBulk d + uptoBulkAll r
def uptoBulkEntries {H : Type} : List (Lit × DataW H) → Nat
  | [] => 0
  | x :: r => uptoBulkEntry x + uptoBulkEntries r
def uptoBulkEntry {H : Type} : Lit × DataW H → Nat
  | (.string bytes, d) => bytes.length + uptoBulk d + 1
  | (_, d) => uptoBulk d + 1
 end
def uptoSmall : (H : Type) → List (DataW H) → Bool := fun _ ds => decide (uptoBulkAll ds ≤ 1048576)
def OpenSpec.upto (s : _root_.Go.ChangeSpec) : _root_.Go.OpenSpec := { _root_.Go.OpenSpec.ofChange s with cond := some uptoSmall }

/-- 'pochoirlaw19.LineLevels', WHERE WHAT IT READS IS OF BULK AT MOST 1048576: true; the input reads as it did. -/
def lineLevelsUptoRow : OpenClaim := { program := "ytmbpehhbfbmacaa", sum := "dd0c75910a409be858eed09a4c244877a2573eebc35cad5c382adb552c57eb06", func := "pochoir/pochoirlaw19.LineLevels", spec := "lineLevels", inPlace := ["math/bits.Add64"], unfollowed := true, recurses := true, apart := false, narrowed := true }
def LineLevelsUptoSaid : Prop := lineLevelsUptoRow.holds Try.pinned (OpenSpec.upto lineLevelsSpec)

/-- 'pochoirlaw19.LineOf', WHERE WHAT IT READS IS OF BULK AT MOST 1048576: true; the input reads as it did. -/
def lineOfUptoRow : OpenClaim := { program := "ytmbpehhbfbmacaa", sum := "dd0c75910a409be858eed09a4c244877a2573eebc35cad5c382adb552c57eb06", func := "pochoir/pochoirlaw19.LineOf", spec := "lineOf", inPlace := ["math/bits.Add64"], unfollowed := true, recurses := true, apart := false, narrowed := true }
def LineOfUptoSaid : Prop := lineOfUptoRow.holds Try.pinned (OpenSpec.upto lineOfSpec)

/-- 'pochoirlaw19.LineOrder', WHERE WHAT IT READS IS OF BULK AT MOST 1048576: true; the input reads as it did. -/
def lineOrderUptoRow : OpenClaim := { program := "ytmbpehhbfbmacaa", sum := "dd0c75910a409be858eed09a4c244877a2573eebc35cad5c382adb552c57eb06", func := "pochoir/pochoirlaw19.LineOrder", spec := "lineOrder", inPlace := ["math/bits.Add64"], unfollowed := true, recurses := true, apart := false, narrowed := true }
def LineOrderUptoSaid : Prop := lineOrderUptoRow.holds Try.pinned (OpenSpec.upto lineOrderSpec)

end Rows
end Go.Proofs.Ytmbpehhbfbmacaa
