/- Proved here: points in boxes; what stays. No condition. -/
import Derived.Test.YtmbpehhbfbmacaaPPPe
import Derived.Test.YtmbpehhbfbmacaaPPBs
import Derived.WalkKit
import Derived.WalkSpells
import Derived.WalkLawsBesides
import Derived.Deep.DeepFit
import Derived.Deep.QuietTactic
import Derived.BigQuiet
import Derived.Lib.Hide
import Derived.StillTailTactics
import Derived.Deep.RegionHeld3
import Derived.ChangeAlike
import Derived.RegionTactic
import Derived.IntWalk
import Derived.Laws.BitsAllLaws
import Derived.Laws.Bits64b
import Derived.Laws.IdiomStrings
import Derived.Deep.CutBlock
import Derived.Deep.CutRange
import Derived.Deep.DeepCutAuto
import Derived.LoadGo2
import Derived.Laws.AppendOwn
import Derived.Laws.Append
import Derived.Laws.OwnMore
import Derived.Lib.Builder
import Derived.Lib.AppendStr
import Derived.Deep.RegionLaw
import Derived.BigRegion
namespace Go.Proofs.Ytmbpehhbfbmacaa
open Go.RowKit

/-- Nothing but one block has turned. -/
structure Onl (g : Nat) (w w' : World) : Prop where
  os : w'.os = w.os
  tape : w'.tape = w.tape
  output : w'.output = w.output
  size : w.heap.size ≤ w'.heap.size
  block : ∀ k, k < w.heap.size → k ≠ g → w'.heap[k]? = w.heap[k]?
theorem Onl.trans {g : Nat} {a b c : World} (h : Onl g a b) (k : Onl g b c) : Onl g a c :=
  ⟨k.os.trans h.os, k.tape.trans h.tape, k.output.trans h.output, Nat.le_trans h.size k.size, fun i hi h2 => (k.block i (Nat.lt_of_lt_of_le hi h.size) h2).trans (h.block i hi h2)⟩
theorem Onl.set (g : Nat) (w : World) (j : Nat) (u : Value) : Onl g w (w.setCell ⟨g, j, none⟩ u) := ⟨rfl, rfl, rfl, by simp [World.setCell], fun _ _ h => Below.heap_setCell w _ u _ h⟩
open Go.RowKit

open Go.RowKit

open Go.RowKit

/-- An edge: its contour's place, is it a curve, A, B, C. -/
abbrev Edg := Int × Bool × P2 × P2 × P2
/-- Are all points of an edge the same? -/
def smE (e : Edg) : Prop := e.2.2.1 = e.2.2.2.2 ∧ (e.2.1 = false ∨ e.2.2.1 = e.2.2.2.1)
instance (e : Edg) : Decidable (smE e) := inferInstanceAs (Decidable (_ ∧ _))
open Go.RowKit

/-- May an edge be? -/
def oneE (e : Edg) : Prop := fiP e.2.2.1 ∧ fiP e.2.2.2.1 ∧ fiP e.2.2.2.2 ∧ ¬ smE e ∧ (e.2.1 = true ∨ e.2.2.2.1 = (0, 0))
instance (e : Edg) : Decidable (oneE e) := inferInstanceAs (Decidable (_ ∧ _))
open Go.RowKit

def e0 : Edg := (0, false, (0, 0), (0, 0), (0, 0))
open Go.RowKit

open Go.RowKit

open Go.RowKit

open Go.RowKit

section
variable {W W' : World} {b : Nat} {p : P2}
theorem Pbx.set (h : Pbx W b p) (q : P2) : Pbx ((W.setCell ⟨b, 0, none⟩ (.int .i64 q.1)).setCell ⟨b, 1, none⟩ (.int .i64 q.2)) b q := by
  unfold Pbx at h ⊢
  simp [World.setCell, Array.getElem?_modify, h]
end
open Go.RowKit

theorem bel_onl {w W W' : World} {b : Nat} (h : Below w.heap.size w W) (ho : Onl b W W') (hb : w.heap.size ≤ b) : Below w.heap.size w W' :=
  ⟨ho.os.trans h.os, ho.tape.trans h.tape, ho.output.trans h.output, Nat.le_trans h.size ho.size, fun q hq => (ho.block q (Nat.lt_of_lt_of_le hq h.size) (by omega)).trans (h.block q hq)⟩
open Go.RowKit

end Go.Proofs.Ytmbpehhbfbmacaa
