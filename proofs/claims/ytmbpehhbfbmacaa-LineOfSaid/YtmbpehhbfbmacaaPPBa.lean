/- Proved here: points in boxes; what stays. No condition. -/
import Derived.Test.YtmbpehhbfbmacaaProg
import Derived.WalkKit
import Derived.WalkSpells
import Derived.WalkLawsBesides
import Derived.Deep.DeepFit
import Derived.Deep.QuietTactic
import Derived.BigQuiet
import Derived.Lib.Hide
import Derived.StillTailTactics
import Derived.Deep.RegionHeld3
import Derived.ChangeAlike
import Derived.RegionTactic
import Derived.IntWalk
import Derived.Laws.BitsAllLaws
import Derived.Laws.Bits64b
import Derived.Laws.IdiomStrings
import Derived.Deep.CutBlock
import Derived.Deep.CutRange
import Derived.Deep.DeepCutAuto
import Derived.LoadGo2
import Derived.Laws.AppendOwn
import Derived.Laws.Append
import Derived.Laws.OwnMore
import Derived.Lib.Builder
import Derived.Lib.AppendStr
import Derived.Deep.RegionLaw
import Derived.BigRegion
namespace Go.Proofs.Ytmbpehhbfbmacaa
open Go.RowKit

open Go.RowKit

theorem heap_lt {w : World} {g : Nat} {o : Obj} (h : w.heap[g]? = some o) : g < w.heap.size := by
  rcases Nat.lt_or_ge g w.heap.size with hl | hl
  · exact hl
  · rw [Array.getElem?_eq_none hl] at h; cases h
open Go.RowKit

open Go.RowKit

abbrev P2 := Int × Int
open Go.RowKit

def fiP (p : P2) : Prop := (-33554432 ≤ p.1 ∧ p.1 ≤ 33554432) ∧ (-33554432 ≤ p.2 ∧ p.2 ≤ 33554432)
instance (p : P2) : Decidable (fiP p) := inferInstanceAs (Decidable (_ ∧ _))
open Go.RowKit

open Go.RowKit

open Go.RowKit

open Go.RowKit

open Go.RowKit

/-- A point in a box. -/
def Pbx (W : World) (b : Nat) (p : P2) : Prop := W.heap[b]? = some (.cells #[.int .i64 p.1, .int .i64 p.2] 23 (0, 0))
section
variable {W W' : World} {b : Nat} {p : P2}
theorem Pbx.bel (h : Pbx W b p) (hb : Below W.heap.size W W') : Pbx W' b p := (hb.block b (heap_lt h)).trans h
theorem Pbx.cells (h : Pbx W b p) : W.cell? ⟨b, 0, none⟩ = some (.int .i64 p.1) ∧ W.cell? ⟨b, 1, none⟩ = some (.int .i64 p.2) ∧ W.frozen? ⟨b, 0, none⟩ = false ∧ W.frozen? ⟨b, 1, none⟩ = false :=
  ⟨cell_of_row W b 0 _ 23 (0, 0) h, cell_of_row W b 1 _ 23 (0, 0) h, by unfold Pbx at h; simp [World.frozen?, h], by unfold Pbx at h; simp [World.frozen?, h]⟩
theorem Pbx.new (W : World) (p : P2) : Pbx (W.alloc (.cells #[.int .i64 p.1, .int .i64 p.2] 23)) W.heap.size p := heap_alloc_new W _
end
open Go.RowKit

open Go.RowKit

end Go.Proofs.Ytmbpehhbfbmacaa
