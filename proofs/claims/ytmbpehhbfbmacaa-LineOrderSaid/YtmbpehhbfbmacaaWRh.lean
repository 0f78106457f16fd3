/- Proved here: what the reference package's Digits, Value and fit answer and leave in memory. Condition: digits below 65536, as lists that lie in memory. -/
import Derived.Test.YtmbpehhbfbmacaaLLo
import Derived.Test.YtmbpehhbfbmacaaPPPe
import Derived.StillTailTactics
import Derived.WalkKit
import Derived.WalkSpells
import Derived.WalkLawsBesides
import Derived.Deep.DeepFit
import Derived.Deep.QuietTactic
import Derived.BigQuiet
import Derived.Lib.Hide
namespace Go.Proofs.Ytmbpehhbfbmacaa
open Go.RowKit

/-- A number of 128 bits as it lies in a block of its own. -/
def Box (w : World) (g : Nat) (a b : Nat) : Prop := w.heap[g]? = some (.cells #[.int .u64 (a : Int), .int .u64 (b : Int)] 37 (0, 0))
section
variable {w w' : World} {g a b : Nat}
theorem Box.lt (h : Box w g a b) : g < w.heap.size := by
  rcases Nat.lt_or_ge g w.heap.size with hl | hl
  · exact hl
  · unfold Box at h; rw [Array.getElem?_eq_none hl] at h; cases h
theorem Box.c0 (h : Box w g a b) : w.cell? ⟨g, 0, none⟩ = some (.int .u64 (a : Int)) := cell_of_row w g 0 _ 37 (0, 0) h
theorem Box.c1 (h : Box w g a b) : w.cell? ⟨g, 1, none⟩ = some (.int .u64 (b : Int)) := cell_of_row w g 1 _ 37 (0, 0) h
theorem Box.below {B : Nat} (h : Box w g a b) (hb : Below B w w') (hg : g < B) : Box w' g a b := (hb.block g hg).trans h
theorem Box.new (w : World) (a b : Nat) : Box (w.alloc (.cells #[.int .u64 (a : Int), .int .u64 (b : Int)] 37)) w.heap.size a b := heap_alloc_new w _
end
/-- The two halves of a number of 128 bits. -/
def hiW (n : Nat) : Nat := n / 18446744073709551616
def loW (n : Nat) : Nat := n % 18446744073709551616
end Go.Proofs.Ytmbpehhbfbmacaa
