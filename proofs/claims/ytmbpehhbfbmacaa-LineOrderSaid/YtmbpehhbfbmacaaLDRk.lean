/- Proved here: plain facts on blocks of digits. No condition. -/
import Derived.Test.YtmbpehhbfbmacaaLDRi
namespace Go.Proofs.Ytmbpehhbfbmacaa
open Go.RowKit

/-- The block g holds just the digits xs. -/
def DB (w : World) (g : Nat) (xs : List Nat) : Prop := w.heap[g]? = some (.cells (dc xs).toArray 35 (0, 0))
section
variable {w w' : World} {g : Nat} {xs : List Nat}
theorem DB.lt (h : DB w g xs) : g < w.heap.size := by
  rcases Nat.lt_or_ge g w.heap.size with hl | hl
  · exact hl
  · unfold DB at h; rw [Array.getElem?_eq_none hl] at h; cases h
theorem DB.cell (h : DB w g xs) (i : Nat) (hi : i < xs.length) : w.cell? ⟨g, i, none⟩ = some (.int .u64 (dat xs i : Int)) := by
  rw [cell_of_row w g i _ 35 (0, 0) h, ← dc_get xs i hi]
  simp
theorem DB.fr (h : DB w g xs) (j : Nat) : w.frozen? ⟨g, j, none⟩ = false := by
  unfold DB at h
  simp [World.frozen?, h]
theorem DB.below {B : Nat} (h : DB w g xs) (hb : Below B w w') (hg : g < B) : DB w' g xs := (hb.block g hg).trans h
theorem DB.set_ (h : DB w g xs) (i d : Nat) : DB (w.setCell ⟨g, i, none⟩ (.int .u64 (d : Int))) g (xs.set i d) := by
  unfold DB at h ⊢
  simp [World.setCell, Array.getElem?_modify, h, dc, List.map_set]
theorem DB.row (h : DB w g xs) (hl : xs.length ≤ 1000) : Row w (.slice (some ⟨g, 0, none⟩) xs.length xs.length) xs :=
  ⟨by rw [dc_len, Nat.mul_one], .inr ⟨g, xs.length, (dc xs).toArray, rfl, Nat.zero_le _, h, Nat.le_refl _, by unfold maxLen; omega, by simp [dc_len], by simp [← dc_len xs]⟩⟩
theorem DB.new (w : World) (xs : List Nat) : DB (w.alloc (.cells (dc xs).toArray 35)) w.heap.size xs := heap_alloc_new w _
end
end Go.Proofs.Ytmbpehhbfbmacaa
