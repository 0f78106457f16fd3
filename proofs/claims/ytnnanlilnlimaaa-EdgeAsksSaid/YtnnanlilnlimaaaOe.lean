/- Proved here: what a reader is in memory, and what New, Err, At and Left answer. Condition: the reader lies in a block of its own. -/
import Derived.Test.YtnnanlilnlimaaaOd
namespace Go.Proofs.Ytnnanlilnlimaaa
open Go.RowKit

/-- A reader in a block of its own: its text, its place, whether it has failed. -/
def Rd (T : TypeId) (w : World) (g : Nat) (s : ByteArray) (a : Nat) (f : Bool) : Prop := w.heap[g]? = some (.cells #[.string s, .int .i64 (a : Int), .bool f] T (0, 0))
/-- Nothing but one block has turned. -/
structure Onl (g : Nat) (w w' : World) : Prop where
  os : w'.os = w.os
  tape : w'.tape = w.tape
  output : w'.output = w.output
  size : w.heap.size ≤ w'.heap.size
  block : ∀ k, k < w.heap.size → k ≠ g → w'.heap[k]? = w.heap[k]?
theorem Onl.below {g B : Nat} {w w' : World} (h : Onl g w w') (h1 : B ≤ g) (h2 : B ≤ w.heap.size) : Below B w w' := ⟨h.os, h.tape, h.output, h.size, fun k hk => h.block k (by omega) (by omega)⟩
theorem Onl.of {g : Nat} {w w' : World} (h : Below w.heap.size w w') : Onl g w w' := ⟨h.os, h.tape, h.output, h.size, fun k hk _ => h.block k hk⟩
theorem Onl.refl (g : Nat) (w : World) : Onl g w w := Onl.of (Below.refl _ _)
theorem Onl.trans {g : Nat} {a b c : World} (h : Onl g a b) (k : Onl g b c) : Onl g a c :=
  ⟨k.os.trans h.os, k.tape.trans h.tape, k.output.trans h.output, Nat.le_trans h.size k.size, fun i hi h2 => (k.block i (Nat.lt_of_lt_of_le hi h.size) h2).trans (h.block i hi h2)⟩
theorem Onl.set (g : Nat) (w : World) (j : Nat) (u : Value) : Onl g w (w.setCell ⟨g, j, none⟩ u) := ⟨rfl, rfl, rfl, by simp [World.setCell], fun _ _ h => Below.heap_setCell w _ u _ h⟩
section
variable {T : TypeId} {w w' : World} {g : Nat} {s : ByteArray} {a : Nat} {f : Bool}
theorem Rd.lt (h : Rd T w g s a f) : g < w.heap.size := by
  rcases Nat.lt_or_ge g w.heap.size with hl | hl
  · exact hl
  · unfold Rd at h; rw [Array.getElem?_eq_none hl] at h; cases h
theorem Rd.c0 (h : Rd T w g s a f) : w.cell? ⟨g, 0, none⟩ = some (.string s) := cell_of_row w g 0 _ T (0, 0) h
theorem Rd.c1 (h : Rd T w g s a f) : w.cell? ⟨g, 1, none⟩ = some (.int .i64 (a : Int)) := cell_of_row w g 1 _ T (0, 0) h
theorem Rd.c2 (h : Rd T w g s a f) : w.cell? ⟨g, 2, none⟩ = some (.bool f) := cell_of_row w g 2 _ T (0, 0) h
theorem Rd.fr (h : Rd T w g s a f) (j : Nat) : w.frozen? ⟨g, j, none⟩ = false := by
  unfold Rd at h
  simp [World.frozen?, h]
theorem Rd.below {B : Nat} (h : Rd T w g s a f) (hb : Below B w w') (hg : g < B) : Rd T w' g s a f := (hb.block g hg).trans h
theorem Rd.bel (h : Rd T w g s a f) (hb : Below w.heap.size w w') : Rd T w' g s a f := h.below hb h.lt
theorem Rd.onl {k : Nat} (h : Rd T w g s a f) (hb : Onl k w w') (hk : g ≠ k) : Rd T w' g s a f := (hb.block g h.lt hk).trans h
theorem Rd.new (T : TypeId) (w : World) (s : ByteArray) : Rd T (w.alloc (.cells #[.string s, .int .i64 0, .bool false] T)) w.heap.size s 0 false := heap_alloc_new w _
theorem Rd.drew (h : Rd T w g s a f) : Rd T w.drew g s a f := h
theorem Rd.set1 (h : Rd T w g s a f) (b : Nat) : Rd T (w.setCell ⟨g, 1, none⟩ (.int .i64 (b : Int))) g s b f := by
  unfold Rd at h ⊢
  simp [World.setCell, Array.getElem?_modify, h]
theorem Rd.set2 (h : Rd T w g s a f) (b : Bool) : Rd T (w.setCell ⟨g, 2, none⟩ (.bool b)) g s a b := by
  unfold Rd at h ⊢
  simp [World.setCell, Array.getElem?_modify, h]
theorem Rd.facts (h : Rd T w g s a f) : w.cell? ⟨g, 0, none⟩ = some (.string s) ∧ w.cell? ⟨g, 1, none⟩ = some (.int .i64 (a : Int)) ∧ w.cell? ⟨g, 2, none⟩ = some (.bool f) ∧ w.frozen? ⟨g, 1, none⟩ = false ∧ w.frozen? ⟨g, 2, none⟩ = false :=
  ⟨h.c0, h.c1, h.c2, h.fr 1, h.fr 2⟩
end
end Go.Proofs.Ytnnanlilnlimaaa
