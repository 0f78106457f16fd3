/- Proved here: what a font says of itself, over plain lists of bytes; how it lies in memory; and what find answers. Condition: a list of tables that lies in memory, of bytes of at most a million each. -/
import Derived.Test.YtibbgmahdiphpaaHa
namespace Go.Proofs.Ytibbgmahdiphpaa
open Go.RowKit

/-- What a font says of itself. -/
structure Hd where
  em : Int
  lg : Bool
  gl : Int
  me : Int
  a1 : Int
  a2 : Int
  a3 : Int
def Hd.zero : Hd := ⟨0, false, 0, 0, 0, 0, 0⟩
def Hd.cs (h : Hd) : Array Value := #[.int .i64 h.em, .bool h.lg, .int .i64 h.gl, .int .i64 h.me, .int .i64 h.a1, .int .i64 h.a2, .int .i64 h.a3]
def Hd.val (h : Hd) : Value := .agg h.cs
/-- It, in a box. -/
def HB (w : World) (g : Nat) (h : Hd) : Prop := w.heap[g]? = some (.cells h.cs 23 (0, 0))
section
variable {w w' : World} {g : Nat} {h : Hd}
theorem HB.lt (b : HB w g h) : g < w.heap.size := heap_lt b
theorem HB.cells (b : HB w g h) : w.cell? ⟨g, 0, none⟩ = some (.int .i64 h.em) ∧ w.cell? ⟨g, 1, none⟩ = some (.bool h.lg) ∧ w.cell? ⟨g, 2, none⟩ = some (.int .i64 h.gl) ∧ w.cell? ⟨g, 3, none⟩ = some (.int .i64 h.me) ∧ w.cell? ⟨g, 4, none⟩ = some (.int .i64 h.a1) ∧ w.cell? ⟨g, 5, none⟩ = some (.int .i64 h.a2) ∧ w.cell? ⟨g, 6, none⟩ = some (.int .i64 h.a3) :=
  ⟨cell_of_row w g 0 _ 23 (0, 0) b, cell_of_row w g 1 _ 23 (0, 0) b, cell_of_row w g 2 _ 23 (0, 0) b, cell_of_row w g 3 _ 23 (0, 0) b, cell_of_row w g 4 _ 23 (0, 0) b, cell_of_row w g 5 _ 23 (0, 0) b, cell_of_row w g 6 _ 23 (0, 0) b⟩
theorem HB.fr (b : HB w g h) (j : Nat) : w.frozen? ⟨g, j, none⟩ = false := by
  unfold HB at b
  simp [World.frozen?, b]
theorem HB.frs (b : HB w g h) : w.frozen? ⟨g, 0, none⟩ = false ∧ w.frozen? ⟨g, 1, none⟩ = false ∧ w.frozen? ⟨g, 2, none⟩ = false ∧ w.frozen? ⟨g, 3, none⟩ = false ∧ w.frozen? ⟨g, 4, none⟩ = false ∧ w.frozen? ⟨g, 5, none⟩ = false ∧ w.frozen? ⟨g, 6, none⟩ = false :=
  ⟨b.fr 0, b.fr 1, b.fr 2, b.fr 3, b.fr 4, b.fr 5, b.fr 6⟩
theorem HB.of (b : HB w g h) (hb : w'.heap[g]? = w.heap[g]?) : HB w' g h := hb.trans b
theorem HB.bel (b : HB w g h) (hb : Below w.heap.size w w') : HB w' g h := b.of (hb.block g b.lt)
theorem HB.onl {k : Nat} (b : HB w g h) (hb : Onl k w w') (hk : g ≠ k) : HB w' g h := b.of (hb.block g b.lt hk)
theorem HB.drewN (b : HB w g h) (n : Nat) : HB (w.drewN n) g h := b
theorem HB.far (b : HB w g h) {k j : Nat} {u : Value} (hk : g ≠ k) : HB (w.setCell ⟨k, j, none⟩ u) g h := b.of (Below.heap_setCell w ⟨k, j, none⟩ u g hk)
theorem HB.set0 (b : HB w g h) (x : Int) : HB (w.setCell ⟨g, 0, none⟩ (.int .i64 x)) g { h with em := x } := by
  unfold HB Hd.cs at b ⊢; simp [World.setCell, Array.getElem?_modify, b]
theorem HB.set1 (b : HB w g h) (x : Bool) : HB (w.setCell ⟨g, 1, none⟩ (.bool x)) g { h with lg := x } := by
  unfold HB Hd.cs at b ⊢; simp [World.setCell, Array.getElem?_modify, b]
theorem HB.set2 (b : HB w g h) (x : Int) : HB (w.setCell ⟨g, 2, none⟩ (.int .i64 x)) g { h with gl := x } := by
  unfold HB Hd.cs at b ⊢; simp [World.setCell, Array.getElem?_modify, b]
theorem HB.set3 (b : HB w g h) (x : Int) : HB (w.setCell ⟨g, 3, none⟩ (.int .i64 x)) g { h with me := x } := by
  unfold HB Hd.cs at b ⊢; simp [World.setCell, Array.getElem?_modify, b]
theorem HB.set4 (b : HB w g h) (x : Int) : HB (w.setCell ⟨g, 4, none⟩ (.int .i64 x)) g { h with a1 := x } := by
  unfold HB Hd.cs at b ⊢; simp [World.setCell, Array.getElem?_modify, b]
theorem HB.set5 (b : HB w g h) (x : Int) : HB (w.setCell ⟨g, 5, none⟩ (.int .i64 x)) g { h with a2 := x } := by
  unfold HB Hd.cs at b ⊢; simp [World.setCell, Array.getElem?_modify, b]
theorem HB.set6 (b : HB w g h) (x : Int) : HB (w.setCell ⟨g, 6, none⟩ (.int .i64 x)) g { h with a3 := x } := by
  unfold HB Hd.cs at b ⊢; simp [World.setCell, Array.getElem?_modify, b]
/-- All of it, written. -/
theorem HB.put (b : HB w g h) (k : Hd) : HB (((((((w.setCell ⟨g, 0, none⟩ (.int .i64 k.em)).setCell ⟨g, 1, none⟩ (.bool k.lg)).setCell ⟨g, 2, none⟩ (.int .i64 k.gl)).setCell ⟨g, 3, none⟩ (.int .i64 k.me)).setCell ⟨g, 4, none⟩ (.int .i64 k.a1)).setCell ⟨g, 5, none⟩ (.int .i64 k.a2)).setCell ⟨g, 6, none⟩ (.int .i64 k.a3)) g k :=
  ((((((b.set0 k.em).set1 k.lg).set2 k.gl).set3 k.me).set4 k.a1).set5 k.a2).set6 k.a3
end
theorem HB.new (w : World) : HB (w.alloc (.cells #[.int .i64 0, .bool false, .int .i64 0, .int .i64 0, .int .i64 0, .int .i64 0, .int .i64 0] 23)) w.heap.size Hd.zero := heap_alloc_new w _
end Go.Proofs.Ytibbgmahdiphpaa
