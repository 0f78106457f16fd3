/- Proved here: what the law PlaneMoved answers, over memory. Condition: numbers of 32 bits. -/
import Derived.Test.YtmbpehhbfbmacaaLPAp
namespace Go.Proofs.Ytmbpehhbfbmacaa
open Go.RowKit

def i6 (l : List Int) : List Value := l.map fun x => .int .i64 x
section
variable {w W W' : World} {b5 b6 b7 : Nat} {L : List Int} {mx my : Int} {p q t : List Int}
theorem row_keep (hb : Below W.heap.size W W') {g : Nat} {o : Obj} (h : W.heap[g]? = some o) : W'.heap[g]? = some o := (hb.block g (heap_lt h)).trans h
theorem row_onl {g b : Nat} {o : Obj} (ho : Onl g W W') (h : W.heap[b]? = some o) (hn : b ≠ g) : W'.heap[b]? = some o := (ho.block b (heap_lt h) hn).trans h
theorem onl2 (b j : Nat) (W : World) (u v : Value) : Onl b W ((W.setCell ⟨b, j, none⟩ u).setCell ⟨b, j + 1, none⟩ v) := (Onl.set b _ _ _).trans (Onl.set b _ _ _)
theorem row_set {g : Nat} {l : List Int} (h : W.heap[g]? = some (.cells (i6 l).toArray 24 (0, 0))) (j : Nat) (x y : Int) :
    ((W.setCell ⟨g, j, none⟩ (.int .i64 x)).setCell ⟨g, j + 1, none⟩ (.int .i64 y)).heap[g]? = some (.cells (i6 ((l.set j x).set (j + 1) y)).toArray 24 (0, 0)) := by
  simp [World.setCell, Array.getElem?_modify, h, i6, List.map_set]
theorem row_at {g : Nat} {l : List Int} (h : W.heap[g]? = some (.cells (i6 l).toArray 24 (0, 0))) {j : Nat} {x : Int} (hx : l[j]? = some x) : W.cell? ⟨g, j, none⟩ = some (.int .i64 x) ∧ W.frozen? ⟨g, j, none⟩ = false := by
  refine ⟨?_, by simp [World.frozen?, h]⟩
  rw [cell_of_row W g j _ 24 (0, 0) h]
  simp [i6, hx]
end
/-- A number's rest by 2^20. -/
def rm (x : Int) : Int := x.tmod 1048576
theorem rm_in {x : Int} : -1048576 < rm x ∧ rm x < 1048576 := by
  unfold rm
  rcases Int.le_total 0 x with h | h
  · rw [Int.tmod_eq_emod_of_nonneg h]; omega
  · have e : x = -(-x) := by omega
    rw [e, Int.neg_tmod, Int.tmod_eq_emod_of_nonneg (by omega)]; omega
def pl (x0 y0 x1 y1 x2 y2 : Int) : Nat → List Int
  | 0 => [0, 0, 0, 0, 0, 0]
  | 1 => [rm x0, rm y0, 0, 0, 0, 0]
  | 2 => [rm x0, rm y0, rm x1, rm y1, 0, 0]
  | _ => [rm x0, rm y0, rm x1, rm y1, rm x2, rm y2]
def ql (x0 y0 x1 y1 x2 y2 mx my : Int) : Nat → List Int
  | 0 => [0, 0, 0, 0, 0, 0]
  | 1 => [rm x0 + rm mx, rm y0 + rm my, 0, 0, 0, 0]
  | 2 => [rm x0 + rm mx, rm y0 + rm my, rm x1 + rm mx, rm y1 + rm my, 0, 0]
  | _ => [rm x0 + rm mx, rm y0 + rm my, rm x1 + rm mx, rm y1 + rm my, rm x2 + rm mx, rm y2 + rm my]
end Go.Proofs.Ytmbpehhbfbmacaa
