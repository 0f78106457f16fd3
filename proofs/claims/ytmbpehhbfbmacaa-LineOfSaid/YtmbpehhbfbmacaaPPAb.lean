/- Proved here: which points may be; crosses, dots and signs (the document's May, all, Asked, Cross, Dot, Sign). Condition: points that lie in memory; points that may be. -/
import Derived.Test.YtmbpehhbfbmacaaPPAa
namespace Go.Proofs.Ytmbpehhbfbmacaa
open Go.RowKit

theorem mul_in {x y : Int} (h1 : -67108864 ≤ x) (h2 : x ≤ 67108864) (h3 : -67108864 ≤ y) (h4 : y ≤ 67108864) : -4503599627370496 ≤ x * y ∧ x * y ≤ 4503599627370496 := by
  have h : (x * y).natAbs ≤ 67108864 * 67108864 := by
    rw [Int.natAbs_mul]
    exact Nat.mul_le_mul (by omega) (by omega)
  omega
/-- Three points in boxes, one after the other. -/
theorem box3 (w : World) (ax ay bx by_ cx cy : Int) : Pbx (((w.alloc (.cells #[.int .i64 ax, .int .i64 ay] 23)).alloc (.cells #[.int .i64 bx, .int .i64 by_] 23)).alloc (.cells #[.int .i64 cx, .int .i64 cy] 23)) w.heap.size (ax, ay) ∧ Pbx (((w.alloc (.cells #[.int .i64 ax, .int .i64 ay] 23)).alloc (.cells #[.int .i64 bx, .int .i64 by_] 23)).alloc (.cells #[.int .i64 cx, .int .i64 cy] 23)) (w.heap.size + 1) (bx, by_) ∧ Pbx (((w.alloc (.cells #[.int .i64 ax, .int .i64 ay] 23)).alloc (.cells #[.int .i64 bx, .int .i64 by_] 23)).alloc (.cells #[.int .i64 cx, .int .i64 cy] 23)) (w.heap.size + 1 + 1) (cx, cy) ∧ Below w.heap.size w (((w.alloc (.cells #[.int .i64 ax, .int .i64 ay] 23)).alloc (.cells #[.int .i64 bx, .int .i64 by_] 23)).alloc (.cells #[.int .i64 cx, .int .i64 cy] 23)) := by
  obtain ⟨w1, e1⟩ : ∃ W, W = w.alloc (.cells #[.int .i64 ax, .int .i64 ay] 23) := ⟨_, rfl⟩
  obtain ⟨w2, e2⟩ : ∃ W, W = w1.alloc (.cells #[.int .i64 bx, .int .i64 by_] 23) := ⟨_, rfl⟩
  have s1 : w1.heap.size = w.heap.size + 1 := by rw [e1]; simp
  have s2 : w2.heap.size = w.heap.size + 1 + 1 := by rw [e2]; simp [s1]
  have g0 : Pbx w1 w.heap.size (ax, ay) := by rw [e1]; exact Pbx.new w (ax, ay)
  have g1 : Pbx w2 (w.heap.size + 1) (bx, by_) := by rw [e2, ← s1]; exact Pbx.new w1 (bx, by_)
  have b1 : Below w.heap.size w w1 := by rw [e1]; exact (Below.refl _ _).alloc (Nat.le_refl _) _
  have b2 : Below w1.heap.size w1 w2 := by rw [e2]; exact (Below.refl _ _).alloc (Nat.le_refl _) _
  have b3 : Below w2.heap.size w2 (w2.alloc (.cells #[.int .i64 cx, .int .i64 cy] 23)) := (Below.refl _ _).alloc (Nat.le_refl _) _
  rw [← e1, ← e2]
  refine ⟨(g0.bel b2).bel b3, g1.bel b3, ?_, (b1.trans (b2.mono (by omega))).trans (b3.mono (by omega))⟩
  rw [← s2]
  exact Pbx.new w2 (cx, cy)
def p2C (l : List P2) : List Value := l.flatMap fun p => [.int .i64 p.1, .int .i64 p.2]
def pp (l : List P2) (i : Nat) : P2 := l.getD i (0, 0)
theorem p2C_get : ∀ (l : List P2) (i : Nat), i < l.length → (p2C l)[i * 2]? = some (.int .i64 (pp l i).1) ∧ (p2C l)[i * 2 + 1]? = some (.int .i64 (pp l i).2)
  | t :: L, 0, _ => ⟨rfl, rfl⟩
  | t :: L, i + 1, h => by
    have ih := p2C_get L i (by simp at h; omega)
    have e : p2C (t :: L) = .int .i64 t.1 :: .int .i64 t.2 :: p2C L := rfl
    rw [e, show (i + 1) * 2 = i * 2 + 2 by omega]
    exact ih
/-- A row of points in a block of its own. -/
def Prow (W : World) (g : Nat) (l : List P2) : Prop := W.heap[g]? = some (.cells (p2C l).toArray 23 (0, 0))
theorem Prow.at_ {W : World} {g : Nat} {l : List P2} (h : Prow W g l) {i : Nat} (hi : i < l.length) : W.cell? ⟨g, i * 2, none⟩ = some (.int .i64 (pp l i).1) ∧ W.cell? ⟨g, i * 2 + 1, none⟩ = some (.int .i64 (pp l i).2) := by
  obtain ⟨h1, h2⟩ := p2C_get l i hi
  exact ⟨by rw [cell_of_row W g _ _ 23 (0, 0) h]; simpa using h1, by rw [cell_of_row W g _ _ 23 (0, 0) h]; simpa using h2⟩
theorem Prow.bel {W W' : World} {g : Nat} {l : List P2} (h : Prow W g l) (hb : Below W.heap.size W W') : Prow W' g l := (hb.block g (heap_lt h)).trans h
theorem all_succ {P : Nat → Prop} {k : Nat} (h : ∀ i, i < k → P i) (h1 : P k) : ∀ i, i < k + 1 → P i := by
  intro i hi
  rcases Nat.lt_or_ge i k with h2 | h2
  · exact h i h2
  · obtain rfl : i = k := by omega
    exact h1
/-- May all of them be? -/
def AllP (l : List P2) : Prop := ∀ i, i < l.length → fiP (pp l i)
instance (l : List P2) : Decidable (AllP l) := inferInstanceAs (Decidable (∀ i, i < l.length → _))
end Go.Proofs.Ytmbpehhbfbmacaa
