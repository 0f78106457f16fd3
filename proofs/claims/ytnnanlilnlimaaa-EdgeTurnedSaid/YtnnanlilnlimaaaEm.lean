/- Proved here: in which box edges are (the document's Points and Box). Condition: edges that lie in memory. -/
import Derived.Test.YtnnanlilnlimaaaEl
namespace Go.Proofs.Ytnnanlilnlimaaa
open Go.RowKit

theorem size_a (w : World) (o : Obj) : (w.alloc o).heap.size = w.heap.size + 1 := by simp
def ptsE (e : Edg) : List P2 := if e.2.1 = true then [e.2.2.1, e.2.2.2.1, e.2.2.2.2] else [e.2.2.1, e.2.2.2.2]
def loP (a p : P2) : P2 := (min a.1 p.1, min a.2 p.2)
def hiP (a p : P2) : P2 := (max a.1 p.1, max a.2 p.2)
def boxR (L : List Edg) (lo hi : P2) : P2 × P2 := ((L.flatMap ptsE).foldl loP lo, (L.flatMap ptsE).foldl hiP hi)
/-- What Box answers. -/
def boxP (L : List Edg) : P2 × P2 × Bool := match L with
  | [] => ((0, 0), (0, 0), false)
  | e :: r => ((boxR (e :: r) e.2.2.1 e.2.2.1).1, (boxR (e :: r) e.2.2.1 e.2.2.1).2, true)
def p2C (l : List P2) : List Value := l.flatMap fun p => [.int .i64 p.1, .int .i64 p.2]
set_option maxHeartbeats 4000000 in
set_option maxRecDepth 100000 in
theorem points_any (k : Int) (q : Bool) (ax ay bx by_ cx cy : Int) (w : World) : Calls Try.prog 23 #[.agg #[.int .i64 k, .bool q, .int .i64 ax, .int .i64 ay, .int .i64 bx, .int .i64 by_, .int .i64 cx, .int .i64 cy]] w fun e w' =>
    ∃ b, e = .returned (.slice (some ⟨b, 0, none⟩) (ptsE (k, q, (ax, ay), (bx, by_), (cx, cy))).length (ptsE (k, q, (ax, ay), (bx, by_), (cx, cy))).length) ∧ w'.heap[b]? = some (.cells (p2C (ptsE (k, q, (ax, ay), (bx, by_), (cx, cy)))).toArray 35 (0, 0)) ∧ w.heap.size ≤ b ∧ Below w.heap.size w w' := by
  have hA : Below w.heap.size w (w.alloc (.cells #[.int .i64 k, .bool q, .int .i64 ax, .int .i64 ay, .int .i64 bx, .int .i64 by_, .int .i64 cx, .int .i64 cy] 43)) := (Below.refl _ _).alloc (Nat.le_refl _) _
  have HA := Lib.hid hA
  obtain ⟨c0, c1, c2, c3, c4, c5, c6, c7⟩ := (Ebx.new w (k, q, (ax, ay), (bx, by_), (cx, cy))).cells
  dsimp only at c0 c1 c2 c3 c4 c5 c6 c7
  clear hA
  cases q with
  | true =>
    go_enter Try.func23, Try.ntmps23
    go_wp2_with fail
    go_ret
    refine ⟨_, rfl, by have h := heap_alloc_new (w.alloc (.cells #[.int .i64 k, .bool true, .int .i64 ax, .int .i64 ay, .int .i64 bx, .int .i64 by_, .int .i64 cx, .int .i64 cy] 43)) (.cells #[.int .i64 ax, .int .i64 ay, .int .i64 bx, .int .i64 by_, .int .i64 cx, .int .i64 cy] 35); simp only [size_a] at h; exact h, by simp, HA.out.alloc HA.out.size _⟩
  | false =>
    go_enter Try.func23, Try.ntmps23
    go_wp2_with fail
    go_ret
    refine ⟨_, rfl, by have h := heap_alloc_new (w.alloc (.cells #[.int .i64 k, .bool false, .int .i64 ax, .int .i64 ay, .int .i64 bx, .int .i64 by_, .int .i64 cx, .int .i64 cy] 43)) (.cells #[.int .i64 ax, .int .i64 ay, .int .i64 cx, .int .i64 cy] 35); simp only [size_a] at h; exact h, by simp, HA.out.alloc HA.out.size _⟩
end Go.Proofs.Ytnnanlilnlimaaa
