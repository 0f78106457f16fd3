/- Proved here: what the law PlaneMoved answers, over memory. Condition: numbers of 32 bits. -/
import Derived.Test.YtiififjbljiggaaPAf
namespace Go.Proofs.Ytiififjbljiggaa
open Go.RowKit

def i6 (l : List Int) : List Value := l.map fun x => .int .i64 x
/-- The boxes: of the points, the move, and three rows of three points. -/
structure MvS (w W : World) (b5 b6 b7 : Nat) (L : List Int) (mx my : Int) (p q t : List Int) : Prop where
  bel : Below w.heap.size w W
  h2 : W.heap[w.heap.size]? = some (.cells (L.map fun x => .int .i32 x).toArray 44 (0, 0))
  h3 : W.heap[w.heap.size + 1]? = some (.cells #[.int .i32 mx, .int .i32 my] 43 (0, 0))
  h5 : W.heap[b5]? = some (.cells (i6 p).toArray 45 (0, 0))
  h6 : W.heap[b6]? = some (.cells (i6 q).toArray 45 (0, 0))
  h7 : W.heap[b7]? = some (.cells (i6 t).toArray 45 (0, 0))
  g5 : w.heap.size + 1 < b5
  g6 : b6 = b5 + 1
  g7 : b7 = b5 + 1 + 1
section
variable {w W W' : World} {b5 b6 b7 : Nat} {L : List Int} {mx my : Int} {p q t : List Int}
theorem row_keep (hb : Below W.heap.size W W') {g : Nat} {o : Obj} (h : W.heap[g]? = some o) : W'.heap[g]? = some o := (hb.block g (heap_lt h)).trans h
theorem MvS.next (h : MvS w W b5 b6 b7 L mx my p q t) (hb : Below W.heap.size W W') : MvS w W' b5 b6 b7 L mx my p q t :=
  ⟨h.bel.trans (hb.mono h.bel.size), row_keep hb h.h2, row_keep hb h.h3, row_keep hb h.h5, row_keep hb h.h6, row_keep hb h.h7, h.g5, h.g6, h.g7⟩
theorem row_onl {g b : Nat} {o : Obj} (ho : Onl g W W') (h : W.heap[b]? = some o) (hn : b ≠ g) : W'.heap[b]? = some o := (ho.block b (heap_lt h) hn).trans h
theorem onl2 (b j : Nat) (W : World) (u v : Value) : Onl b W ((W.setCell ⟨b, j, none⟩ u).setCell ⟨b, j + 1, none⟩ v) := (Onl.set b _ _ _).trans (Onl.set b _ _ _)
theorem row_set {g : Nat} {l : List Int} (h : W.heap[g]? = some (.cells (i6 l).toArray 45 (0, 0))) (j : Nat) (x y : Int) :
    ((W.setCell ⟨g, j, none⟩ (.int .i64 x)).setCell ⟨g, j + 1, none⟩ (.int .i64 y)).heap[g]? = some (.cells (i6 ((l.set j x).set (j + 1) y)).toArray 45 (0, 0)) := by
  simp [World.setCell, Array.getElem?_modify, h, i6, List.map_set]
theorem MvS.set5 (h : MvS w W b5 b6 b7 L mx my p q t) (j : Nat) (x y : Int) : MvS w ((W.setCell ⟨b5, j, none⟩ (.int .i64 x)).setCell ⟨b5, j + 1, none⟩ (.int .i64 y)) b5 b6 b7 L mx my ((p.set j x).set (j + 1) y) q t := by
  have ho := onl2 b5 j W (.int .i64 x) (.int .i64 y)
  have g5 := h.g5
  have g6 := h.g6
  have g7 := h.g7
  exact ⟨bel_onl h.bel ho (by omega), row_onl ho h.h2 (by omega), row_onl ho h.h3 (by omega), row_set h.h5 j x y, row_onl ho h.h6 (by omega), row_onl ho h.h7 (by omega), g5, g6, g7⟩
theorem MvS.set6 (h : MvS w W b5 b6 b7 L mx my p q t) (j : Nat) (x y : Int) : MvS w ((W.setCell ⟨b6, j, none⟩ (.int .i64 x)).setCell ⟨b6, j + 1, none⟩ (.int .i64 y)) b5 b6 b7 L mx my p ((q.set j x).set (j + 1) y) t := by
  have ho := onl2 b6 j W (.int .i64 x) (.int .i64 y)
  have g5 := h.g5
  have g6 := h.g6
  have g7 := h.g7
  exact ⟨bel_onl h.bel ho (by omega), row_onl ho h.h2 (by omega), row_onl ho h.h3 (by omega), row_onl ho h.h5 (by omega), row_set h.h6 j x y, row_onl ho h.h7 (by omega), g5, g6, g7⟩
theorem MvS.set7 (h : MvS w W b5 b6 b7 L mx my p q t) (j : Nat) (x y : Int) : MvS w ((W.setCell ⟨b7, j, none⟩ (.int .i64 x)).setCell ⟨b7, j + 1, none⟩ (.int .i64 y)) b5 b6 b7 L mx my p q ((t.set j x).set (j + 1) y) := by
  have ho := onl2 b7 j W (.int .i64 x) (.int .i64 y)
  have g5 := h.g5
  have g6 := h.g6
  have g7 := h.g7
  exact ⟨bel_onl h.bel ho (by omega), row_onl ho h.h2 (by omega), row_onl ho h.h3 (by omega), row_onl ho h.h5 (by omega), row_onl ho h.h6 (by omega), row_set h.h7 j x y, g5, g6, g7⟩
theorem row_at {g : Nat} {l : List Int} (h : W.heap[g]? = some (.cells (i6 l).toArray 45 (0, 0))) {j : Nat} {x : Int} (hx : l[j]? = some x) : W.cell? ⟨g, j, none⟩ = some (.int .i64 x) ∧ W.frozen? ⟨g, j, none⟩ = false := by
  refine ⟨?_, by simp [World.frozen?, h]⟩
  rw [cell_of_row W g j _ 45 (0, 0) h]
  simp [i6, hx]
end
/-- A number's rest by 2^20. -/
def rm (x : Int) : Int := x.tmod 1048576
theorem rm_in {x : Int} : -1048576 < rm x ∧ rm x < 1048576 := by
  unfold rm
  rcases Int.le_total 0 x with h | h
  · rw [Int.tmod_eq_emod_of_nonneg h]; omega
  · have e : x = -(-x) := by omega
    rw [e, Int.neg_tmod, Int.tmod_eq_emod_of_nonneg (by omega)]; omega
def pl (x0 y0 x1 y1 x2 y2 : Int) : Nat → List Int
  | 0 => [0, 0, 0, 0, 0, 0]
  | 1 => [rm x0, rm y0, 0, 0, 0, 0]
  | 2 => [rm x0, rm y0, rm x1, rm y1, 0, 0]
  | _ => [rm x0, rm y0, rm x1, rm y1, rm x2, rm y2]
def ql (x0 y0 x1 y1 x2 y2 mx my : Int) : Nat → List Int
  | 0 => [0, 0, 0, 0, 0, 0]
  | 1 => [rm x0 + rm mx, rm y0 + rm my, 0, 0, 0, 0]
  | 2 => [rm x0 + rm mx, rm y0 + rm my, rm x1 + rm mx, rm y1 + rm my, 0, 0]
  | _ => [rm x0 + rm mx, rm y0 + rm my, rm x1 + rm mx, rm y1 + rm my, rm x2 + rm mx, rm y2 + rm my]
def tl (x0 y0 x1 y1 x2 y2 : Int) : Nat → List Int
  | 0 => [0, 0, 0, 0, 0, 0]
  | 1 => [-rm y0, rm x0, 0, 0, 0, 0]
  | 2 => [-rm y0, rm x0, -rm y1, rm x1, 0, 0]
  | _ => [-rm y0, rm x0, -rm y1, rm x1, -rm y2, rm x2]
theorem MvS.start {w w1 : World} (mx my : Int) (L : List Int) (hb : Below w.heap.size w w1) (hs : w.heap.size + 1 < w1.heap.size) (h2 : w1.heap[w.heap.size]? = some (.cells (L.map fun x => .int .i32 x).toArray 44 (0, 0))) (h3 : w1.heap[w.heap.size + 1]? = some (.cells #[.int .i32 mx, .int .i32 my] 43 (0, 0))) :
    MvS w (((w1.alloc (.cells #[.int .i64 0, .int .i64 0, .int .i64 0, .int .i64 0, .int .i64 0, .int .i64 0] 45)).alloc (.cells #[.int .i64 0, .int .i64 0, .int .i64 0, .int .i64 0, .int .i64 0, .int .i64 0] 45)).alloc (.cells #[.int .i64 0, .int .i64 0, .int .i64 0, .int .i64 0, .int .i64 0, .int .i64 0] 45)) w1.heap.size (w1.heap.size + 1) (w1.heap.size + 1 + 1) L mx my [0, 0, 0, 0, 0, 0] [0, 0, 0, 0, 0, 0] [0, 0, 0, 0, 0, 0] := by
  obtain ⟨w2, e2⟩ : ∃ W, W = w1.alloc (.cells #[.int .i64 0, .int .i64 0, .int .i64 0, .int .i64 0, .int .i64 0, .int .i64 0] 45) := ⟨_, rfl⟩
  obtain ⟨w3, e3⟩ : ∃ W, W = w2.alloc (.cells #[.int .i64 0, .int .i64 0, .int .i64 0, .int .i64 0, .int .i64 0, .int .i64 0] 45) := ⟨_, rfl⟩
  have s2 : w2.heap.size = w1.heap.size + 1 := by rw [e2]; simp
  have s3 : w3.heap.size = w1.heap.size + 1 + 1 := by rw [e3]; simp [s2]
  have b2 : Below w1.heap.size w1 w2 := by rw [e2]; exact (Below.refl _ _).alloc (Nat.le_refl _) _
  have b3 : Below w2.heap.size w2 w3 := by rw [e3]; exact (Below.refl _ _).alloc (Nat.le_refl _) _
  have b4 : Below w3.heap.size w3 (w3.alloc (.cells #[.int .i64 0, .int .i64 0, .int .i64 0, .int .i64 0, .int .i64 0, .int .i64 0] 45)) := (Below.refl _ _).alloc (Nat.le_refl _) _
  have g5 : w2.heap[w1.heap.size]? = some (.cells #[.int .i64 0, .int .i64 0, .int .i64 0, .int .i64 0, .int .i64 0, .int .i64 0] 45) := by rw [e2]; exact heap_alloc_new w1 _
  have g6 : w3.heap[w1.heap.size + 1]? = some (.cells #[.int .i64 0, .int .i64 0, .int .i64 0, .int .i64 0, .int .i64 0, .int .i64 0] 45) := by rw [e3, ← s2]; exact heap_alloc_new w2 _
  rw [← e2, ← e3]
  refine ⟨((hb.trans (b2.mono hb.size)).trans (b3.mono (Nat.le_trans hb.size b2.size))).trans (b4.mono (Nat.le_trans (Nat.le_trans hb.size b2.size) b3.size)), row_keep b4 (row_keep b3 (row_keep b2 h2)), row_keep b4 (row_keep b3 (row_keep b2 h3)), row_keep b4 (row_keep b3 g5), row_keep b4 g6, ?_, hs, rfl, rfl⟩
  rw [← s3]
  exact heap_alloc_new w3 _
set_option maxHeartbeats 8000000 in
set_option maxRecDepth 100000 in
theorem law_moved (x0 y0 x1 y1 x2 y2 mx my : Int) (w : World) (hx0 : -2147483648 ≤ x0 ∧ x0 ≤ 2147483647) (hy0 : -2147483648 ≤ y0 ∧ y0 ≤ 2147483647) (hx1 : -2147483648 ≤ x1 ∧ x1 ≤ 2147483647) (hy1 : -2147483648 ≤ y1 ∧ y1 ≤ 2147483647) (hx2 : -2147483648 ≤ x2 ∧ x2 ≤ 2147483647) (hy2 : -2147483648 ≤ y2 ∧ y2 ≤ 2147483647) (hmx : -2147483648 ≤ mx ∧ mx ≤ 2147483647) (hmy : -2147483648 ≤ my ∧ my ≤ 2147483647) :
    Calls Try.prog 4 #[.agg #[.int .i32 x0, .int .i32 y0, .int .i32 x1, .int .i32 y1, .int .i32 x2, .int .i32 y2], .agg #[.int .i32 mx, .int .i32 my]] w fun e w' => e = .returned (.bool true) ∧ Below w.heap.size w w' := by
  have CA := Lib.hid (fun W => awake_any W)
  have vx0 : IntKind.i64.wrap x0 = x0 := IntWalk.i64_in _ (by omega)
  have qx0 : x0.tmod 1048576 = rm x0 := rfl
  have bx0 := rm_in (x := x0)
  have ux0 : IntKind.i64.wrap (rm x0) = rm x0 := IntWalk.i64_in _ (by omega)
  have vy0 : IntKind.i64.wrap y0 = y0 := IntWalk.i64_in _ (by omega)
  have qy0 : y0.tmod 1048576 = rm y0 := rfl
  have by0 := rm_in (x := y0)
  have uy0 : IntKind.i64.wrap (rm y0) = rm y0 := IntWalk.i64_in _ (by omega)
  have vx1 : IntKind.i64.wrap x1 = x1 := IntWalk.i64_in _ (by omega)
  have qx1 : x1.tmod 1048576 = rm x1 := rfl
  have bx1 := rm_in (x := x1)
  have ux1 : IntKind.i64.wrap (rm x1) = rm x1 := IntWalk.i64_in _ (by omega)
  have vy1 : IntKind.i64.wrap y1 = y1 := IntWalk.i64_in _ (by omega)
  have qy1 : y1.tmod 1048576 = rm y1 := rfl
  have by1 := rm_in (x := y1)
  have uy1 : IntKind.i64.wrap (rm y1) = rm y1 := IntWalk.i64_in _ (by omega)
  have vx2 : IntKind.i64.wrap x2 = x2 := IntWalk.i64_in _ (by omega)
  have qx2 : x2.tmod 1048576 = rm x2 := rfl
  have bx2 := rm_in (x := x2)
  have ux2 : IntKind.i64.wrap (rm x2) = rm x2 := IntWalk.i64_in _ (by omega)
  have vy2 : IntKind.i64.wrap y2 = y2 := IntWalk.i64_in _ (by omega)
  have qy2 : y2.tmod 1048576 = rm y2 := rfl
  have by2 := rm_in (x := y2)
  have uy2 : IntKind.i64.wrap (rm y2) = rm y2 := IntWalk.i64_in _ (by omega)
  have vmx : IntKind.i64.wrap mx = mx := IntWalk.i64_in _ (by omega)
  have qmx : mx.tmod 1048576 = rm mx := rfl
  have bmx := rm_in (x := mx)
  have umx : IntKind.i64.wrap (rm mx) = rm mx := IntWalk.i64_in _ (by omega)
  have vmy : IntKind.i64.wrap my = my := IntWalk.i64_in _ (by omega)
  have qmy : my.tmod 1048576 = rm my := rfl
  have bmy := rm_in (x := my)
  have umy : IntKind.i64.wrap (rm my) = rm my := IntWalk.i64_in _ (by omega)
  have sx0 : IntKind.i64.wrap (rm x0 + rm mx) = rm x0 + rm mx := IntWalk.i64_in _ (by omega)
  have sy0 : IntKind.i64.wrap (rm y0 + rm my) = rm y0 + rm my := IntWalk.i64_in _ (by omega)
  have ny0 : IntKind.i64.wrap (-rm y0) = -rm y0 := IntWalk.i64_in _ (by omega)
  have sx1 : IntKind.i64.wrap (rm x1 + rm mx) = rm x1 + rm mx := IntWalk.i64_in _ (by omega)
  have sy1 : IntKind.i64.wrap (rm y1 + rm my) = rm y1 + rm my := IntWalk.i64_in _ (by omega)
  have ny1 : IntKind.i64.wrap (-rm y1) = -rm y1 := IntWalk.i64_in _ (by omega)
  have sx2 : IntKind.i64.wrap (rm x2 + rm mx) = rm x2 + rm mx := IntWalk.i64_in _ (by omega)
  have sy2 : IntKind.i64.wrap (rm y2 + rm my) = rm y2 + rm my := IntWalk.i64_in _ (by omega)
  have ny2 : IntKind.i64.wrap (-rm y2) = -rm y2 := IntWalk.i64_in _ (by omega)
  have HBd := Lib.hid (And.intro bx0 (And.intro by0 (And.intro bx1 (And.intro by1 (And.intro bx2 (And.intro by2 (And.intro bmx bmy)))))))
  have hA : Below w.heap.size w ((w.alloc (.cells #[.int .i32 x0, .int .i32 y0, .int .i32 x1, .int .i32 y1, .int .i32 x2, .int .i32 y2] 44)).alloc (.cells #[.int .i32 mx, .int .i32 my] 43)) := ((Below.refl _ _).alloc (Nat.le_refl _) _).alloc (by simp) _
  have g2 : ((w.alloc (.cells #[.int .i32 x0, .int .i32 y0, .int .i32 x1, .int .i32 y1, .int .i32 x2, .int .i32 y2] 44)).alloc (.cells #[.int .i32 mx, .int .i32 my] 43)).heap[w.heap.size]? = some (.cells (([x0, y0, x1, y1, x2, y2] : List Int).map fun x => .int .i32 x).toArray 44 (0, 0)) := by
    have h := heap_alloc_new w (.cells #[.int .i32 x0, .int .i32 y0, .int .i32 x1, .int .i32 y1, .int .i32 x2, .int .i32 y2] 44)
    exact row_keep ((Below.refl _ _).alloc (Nat.le_refl _) _) h
  have g3 : ((w.alloc (.cells #[.int .i32 x0, .int .i32 y0, .int .i32 x1, .int .i32 y1, .int .i32 x2, .int .i32 y2] 44)).alloc (.cells #[.int .i32 mx, .int .i32 my] 43)).heap[w.heap.size + 1]? = some (.cells #[.int .i32 mx, .int .i32 my] 43) := by
    have h := heap_alloc_new (w.alloc (.cells #[.int .i32 x0, .int .i32 y0, .int .i32 x1, .int .i32 y1, .int .i32 x2, .int .i32 y2] 44)) (.cells #[.int .i32 mx, .int .i32 my] 43)
    rw [size_a] at h
    exact h
  have HG := Lib.hid (And.intro hA (And.intro g2 g3))
  clear hA g2 g3 hx0 hy0 hx1 hy1 hx2 hy2 hmx hmy bx0 by0 bx1 by1 bx2 by2 bmx bmy
  go_enter Try.func4, Try.ntmps4
  go_upto_region 3 with (go_at_call 6; (with_reducible refine (CA.out _).mono ?_); rintro e w1 ⟨rfl, hb⟩; have HG1 := Lib.hid (And.intro (HG.out.1.trans (hb.mono HG.out.1.size)) (And.intro (row_keep hb HG.out.2.1) (row_keep hb HG.out.2.2))); clear hb)
  have H0 := Lib.hid (MvS.start mx my [x0, y0, x1, y1, x2, y2] HG1.out.1 (heap_lt HG1.out.2.2) HG1.out.2.1 HG1.out.2.2)
  go_upto_region 4 with fail
  obtain ⟨b5, hb5⟩ : ∃ b, b = w1.heap.size := ⟨_, rfl⟩
  obtain ⟨W3, hW3⟩ : ∃ W, W = (((w1.alloc (.cells #[.int .i64 0, .int .i64 0, .int .i64 0, .int .i64 0, .int .i64 0, .int .i64 0] 45)).alloc (.cells #[.int .i64 0, .int .i64 0, .int .i64 0, .int .i64 0, .int .i64 0, .int .i64 0] 45)).alloc (.cells #[.int .i64 0, .int .i64 0, .int .i64 0, .int .i64 0, .int .i64 0, .int .i64 0] 45)) := ⟨_, rfl⟩
  rw [← hW3] at H0 ⊢
  rw [← hb5] at H0 ⊢
  clear hW3 hb5
  have l0 : W3.cell? ⟨w.heap.size, 0, none⟩ = some (.int .i32 x0) := cell_of_row W3 _ 0 _ 44 (0, 0) H0.out.h2
  have l1 : W3.cell? ⟨w.heap.size, 1, none⟩ = some (.int .i32 y0) := cell_of_row W3 _ 1 _ 44 (0, 0) H0.out.h2
  have l2 : W3.cell? ⟨w.heap.size, 2, none⟩ = some (.int .i32 x1) := cell_of_row W3 _ 2 _ 44 (0, 0) H0.out.h2
  have l3 : W3.cell? ⟨w.heap.size, 3, none⟩ = some (.int .i32 y1) := cell_of_row W3 _ 3 _ 44 (0, 0) H0.out.h2
  have l4 : W3.cell? ⟨w.heap.size, 4, none⟩ = some (.int .i32 x2) := cell_of_row W3 _ 4 _ 44 (0, 0) H0.out.h2
  have l5 : W3.cell? ⟨w.heap.size, 5, none⟩ = some (.int .i32 y2) := cell_of_row W3 _ 5 _ 44 (0, 0) H0.out.h2
  go_wp2_with fail
  clear l0 l1 l2 l3 l4 l5
  go_loopw [25] (fun i wr => ∃ k : Nat, i = .int .i64 (k : Int) ∧ k ≤ 3 ∧ MvS w wr b5 (b5 + 1) (b5 + 1 + 1) [x0, y0, x1, y1, x2, y2] mx my (pl x0 y0 x1 y1 x2 y2 k) (ql x0 y0 x1 y1 x2 y2 mx my k) (tl x0 y0 x1 y1 x2 y2 k)) (fun i _ => 3 - (intOf i).toNat)
  case atStart => exact ⟨0, rfl, by omega, H0.out⟩
  case round =>
    obtain ⟨k, rfl, hk, hS⟩ := hrel
    have hk4 : k = 0 ∨ k = 1 ∨ k = 2 ∨ k = 3 := by omega
    rcases hk4 with rfl | rfl | rfl | rfl
    · have HS0 := Lib.hid hS
      have hA9 := (Below.refl wr.heap.size wr).alloc (Nat.le_refl _) (.cells #[.int .i32 x0, .int .i32 y0] 43)
      have HS1 := Lib.hid (hS.next hA9)
      have HX := Lib.hid (heap_alloc_new wr (.cells #[.int .i32 x0, .int .i32 y0] 43))
      have hlt : b5 + 1 + 1 < wr.heap.size := heap_lt hS.h7
      have ix := fun W : World => show (Instr.index 44 (.agg #[.int .i32 x0, .int .i32 y0, .int .i32 x1, .int .i32 y1, .int .i32 x2, .int .i32 y2]) (.int .i64 0)).run Try.prog W = .ok (.agg #[.int .i32 x0, .int .i32 y0]) W from by kernel_rfl
      clear hS hA9
      go_upto_region 7 with fail
      obtain ⟨b9, hb9⟩ : ∃ b, b = wr.heap.size := ⟨_, rfl⟩
      obtain ⟨W1, hW1⟩ : ∃ W, W = wr.alloc (.cells #[.int .i32 x0, .int .i32 y0] 43) := ⟨_, rfl⟩
      rw [← hW1] at HS1 HX ⊢
      rw [← hb9] at HX hlt ⊢
      have c0 : W1.cell? ⟨b9, 0, none⟩ = some (.int .i32 x0) := cell_of_row W1 b9 0 _ 43 (0, 0) HX.out
      have c1 : W1.cell? ⟨b9, 1, none⟩ = some (.int .i32 y0) := cell_of_row W1 b9 1 _ 43 (0, 0) HX.out
      obtain ⟨p0, p2⟩ := row_at HS1.out.h5 (j := 0) (x := 0) rfl
      obtain ⟨p1, p3⟩ := row_at HS1.out.h5 (j := 1) (x := 0) rfl
      have n1 : ¬ b9 = b5 := by omega
      have n2 : ¬ b5 = b9 := by omega
      clear hW1 hb9 ix HS0
      go_upto_region 8 with fail
      have HS2 := Lib.hid (HS1.out.set5 0 (rm x0) (rm y0))
      obtain ⟨W2, hW2⟩ : ∃ W, W = (W1.setCell ⟨b5, 0, none⟩ (.int .i64 (rm x0))).setCell ⟨b5, 1, none⟩ (.int .i64 (rm y0)) := ⟨_, rfl⟩
      have HS2 : Hid (MvS w W2 b5 (b5 + 1) (b5 + 1 + 1) [x0, y0, x1, y1, x2, y2] mx my (pl x0 y0 x1 y1 x2 y2 1) (ql x0 y0 x1 y1 x2 y2 mx my 0) (tl x0 y0 x1 y1 x2 y2 0)) := by rw [hW2]; exact HS2
      rw [← hW2]
      clear hW2 c0 c1 p0 p1 p2 p3 HS1
      obtain ⟨p0, p2⟩ := row_at HS2.out.h5 (j := 0) (x := rm x0) rfl
      obtain ⟨p1, p3⟩ := row_at HS2.out.h5 (j := 1) (x := rm y0) rfl
      obtain ⟨t0, t2⟩ := row_at HS2.out.h6 (j := 0) (x := 0) rfl
      obtain ⟨t1, t3⟩ := row_at HS2.out.h6 (j := 1) (x := 0) rfl
      have m0 : W2.cell? ⟨w.heap.size + 1, 0, none⟩ = some (.int .i32 mx) := cell_of_row W2 _ 0 _ 43 (0, 0) HS2.out.h3
      have m1 : W2.cell? ⟨w.heap.size + 1, 1, none⟩ = some (.int .i32 my) := cell_of_row W2 _ 1 _ 43 (0, 0) HS2.out.h3
      have g5 := HS2.out.g5
      have n3 : ¬ w.heap.size + 1 = b5 + 1 := by omega
      have n4 : ¬ b5 + 1 = w.heap.size + 1 := by omega
      have n5 : ¬ b5 = b5 + 1 := by omega
      have n6 : ¬ b5 + 1 = b5 := by omega
      clear g5
      go_region
      go_upto_region 9 with fail
      have HS3 := Lib.hid ((HS2.out.set6 0 (rm x0 + rm mx) (rm y0 + rm my)).next (Below.drew (Below.refl _ _)))
      obtain ⟨W4, hW4⟩ : ∃ W, W = ((W2.setCell ⟨b5 + 1, 0, none⟩ (.int .i64 (rm x0 + rm mx))).setCell ⟨b5 + 1, 1, none⟩ (.int .i64 (rm y0 + rm my))).drew := ⟨_, rfl⟩
      have HS3 : Hid (MvS w W4 b5 (b5 + 1) (b5 + 1 + 1) [x0, y0, x1, y1, x2, y2] mx my (pl x0 y0 x1 y1 x2 y2 1) (ql x0 y0 x1 y1 x2 y2 mx my 1) (tl x0 y0 x1 y1 x2 y2 0)) := by rw [hW4]; exact HS3
      rw [← hW4]
      clear hW4 p0 p1 p2 p3 t0 t1 t2 t3 m0 m1 HS2 n3 n4 n5 n6
      obtain ⟨p0, p2⟩ := row_at HS3.out.h5 (j := 0) (x := rm x0) rfl
      obtain ⟨p1, p3⟩ := row_at HS3.out.h5 (j := 1) (x := rm y0) rfl
      obtain ⟨t0, t2⟩ := row_at HS3.out.h7 (j := 0) (x := 0) rfl
      obtain ⟨t1, t3⟩ := row_at HS3.out.h7 (j := 1) (x := 0) rfl
      have n5 : ¬ b5 = b5 + 1 + 1 := by omega
      have n6 : ¬ b5 + 1 + 1 = b5 := by omega
      go_region
      go_wp2_with fail
      have HS4 := (HS3.out.set7 0 (-rm y0) (rm x0)).next (Below.drew (Below.refl _ _))
      exact ⟨⟨1, by simp, by omega, HS4⟩, by simp [intOf]⟩
    · have HS0 := Lib.hid hS
      have hA9 := (Below.refl wr.heap.size wr).alloc (Nat.le_refl _) (.cells #[.int .i32 x1, .int .i32 y1] 43)
      have HS1 := Lib.hid (hS.next hA9)
      have HX := Lib.hid (heap_alloc_new wr (.cells #[.int .i32 x1, .int .i32 y1] 43))
      have hlt : b5 + 1 + 1 < wr.heap.size := heap_lt hS.h7
      have ix := fun W : World => show (Instr.index 44 (.agg #[.int .i32 x0, .int .i32 y0, .int .i32 x1, .int .i32 y1, .int .i32 x2, .int .i32 y2]) (.int .i64 1)).run Try.prog W = .ok (.agg #[.int .i32 x1, .int .i32 y1]) W from by kernel_rfl
      clear hS hA9
      go_upto_region 7 with fail
      obtain ⟨b9, hb9⟩ : ∃ b, b = wr.heap.size := ⟨_, rfl⟩
      obtain ⟨W1, hW1⟩ : ∃ W, W = wr.alloc (.cells #[.int .i32 x1, .int .i32 y1] 43) := ⟨_, rfl⟩
      rw [← hW1] at HS1 HX ⊢
      rw [← hb9] at HX hlt ⊢
      have c0 : W1.cell? ⟨b9, 0, none⟩ = some (.int .i32 x1) := cell_of_row W1 b9 0 _ 43 (0, 0) HX.out
      have c1 : W1.cell? ⟨b9, 1, none⟩ = some (.int .i32 y1) := cell_of_row W1 b9 1 _ 43 (0, 0) HX.out
      obtain ⟨p0, p2⟩ := row_at HS1.out.h5 (j := 2) (x := 0) rfl
      obtain ⟨p1, p3⟩ := row_at HS1.out.h5 (j := 3) (x := 0) rfl
      have n1 : ¬ b9 = b5 := by omega
      have n2 : ¬ b5 = b9 := by omega
      clear hW1 hb9 ix HS0
      go_upto_region 8 with fail
      have HS2 := Lib.hid (HS1.out.set5 2 (rm x1) (rm y1))
      obtain ⟨W2, hW2⟩ : ∃ W, W = (W1.setCell ⟨b5, 2, none⟩ (.int .i64 (rm x1))).setCell ⟨b5, 3, none⟩ (.int .i64 (rm y1)) := ⟨_, rfl⟩
      have HS2 : Hid (MvS w W2 b5 (b5 + 1) (b5 + 1 + 1) [x0, y0, x1, y1, x2, y2] mx my (pl x0 y0 x1 y1 x2 y2 2) (ql x0 y0 x1 y1 x2 y2 mx my 1) (tl x0 y0 x1 y1 x2 y2 1)) := by rw [hW2]; exact HS2
      rw [← hW2]
      clear hW2 c0 c1 p0 p1 p2 p3 HS1
      obtain ⟨p0, p2⟩ := row_at HS2.out.h5 (j := 2) (x := rm x1) rfl
      obtain ⟨p1, p3⟩ := row_at HS2.out.h5 (j := 3) (x := rm y1) rfl
      obtain ⟨t0, t2⟩ := row_at HS2.out.h6 (j := 2) (x := 0) rfl
      obtain ⟨t1, t3⟩ := row_at HS2.out.h6 (j := 3) (x := 0) rfl
      have m0 : W2.cell? ⟨w.heap.size + 1, 0, none⟩ = some (.int .i32 mx) := cell_of_row W2 _ 0 _ 43 (0, 0) HS2.out.h3
      have m1 : W2.cell? ⟨w.heap.size + 1, 1, none⟩ = some (.int .i32 my) := cell_of_row W2 _ 1 _ 43 (0, 0) HS2.out.h3
      have g5 := HS2.out.g5
      have n3 : ¬ w.heap.size + 1 = b5 + 1 := by omega
      have n4 : ¬ b5 + 1 = w.heap.size + 1 := by omega
      have n5 : ¬ b5 = b5 + 1 := by omega
      have n6 : ¬ b5 + 1 = b5 := by omega
      clear g5
      go_region
      go_upto_region 9 with fail
      have HS3 := Lib.hid ((HS2.out.set6 2 (rm x1 + rm mx) (rm y1 + rm my)).next (Below.drew (Below.refl _ _)))
      obtain ⟨W4, hW4⟩ : ∃ W, W = ((W2.setCell ⟨b5 + 1, 2, none⟩ (.int .i64 (rm x1 + rm mx))).setCell ⟨b5 + 1, 3, none⟩ (.int .i64 (rm y1 + rm my))).drew := ⟨_, rfl⟩
      have HS3 : Hid (MvS w W4 b5 (b5 + 1) (b5 + 1 + 1) [x0, y0, x1, y1, x2, y2] mx my (pl x0 y0 x1 y1 x2 y2 2) (ql x0 y0 x1 y1 x2 y2 mx my 2) (tl x0 y0 x1 y1 x2 y2 1)) := by rw [hW4]; exact HS3
      rw [← hW4]
      clear hW4 p0 p1 p2 p3 t0 t1 t2 t3 m0 m1 HS2 n3 n4 n5 n6
      obtain ⟨p0, p2⟩ := row_at HS3.out.h5 (j := 2) (x := rm x1) rfl
      obtain ⟨p1, p3⟩ := row_at HS3.out.h5 (j := 3) (x := rm y1) rfl
      obtain ⟨t0, t2⟩ := row_at HS3.out.h7 (j := 2) (x := 0) rfl
      obtain ⟨t1, t3⟩ := row_at HS3.out.h7 (j := 3) (x := 0) rfl
      have n5 : ¬ b5 = b5 + 1 + 1 := by omega
      have n6 : ¬ b5 + 1 + 1 = b5 := by omega
      go_region
      go_wp2_with fail
      have HS4 := (HS3.out.set7 2 (-rm y1) (rm x1)).next (Below.drew (Below.refl _ _))
      exact ⟨⟨2, by simp, by omega, HS4⟩, by simp [intOf]⟩
    · have HS0 := Lib.hid hS
      have hA9 := (Below.refl wr.heap.size wr).alloc (Nat.le_refl _) (.cells #[.int .i32 x2, .int .i32 y2] 43)
      have HS1 := Lib.hid (hS.next hA9)
      have HX := Lib.hid (heap_alloc_new wr (.cells #[.int .i32 x2, .int .i32 y2] 43))
      have hlt : b5 + 1 + 1 < wr.heap.size := heap_lt hS.h7
      have ix := fun W : World => show (Instr.index 44 (.agg #[.int .i32 x0, .int .i32 y0, .int .i32 x1, .int .i32 y1, .int .i32 x2, .int .i32 y2]) (.int .i64 2)).run Try.prog W = .ok (.agg #[.int .i32 x2, .int .i32 y2]) W from by kernel_rfl
      clear hS hA9
      go_upto_region 7 with fail
      obtain ⟨b9, hb9⟩ : ∃ b, b = wr.heap.size := ⟨_, rfl⟩
      obtain ⟨W1, hW1⟩ : ∃ W, W = wr.alloc (.cells #[.int .i32 x2, .int .i32 y2] 43) := ⟨_, rfl⟩
      rw [← hW1] at HS1 HX ⊢
      rw [← hb9] at HX hlt ⊢
      have c0 : W1.cell? ⟨b9, 0, none⟩ = some (.int .i32 x2) := cell_of_row W1 b9 0 _ 43 (0, 0) HX.out
      have c1 : W1.cell? ⟨b9, 1, none⟩ = some (.int .i32 y2) := cell_of_row W1 b9 1 _ 43 (0, 0) HX.out
      obtain ⟨p0, p2⟩ := row_at HS1.out.h5 (j := 4) (x := 0) rfl
      obtain ⟨p1, p3⟩ := row_at HS1.out.h5 (j := 5) (x := 0) rfl
      have n1 : ¬ b9 = b5 := by omega
      have n2 : ¬ b5 = b9 := by omega
      clear hW1 hb9 ix HS0
      go_upto_region 8 with fail
      have HS2 := Lib.hid (HS1.out.set5 4 (rm x2) (rm y2))
      obtain ⟨W2, hW2⟩ : ∃ W, W = (W1.setCell ⟨b5, 4, none⟩ (.int .i64 (rm x2))).setCell ⟨b5, 5, none⟩ (.int .i64 (rm y2)) := ⟨_, rfl⟩
      have HS2 : Hid (MvS w W2 b5 (b5 + 1) (b5 + 1 + 1) [x0, y0, x1, y1, x2, y2] mx my (pl x0 y0 x1 y1 x2 y2 3) (ql x0 y0 x1 y1 x2 y2 mx my 2) (tl x0 y0 x1 y1 x2 y2 2)) := by rw [hW2]; exact HS2
      rw [← hW2]
      clear hW2 c0 c1 p0 p1 p2 p3 HS1
      obtain ⟨p0, p2⟩ := row_at HS2.out.h5 (j := 4) (x := rm x2) rfl
      obtain ⟨p1, p3⟩ := row_at HS2.out.h5 (j := 5) (x := rm y2) rfl
      obtain ⟨t0, t2⟩ := row_at HS2.out.h6 (j := 4) (x := 0) rfl
      obtain ⟨t1, t3⟩ := row_at HS2.out.h6 (j := 5) (x := 0) rfl
      have m0 : W2.cell? ⟨w.heap.size + 1, 0, none⟩ = some (.int .i32 mx) := cell_of_row W2 _ 0 _ 43 (0, 0) HS2.out.h3
      have m1 : W2.cell? ⟨w.heap.size + 1, 1, none⟩ = some (.int .i32 my) := cell_of_row W2 _ 1 _ 43 (0, 0) HS2.out.h3
      have g5 := HS2.out.g5
      have n3 : ¬ w.heap.size + 1 = b5 + 1 := by omega
      have n4 : ¬ b5 + 1 = w.heap.size + 1 := by omega
      have n5 : ¬ b5 = b5 + 1 := by omega
      have n6 : ¬ b5 + 1 = b5 := by omega
      clear g5
      go_region
      go_upto_region 9 with fail
      have HS3 := Lib.hid ((HS2.out.set6 4 (rm x2 + rm mx) (rm y2 + rm my)).next (Below.drew (Below.refl _ _)))
      obtain ⟨W4, hW4⟩ : ∃ W, W = ((W2.setCell ⟨b5 + 1, 4, none⟩ (.int .i64 (rm x2 + rm mx))).setCell ⟨b5 + 1, 5, none⟩ (.int .i64 (rm y2 + rm my))).drew := ⟨_, rfl⟩
      have HS3 : Hid (MvS w W4 b5 (b5 + 1) (b5 + 1 + 1) [x0, y0, x1, y1, x2, y2] mx my (pl x0 y0 x1 y1 x2 y2 3) (ql x0 y0 x1 y1 x2 y2 mx my 3) (tl x0 y0 x1 y1 x2 y2 2)) := by rw [hW4]; exact HS3
      rw [← hW4]
      clear hW4 p0 p1 p2 p3 t0 t1 t2 t3 m0 m1 HS2 n3 n4 n5 n6
      obtain ⟨p0, p2⟩ := row_at HS3.out.h5 (j := 4) (x := rm x2) rfl
      obtain ⟨p1, p3⟩ := row_at HS3.out.h5 (j := 5) (x := rm y2) rfl
      obtain ⟨t0, t2⟩ := row_at HS3.out.h7 (j := 4) (x := 0) rfl
      obtain ⟨t1, t3⟩ := row_at HS3.out.h7 (j := 5) (x := 0) rfl
      have n5 : ¬ b5 = b5 + 1 + 1 := by omega
      have n6 : ¬ b5 + 1 + 1 = b5 := by omega
      go_region
      go_wp2_with fail
      have HS4 := (HS3.out.set7 4 (-rm y2) (rm x2)).next (Below.drew (Below.refl _ _))
      exact ⟨⟨3, by simp, by omega, HS4⟩, by simp [intOf]⟩
    · have HS := Lib.hid hS
      obtain ⟨⟨a1, a2⟩, ⟨a3, a4⟩, ⟨a5, a6⟩, ⟨a7, a8⟩, ⟨a9, a10⟩, ⟨a11, a12⟩, ⟨a13, a14⟩, ⟨a15, a16⟩⟩ := HBd.out
      have fp0 : fiP (rm x0, rm y0) := ⟨⟨by dsimp only; omega, by dsimp only; omega⟩, by dsimp only; omega, by dsimp only; omega⟩
      have fp1 : fiP (rm x1, rm y1) := ⟨⟨by dsimp only; omega, by dsimp only; omega⟩, by dsimp only; omega, by dsimp only; omega⟩
      have fp2 : fiP (rm x2, rm y2) := ⟨⟨by dsimp only; omega, by dsimp only; omega⟩, by dsimp only; omega, by dsimp only; omega⟩
      have fq0 : fiP (rm x0 + rm mx, rm y0 + rm my) := ⟨⟨by dsimp only; omega, by dsimp only; omega⟩, by dsimp only; omega, by dsimp only; omega⟩
      have fq1 : fiP (rm x1 + rm mx, rm y1 + rm my) := ⟨⟨by dsimp only; omega, by dsimp only; omega⟩, by dsimp only; omega, by dsimp only; omega⟩
      have fq2 : fiP (rm x2 + rm mx, rm y2 + rm my) := ⟨⟨by dsimp only; omega, by dsimp only; omega⟩, by dsimp only; omega, by dsimp only; omega⟩
      have ft0 : fiP (-rm y0, rm x0) := ⟨⟨by dsimp only; omega, by dsimp only; omega⟩, by dsimp only; omega, by dsimp only; omega⟩
      have ft1 : fiP (-rm y1, rm x1) := ⟨⟨by dsimp only; omega, by dsimp only; omega⟩, by dsimp only; omega, by dsimp only; omega⟩
      have ft2 : fiP (-rm y2, rm x2) := ⟨⟨by dsimp only; omega, by dsimp only; omega⟩, by dsimp only; omega, by dsimp only; omega⟩
      have R1 := Lib.hid (fun W => show Calls Try.prog 7 #[.agg #[.int .i64 (rm x0), .int .i64 (rm y0)], .agg #[.int .i64 (rm x1), .int .i64 (rm y1)], .agg #[.int .i64 (rm x2), .int .i64 (rm y2)]] W fun e w' => e = .returned (.tuple #[.int .i64 (crs (rm x0, rm y0) (rm x1, rm y1) (rm x2, rm y2)), .int .i64 0]) ∧ Below W.heap.size W w' from by
        have h := pcross_any (rm x0) (rm y0) (rm x1) (rm y1) (rm x2) (rm y2) W
        rw [show crsA (rm x0, rm y0) (rm x1, rm y1) (rm x2, rm y2) = (crs (rm x0, rm y0) (rm x1, rm y1) (rm x2, rm y2), 0) from if_pos ⟨fp0, fp1, fp2⟩, show crs (rm x0, rm y0) (rm x1, rm y1) (rm x2, rm y2) = crs (rm x0, rm y0) (rm x1, rm y1) (rm x2, rm y2) from rfl] at h
        exact h)
      have R2 := Lib.hid (fun W => show Calls Try.prog 7 #[.agg #[.int .i64 (rm x0 + rm mx), .int .i64 (rm y0 + rm my)], .agg #[.int .i64 (rm x1 + rm mx), .int .i64 (rm y1 + rm my)], .agg #[.int .i64 (rm x2 + rm mx), .int .i64 (rm y2 + rm my)]] W fun e w' => e = .returned (.tuple #[.int .i64 (crs (rm x0, rm y0) (rm x1, rm y1) (rm x2, rm y2)), .int .i64 0]) ∧ Below W.heap.size W w' from by
        have h := pcross_any (rm x0 + rm mx) (rm y0 + rm my) (rm x1 + rm mx) (rm y1 + rm my) (rm x2 + rm mx) (rm y2 + rm my) W
        rw [show crsA (rm x0 + rm mx, rm y0 + rm my) (rm x1 + rm mx, rm y1 + rm my) (rm x2 + rm mx, rm y2 + rm my) = (crs (rm x0 + rm mx, rm y0 + rm my) (rm x1 + rm mx, rm y1 + rm my) (rm x2 + rm mx, rm y2 + rm my), 0) from if_pos ⟨fq0, fq1, fq2⟩, show crs (rm x0 + rm mx, rm y0 + rm my) (rm x1 + rm mx, rm y1 + rm my) (rm x2 + rm mx, rm y2 + rm my) = crs (rm x0, rm y0) (rm x1, rm y1) (rm x2, rm y2) from crs_mov (rm x0, rm y0) (rm x1, rm y1) (rm x2, rm y2) (rm mx, rm my)] at h
        exact h)
      have R3 := Lib.hid (fun W => show Calls Try.prog 7 #[.agg #[.int .i64 (-rm y0), .int .i64 (rm x0)], .agg #[.int .i64 (-rm y1), .int .i64 (rm x1)], .agg #[.int .i64 (-rm y2), .int .i64 (rm x2)]] W fun e w' => e = .returned (.tuple #[.int .i64 (crs (rm x0, rm y0) (rm x1, rm y1) (rm x2, rm y2)), .int .i64 0]) ∧ Below W.heap.size W w' from by
        have h := pcross_any (-rm y0) (rm x0) (-rm y1) (rm x1) (-rm y2) (rm x2) W
        rw [show crsA (-rm y0, rm x0) (-rm y1, rm x1) (-rm y2, rm x2) = (crs (-rm y0, rm x0) (-rm y1, rm x1) (-rm y2, rm x2), 0) from if_pos ⟨ft0, ft1, ft2⟩, show crs (-rm y0, rm x0) (-rm y1, rm x1) (-rm y2, rm x2) = crs (rm x0, rm y0) (rm x1, rm y1) (rm x2, rm y2) from crs_rot (rm x0, rm y0) (rm x1, rm y1) (rm x2, rm y2)] at h
        exact h)
      have R4 := Lib.hid (fun W => show Calls Try.prog 7 #[.agg #[.int .i64 (rm x1), .int .i64 (rm y1)], .agg #[.int .i64 (rm x2), .int .i64 (rm y2)], .agg #[.int .i64 (rm x0), .int .i64 (rm y0)]] W fun e w' => e = .returned (.tuple #[.int .i64 (crs (rm x0, rm y0) (rm x1, rm y1) (rm x2, rm y2)), .int .i64 0]) ∧ Below W.heap.size W w' from by
        have h := pcross_any (rm x1) (rm y1) (rm x2) (rm y2) (rm x0) (rm y0) W
        rw [show crsA (rm x1, rm y1) (rm x2, rm y2) (rm x0, rm y0) = (crs (rm x1, rm y1) (rm x2, rm y2) (rm x0, rm y0), 0) from if_pos ⟨fp1, fp2, fp0⟩, show crs (rm x1, rm y1) (rm x2, rm y2) (rm x0, rm y0) = crs (rm x0, rm y0) (rm x1, rm y1) (rm x2, rm y2) from crs_cyc (rm x0, rm y0) (rm x1, rm y1) (rm x2, rm y2)] at h
        exact h)
      have R5 := Lib.hid (fun W => show Calls Try.prog 11 #[.agg #[.int .i64 (rm x0), .int .i64 (rm y0)], .agg #[.int .i64 (rm x1), .int .i64 (rm y1)]] W fun e w' => e = .returned (.tuple #[.int .i64 (dt (rm x0, rm y0) (rm x1, rm y1) (rm x1, rm y1)), .int .i64 0]) ∧ Below W.heap.size W w' from by
        have h := pfar_any (rm x0) (rm y0) (rm x1) (rm y1) W
        rw [show farA (rm x0, rm y0) (rm x1, rm y1) = (dt (rm x0, rm y0) (rm x1, rm y1) (rm x1, rm y1), 0) from if_pos ⟨fp0, fp1⟩, show dt (rm x0, rm y0) (rm x1, rm y1) (rm x1, rm y1) = dt (rm x0, rm y0) (rm x1, rm y1) (rm x1, rm y1) from rfl] at h
        exact h)
      have R6 := Lib.hid (fun W => show Calls Try.prog 11 #[.agg #[.int .i64 (-rm y1), .int .i64 (rm x1)], .agg #[.int .i64 (-rm y0), .int .i64 (rm x0)]] W fun e w' => e = .returned (.tuple #[.int .i64 (dt (rm x0, rm y0) (rm x1, rm y1) (rm x1, rm y1)), .int .i64 0]) ∧ Below W.heap.size W w' from by
        have h := pfar_any (-rm y1) (rm x1) (-rm y0) (rm x0) W
        rw [show farA (-rm y1, rm x1) (-rm y0, rm x0) = (dt (-rm y1, rm x1) (-rm y0, rm x0) (-rm y0, rm x0), 0) from if_pos ⟨ft1, ft0⟩, show dt (-rm y1, rm x1) (-rm y0, rm x0) (-rm y0, rm x0) = dt (rm x0, rm y0) (rm x1, rm y1) (rm x1, rm y1) from dt_rot (rm x0, rm y0) (rm x1, rm y1)] at h
        exact h)
      obtain ⟨A, hA⟩ : ∃ A, A = crs (rm x0, rm y0) (rm x1, rm y1) (rm x2, rm y2) := ⟨_, rfl⟩
      obtain ⟨D, hD⟩ : ∃ D, D = dt (rm x0, rm y0) (rm x1, rm y1) (rm x1, rm y1) := ⟨_, rfl⟩
      rw [← hA] at R1 R2 R3 R4
      rw [← hD] at R5 R6
      have eA : (A == A) = true := by simp
      have eD : (D == D) = true := by simp
      clear hA hD a1 a2 a3 a4 a5 a6 a7 a8 a9 a10 a11 a12 a13 a14 a15 a16 fp0 fp1 fp2 fq0 fq1 fq2 ft0 ft1 ft2 hS
      have p0 := (row_at HS.out.h5 (j := 0) (x := rm x0) rfl).1
      have p1 := (row_at HS.out.h5 (j := 1) (x := rm y0) rfl).1
      have p2 := (row_at HS.out.h5 (j := 2) (x := rm x1) rfl).1
      have p3 := (row_at HS.out.h5 (j := 3) (x := rm y1) rfl).1
      have p4 := (row_at HS.out.h5 (j := 4) (x := rm x2) rfl).1
      have p5 := (row_at HS.out.h5 (j := 5) (x := rm y2) rfl).1
      have q0 := (row_at HS.out.h6 (j := 0) (x := rm x0 + rm mx) rfl).1
      have q1 := (row_at HS.out.h6 (j := 1) (x := rm y0 + rm my) rfl).1
      have q2 := (row_at HS.out.h6 (j := 2) (x := rm x1 + rm mx) rfl).1
      have q3 := (row_at HS.out.h6 (j := 3) (x := rm y1 + rm my) rfl).1
      have q4 := (row_at HS.out.h6 (j := 4) (x := rm x2 + rm mx) rfl).1
      have q5 := (row_at HS.out.h6 (j := 5) (x := rm y2 + rm my) rfl).1
      have t0 := (row_at HS.out.h7 (j := 0) (x := -rm y0) rfl).1
      have t1 := (row_at HS.out.h7 (j := 1) (x := rm x0) rfl).1
      have t2 := (row_at HS.out.h7 (j := 2) (x := -rm y1) rfl).1
      have t3 := (row_at HS.out.h7 (j := 3) (x := rm x1) rfl).1
      have t4 := (row_at HS.out.h7 (j := 4) (x := -rm y2) rfl).1
      have t5 := (row_at HS.out.h7 (j := 5) (x := rm x2) rfl).1
      go_wp2_with (first
        | (go_at_call 7; (with_reducible refine (R1.out _).mono ?_); rintro e y1_ ⟨rfl, hb⟩; have HT1 := Lib.hid (HS.out.next hb); clear hb R1 p0 p1 p2 p3 p4 p5 q0 q1 q2 q3 q4 q5 t0 t1 t2 t3 t4 t5; have p0 := (row_at HT1.out.h5 (j := 0) (x := rm x0) rfl).1; have p1 := (row_at HT1.out.h5 (j := 1) (x := rm y0) rfl).1; have p2 := (row_at HT1.out.h5 (j := 2) (x := rm x1) rfl).1; have p3 := (row_at HT1.out.h5 (j := 3) (x := rm y1) rfl).1; have p4 := (row_at HT1.out.h5 (j := 4) (x := rm x2) rfl).1; have p5 := (row_at HT1.out.h5 (j := 5) (x := rm y2) rfl).1; have q0 := (row_at HT1.out.h6 (j := 0) (x := rm x0 + rm mx) rfl).1; have q1 := (row_at HT1.out.h6 (j := 1) (x := rm y0 + rm my) rfl).1; have q2 := (row_at HT1.out.h6 (j := 2) (x := rm x1 + rm mx) rfl).1; have q3 := (row_at HT1.out.h6 (j := 3) (x := rm y1 + rm my) rfl).1; have q4 := (row_at HT1.out.h6 (j := 4) (x := rm x2 + rm mx) rfl).1; have q5 := (row_at HT1.out.h6 (j := 5) (x := rm y2 + rm my) rfl).1; have t0 := (row_at HT1.out.h7 (j := 0) (x := -rm y0) rfl).1; have t1 := (row_at HT1.out.h7 (j := 1) (x := rm x0) rfl).1; have t2 := (row_at HT1.out.h7 (j := 2) (x := -rm y1) rfl).1; have t3 := (row_at HT1.out.h7 (j := 3) (x := rm x1) rfl).1; have t4 := (row_at HT1.out.h7 (j := 4) (x := -rm y2) rfl).1; have t5 := (row_at HT1.out.h7 (j := 5) (x := rm x2) rfl).1)
        | (go_at_call 7; (with_reducible refine (R2.out _).mono ?_); rintro e y2_ ⟨rfl, hb⟩; have HT2 := Lib.hid (HT1.out.next hb); clear hb R2 p0 p1 p2 p3 p4 p5 q0 q1 q2 q3 q4 q5 t0 t1 t2 t3 t4 t5; have p0 := (row_at HT2.out.h5 (j := 0) (x := rm x0) rfl).1; have p1 := (row_at HT2.out.h5 (j := 1) (x := rm y0) rfl).1; have p2 := (row_at HT2.out.h5 (j := 2) (x := rm x1) rfl).1; have p3 := (row_at HT2.out.h5 (j := 3) (x := rm y1) rfl).1; have p4 := (row_at HT2.out.h5 (j := 4) (x := rm x2) rfl).1; have p5 := (row_at HT2.out.h5 (j := 5) (x := rm y2) rfl).1; have q0 := (row_at HT2.out.h6 (j := 0) (x := rm x0 + rm mx) rfl).1; have q1 := (row_at HT2.out.h6 (j := 1) (x := rm y0 + rm my) rfl).1; have q2 := (row_at HT2.out.h6 (j := 2) (x := rm x1 + rm mx) rfl).1; have q3 := (row_at HT2.out.h6 (j := 3) (x := rm y1 + rm my) rfl).1; have q4 := (row_at HT2.out.h6 (j := 4) (x := rm x2 + rm mx) rfl).1; have q5 := (row_at HT2.out.h6 (j := 5) (x := rm y2 + rm my) rfl).1; have t0 := (row_at HT2.out.h7 (j := 0) (x := -rm y0) rfl).1; have t1 := (row_at HT2.out.h7 (j := 1) (x := rm x0) rfl).1; have t2 := (row_at HT2.out.h7 (j := 2) (x := -rm y1) rfl).1; have t3 := (row_at HT2.out.h7 (j := 3) (x := rm x1) rfl).1; have t4 := (row_at HT2.out.h7 (j := 4) (x := -rm y2) rfl).1; have t5 := (row_at HT2.out.h7 (j := 5) (x := rm x2) rfl).1)
        | (go_at_call 7; (with_reducible refine (R3.out _).mono ?_); rintro e y3_ ⟨rfl, hb⟩; have HT3 := Lib.hid (HT2.out.next hb); clear hb R3 p0 p1 p2 p3 p4 p5 q0 q1 q2 q3 q4 q5 t0 t1 t2 t3 t4 t5; have p0 := (row_at HT3.out.h5 (j := 0) (x := rm x0) rfl).1; have p1 := (row_at HT3.out.h5 (j := 1) (x := rm y0) rfl).1; have p2 := (row_at HT3.out.h5 (j := 2) (x := rm x1) rfl).1; have p3 := (row_at HT3.out.h5 (j := 3) (x := rm y1) rfl).1; have p4 := (row_at HT3.out.h5 (j := 4) (x := rm x2) rfl).1; have p5 := (row_at HT3.out.h5 (j := 5) (x := rm y2) rfl).1; have q0 := (row_at HT3.out.h6 (j := 0) (x := rm x0 + rm mx) rfl).1; have q1 := (row_at HT3.out.h6 (j := 1) (x := rm y0 + rm my) rfl).1; have q2 := (row_at HT3.out.h6 (j := 2) (x := rm x1 + rm mx) rfl).1; have q3 := (row_at HT3.out.h6 (j := 3) (x := rm y1 + rm my) rfl).1; have q4 := (row_at HT3.out.h6 (j := 4) (x := rm x2 + rm mx) rfl).1; have q5 := (row_at HT3.out.h6 (j := 5) (x := rm y2 + rm my) rfl).1; have t0 := (row_at HT3.out.h7 (j := 0) (x := -rm y0) rfl).1; have t1 := (row_at HT3.out.h7 (j := 1) (x := rm x0) rfl).1; have t2 := (row_at HT3.out.h7 (j := 2) (x := -rm y1) rfl).1; have t3 := (row_at HT3.out.h7 (j := 3) (x := rm x1) rfl).1; have t4 := (row_at HT3.out.h7 (j := 4) (x := -rm y2) rfl).1; have t5 := (row_at HT3.out.h7 (j := 5) (x := rm x2) rfl).1)
        | (go_at_call 7; (with_reducible refine (R4.out _).mono ?_); rintro e y4_ ⟨rfl, hb⟩; have HT4 := Lib.hid (HT3.out.next hb); clear hb R4 p0 p1 p2 p3 p4 p5 q0 q1 q2 q3 q4 q5 t0 t1 t2 t3 t4 t5; have p0 := (row_at HT4.out.h5 (j := 0) (x := rm x0) rfl).1; have p1 := (row_at HT4.out.h5 (j := 1) (x := rm y0) rfl).1; have p2 := (row_at HT4.out.h5 (j := 2) (x := rm x1) rfl).1; have p3 := (row_at HT4.out.h5 (j := 3) (x := rm y1) rfl).1; have p4 := (row_at HT4.out.h5 (j := 4) (x := rm x2) rfl).1; have p5 := (row_at HT4.out.h5 (j := 5) (x := rm y2) rfl).1; have q0 := (row_at HT4.out.h6 (j := 0) (x := rm x0 + rm mx) rfl).1; have q1 := (row_at HT4.out.h6 (j := 1) (x := rm y0 + rm my) rfl).1; have q2 := (row_at HT4.out.h6 (j := 2) (x := rm x1 + rm mx) rfl).1; have q3 := (row_at HT4.out.h6 (j := 3) (x := rm y1 + rm my) rfl).1; have q4 := (row_at HT4.out.h6 (j := 4) (x := rm x2 + rm mx) rfl).1; have q5 := (row_at HT4.out.h6 (j := 5) (x := rm y2 + rm my) rfl).1; have t0 := (row_at HT4.out.h7 (j := 0) (x := -rm y0) rfl).1; have t1 := (row_at HT4.out.h7 (j := 1) (x := rm x0) rfl).1; have t2 := (row_at HT4.out.h7 (j := 2) (x := -rm y1) rfl).1; have t3 := (row_at HT4.out.h7 (j := 3) (x := rm x1) rfl).1; have t4 := (row_at HT4.out.h7 (j := 4) (x := -rm y2) rfl).1; have t5 := (row_at HT4.out.h7 (j := 5) (x := rm x2) rfl).1)
        | (go_at_call 11; (with_reducible refine (R5.out _).mono ?_); rintro e y5_ ⟨rfl, hb⟩; have HT5 := Lib.hid (HT4.out.next hb); clear hb R5 p0 p1 p2 p3 p4 p5 q0 q1 q2 q3 q4 q5 t0 t1 t2 t3 t4 t5; have p0 := (row_at HT5.out.h5 (j := 0) (x := rm x0) rfl).1; have p1 := (row_at HT5.out.h5 (j := 1) (x := rm y0) rfl).1; have p2 := (row_at HT5.out.h5 (j := 2) (x := rm x1) rfl).1; have p3 := (row_at HT5.out.h5 (j := 3) (x := rm y1) rfl).1; have p4 := (row_at HT5.out.h5 (j := 4) (x := rm x2) rfl).1; have p5 := (row_at HT5.out.h5 (j := 5) (x := rm y2) rfl).1; have q0 := (row_at HT5.out.h6 (j := 0) (x := rm x0 + rm mx) rfl).1; have q1 := (row_at HT5.out.h6 (j := 1) (x := rm y0 + rm my) rfl).1; have q2 := (row_at HT5.out.h6 (j := 2) (x := rm x1 + rm mx) rfl).1; have q3 := (row_at HT5.out.h6 (j := 3) (x := rm y1 + rm my) rfl).1; have q4 := (row_at HT5.out.h6 (j := 4) (x := rm x2 + rm mx) rfl).1; have q5 := (row_at HT5.out.h6 (j := 5) (x := rm y2 + rm my) rfl).1; have t0 := (row_at HT5.out.h7 (j := 0) (x := -rm y0) rfl).1; have t1 := (row_at HT5.out.h7 (j := 1) (x := rm x0) rfl).1; have t2 := (row_at HT5.out.h7 (j := 2) (x := -rm y1) rfl).1; have t3 := (row_at HT5.out.h7 (j := 3) (x := rm x1) rfl).1; have t4 := (row_at HT5.out.h7 (j := 4) (x := -rm y2) rfl).1; have t5 := (row_at HT5.out.h7 (j := 5) (x := rm x2) rfl).1)
        | (go_at_call 11; (with_reducible refine (R6.out _).mono ?_); rintro e y6_ ⟨rfl, hb⟩; have HT6 := Lib.hid (HT5.out.next hb); clear hb R6 p0 p1 p2 p3 p4 p5 q0 q1 q2 q3 q4 q5 t0 t1 t2 t3 t4 t5; have p0 := (row_at HT6.out.h5 (j := 0) (x := rm x0) rfl).1; have p1 := (row_at HT6.out.h5 (j := 1) (x := rm y0) rfl).1; have p2 := (row_at HT6.out.h5 (j := 2) (x := rm x1) rfl).1; have p3 := (row_at HT6.out.h5 (j := 3) (x := rm y1) rfl).1; have p4 := (row_at HT6.out.h5 (j := 4) (x := rm x2) rfl).1; have p5 := (row_at HT6.out.h5 (j := 5) (x := rm y2) rfl).1; have q0 := (row_at HT6.out.h6 (j := 0) (x := rm x0 + rm mx) rfl).1; have q1 := (row_at HT6.out.h6 (j := 1) (x := rm y0 + rm my) rfl).1; have q2 := (row_at HT6.out.h6 (j := 2) (x := rm x1 + rm mx) rfl).1; have q3 := (row_at HT6.out.h6 (j := 3) (x := rm y1 + rm my) rfl).1; have q4 := (row_at HT6.out.h6 (j := 4) (x := rm x2 + rm mx) rfl).1; have q5 := (row_at HT6.out.h6 (j := 5) (x := rm y2 + rm my) rfl).1; have t0 := (row_at HT6.out.h7 (j := 0) (x := -rm y0) rfl).1; have t1 := (row_at HT6.out.h7 (j := 1) (x := rm x0) rfl).1; have t2 := (row_at HT6.out.h7 (j := 2) (x := -rm y1) rfl).1; have t3 := (row_at HT6.out.h7 (j := 3) (x := rm x1) rfl).1; have t4 := (row_at HT6.out.h7 (j := 4) (x := -rm y2) rfl).1; have t5 := (row_at HT6.out.h7 (j := 5) (x := rm x2) rfl).1))
      go_ret
      exact ⟨rfl, HT6.out.bel⟩
end Go.Proofs.Ytiififjbljiggaa
