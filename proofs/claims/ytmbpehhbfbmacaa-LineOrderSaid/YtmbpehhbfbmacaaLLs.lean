/- Proved here: what the law LineLevels answers, over memory. No condition. -/
import Derived.Test.YtmbpehhbfbmacaaLLq
import Derived.Test.YtmbpehhbfbmacaaLPAg1
namespace Go.Proofs.Ytmbpehhbfbmacaa
open Go.RowKit

/-- Three points in boxes. -/
structure LvS (w W : World) (b7 b8 b9 : Nat) (p a b : P2) : Prop where
  bel : Below w.heap.size w W
  h7 : Pbx W b7 p
  h8 : Pbx W b8 a
  h9 : Pbx W b9 b
section
variable {w W W' : World} {b7 b8 b9 : Nat} {p a b : P2}
theorem LvS.next (h : LvS w W b7 b8 b9 p a b) (hb : Below W.heap.size W W') : LvS w W' b7 b8 b9 p a b := ⟨h.bel.trans (hb.mono h.bel.size), h.h7.bel hb, h.h8.bel hb, h.h9.bel hb⟩
theorem LvS.drew (h : LvS w W b7 b8 b9 p a b) : LvS w W.drew b7 b8 b9 p a b := h.next (Below.drew (Below.refl _ _))
theorem LvS.cells (h : LvS w W b7 b8 b9 p a b) : W.cell? ⟨b7, 0, none⟩ = some (.int .i64 p.1) ∧ W.cell? ⟨b7, 1, none⟩ = some (.int .i64 p.2) ∧ W.cell? ⟨b8, 0, none⟩ = some (.int .i64 a.1) ∧ W.cell? ⟨b8, 1, none⟩ = some (.int .i64 a.2)
    ∧ W.cell? ⟨b9, 0, none⟩ = some (.int .i64 b.1) ∧ W.cell? ⟨b9, 1, none⟩ = some (.int .i64 b.2) :=
  ⟨h.h7.cells.1, h.h7.cells.2.1, h.h8.cells.1, h.h8.cells.2.1, h.h9.cells.1, h.h9.cells.2.1⟩
/-- The boxes, with their cells. -/
abbrev FvS (w W : World) (b7 b8 b9 : Nat) (p a b : P2) : Prop := W.cell? ⟨b7, 0, none⟩ = some (.int .i64 p.1) ∧ W.cell? ⟨b7, 1, none⟩ = some (.int .i64 p.2) ∧ W.cell? ⟨b8, 0, none⟩ = some (.int .i64 a.1) ∧ W.cell? ⟨b8, 1, none⟩ = some (.int .i64 a.2)
    ∧ W.cell? ⟨b9, 0, none⟩ = some (.int .i64 b.1) ∧ W.cell? ⟨b9, 1, none⟩ = some (.int .i64 b.2) ∧ LvS w W b7 b8 b9 p a b
theorem LvS.full (h : LvS w W b7 b8 b9 p a b) : FvS w W b7 b8 b9 p a b := ⟨h.cells.1, h.cells.2.1, h.cells.2.2.1, h.cells.2.2.2.1, h.cells.2.2.2.2.1, h.cells.2.2.2.2.2, h⟩
theorem fv_lv (h : FvS w W b7 b8 b9 p a b) : LvS w W b7 b8 b9 p a b := h.2.2.2.2.2.2
theorem fv_alloc {o : Obj} (h : FvS w W b7 b8 b9 p a b) : FvS w (W.alloc o) b7 b8 b9 p a b := ((fv_lv h).next ((Below.refl _ _).alloc (Nat.le_refl _) _)).full
theorem fv_allocD {o : Obj} (h : FvS w W.drew b7 b8 b9 p a b) : FvS w (W.alloc o).drew b7 b8 b9 p a b := fv_alloc (W := W.drew) h
theorem fv_bel (hb : Below W.heap.size W W') (h : FvS w W b7 b8 b9 p a b) : FvS w W' b7 b8 b9 p a b := ((fv_lv h).next hb).full
end
theorem three_b (w : World) (p q s : P2) : LvS w (((w.alloc (.cells #[.int .i64 p.1, .int .i64 p.2] 23)).alloc (.cells #[.int .i64 q.1, .int .i64 q.2] 23)).alloc (.cells #[.int .i64 s.1, .int .i64 s.2] 23)).drew w.heap.size (w.heap.size + 1) (w.heap.size + 1 + 1) p q s := by
  obtain ⟨h0, h1, h2, hb⟩ := box3 w p.1 p.2 q.1 q.2 s.1 s.2
  exact LvS.drew ⟨hb, h0, h1, h2⟩
set_option maxHeartbeats 8000000 in
set_option maxRecDepth 1000000 in
theorem levels_core (px py ax ay bx by_ r n x y z e2 e3 : Int) (w : World)
    (C4 : ∀ W : World, Calls Try.prog 7 #[.agg #[.int .i64 px, .int .i64 py], .agg #[.int .i64 ax, .int .i64 ay], .int .i64 r, .int .i64 n] W fun e w' => e = .returned (.tuple #[.int .i64 x, .int .i64 e2]) ∧ Below W.heap.size W w')
    (C5 : ∀ W : World, Calls Try.prog 8 #[.agg #[.int .i64 px, .int .i64 py], .agg #[.int .i64 ax, .int .i64 ay], .agg #[.int .i64 bx, .int .i64 by_], .int .i64 r, .int .i64 n] W fun e w' => e = .returned (.tuple #[.int .i64 y, .int .i64 e3]) ∧ Below W.heap.size W w')
    (C6 : ∀ W : World, Calls Try.prog 9 #[.agg #[.int .i64 px, .int .i64 py], .agg #[.int .i64 ax, .int .i64 ay], .agg #[.int .i64 bx, .int .i64 by_], .int .i64 r, .int .i64 n] W fun e w' => e = .returned (.tuple #[.int .i64 z, .int .i64 e3]) ∧ Below W.heap.size W w')
    (A2 : ∀ (W : World) (g : Nat), Prow W g [(px, py), (ax, ay)] → Calls Try.prog 10 #[.slice (some ⟨g, 0, none⟩) 2 2, .int .i64 r, .int .i64 n] W fun e w' => e = .returned (.int .i64 e2) ∧ Below W.heap.size W w')
    (A3 : ∀ (W : World) (g : Nat), Prow W g [(px, py), (ax, ay), (bx, by_)] → Calls Try.prog 10 #[.slice (some ⟨g, 0, none⟩) 3 3, .int .i64 r, .int .i64 n] W fun e w' => e = .returned (.int .i64 e3) ∧ Below W.heap.size W w')
    (K : (e2 = 0 ∧ e3 = 0) ∨ (e2 = 0 ∧ e3 = 1 ∧ y = 0 ∧ z = 0) ∨ (e2 = 1 ∧ e3 = 1 ∧ x = 0 ∧ y = 0 ∧ z = 0))
    (D2 : e2 = 0 → ∀ W : World, Calls Try.prog 11 #[.agg #[.int .i64 px, .int .i64 py], .agg #[.int .i64 ax, .int .i64 ay], .int .i64 r, .int .i64 n] W fun e w' => e = .returned (.int .i64 x) ∧ Below W.heap.size W w')
    (D3 : e3 = 0 → ∀ W : World, Calls Try.prog 12 #[.agg #[.int .i64 px, .int .i64 py], .agg #[.int .i64 ax, .int .i64 ay], .agg #[.int .i64 bx, .int .i64 by_], .int .i64 r, .int .i64 n] W fun e w' => e = .returned (.int .i64 y) ∧ Below W.heap.size W w')
    (D4 : e3 = 0 → ∀ W : World, Calls Try.prog 13 #[.agg #[.int .i64 px, .int .i64 py], .agg #[.int .i64 ax, .int .i64 ay], .agg #[.int .i64 bx, .int .i64 by_], .int .i64 r, .int .i64 n] W fun e w' => e = .returned (.int .i64 z) ∧ Below W.heap.size W w') :
    Calls Try.prog 3 #[.agg #[.int .i64 px, .int .i64 py, .int .i64 ax, .int .i64 ay, .int .i64 bx, .int .i64 by_], .int .i64 r, .int .i64 n] w fun e w' => e = .returned (.bool true) ∧ Below w.heap.size w w' := by
  have CA := Lib.hid (fun W => awake19_any W)
  have HC4 := Lib.hid C4
  have HC5 := Lib.hid C5
  have HC6 := Lib.hid C6
  have HA2 := Lib.hid A2
  have HA3 := Lib.hid A3
  have HK := Lib.hid K
  have HD2 := Lib.hid D2
  have HD3 := Lib.hid D3
  have HD4 := Lib.hid D4
  have hA : Below w.heap.size w (w.alloc (.cells #[.int .i64 px, .int .i64 py, .int .i64 ax, .int .i64 ay, .int .i64 bx, .int .i64 by_] 24)) := (Below.refl _ _).alloc (Nat.le_refl _) _
  have HG := Lib.hid (And.intro hA (heap_alloc_new w (.cells #[.int .i64 px, .int .i64 py, .int .i64 ax, .int .i64 ay, .int .i64 bx, .int .i64 by_] 24)))
  clear C4 C5 C6 A2 A3 K D2 D3 D4 hA
  go_enter Try.func3, Try.ntmps3
  go_upto_region 3 with (go_at_call 6; (with_reducible refine (CA.out _).mono ?_); rintro e w1 ⟨rfl, hb⟩; have HG1 := Lib.hid (And.intro (HG.out.1.trans (hb.mono HG.out.1.size)) (row_bel hb HG.out.2)); clear hb)
  have a0 : w1.cell? ⟨w.heap.size, 0, none⟩ = some (.int .i64 px) := cell_of_row w1 _ 0 _ 24 (0, 0) HG1.out.2
  have a1 : w1.cell? ⟨w.heap.size, 1, none⟩ = some (.int .i64 py) := cell_of_row w1 _ 1 _ 24 (0, 0) HG1.out.2
  have a2 : w1.cell? ⟨w.heap.size, 2, none⟩ = some (.int .i64 ax) := cell_of_row w1 _ 2 _ 24 (0, 0) HG1.out.2
  have a3 : w1.cell? ⟨w.heap.size, 3, none⟩ = some (.int .i64 ay) := cell_of_row w1 _ 3 _ 24 (0, 0) HG1.out.2
  have a4 : w1.cell? ⟨w.heap.size, 4, none⟩ = some (.int .i64 bx) := cell_of_row w1 _ 4 _ 24 (0, 0) HG1.out.2
  have a5 : w1.cell? ⟨w.heap.size, 5, none⟩ = some (.int .i64 by_) := cell_of_row w1 _ 5 _ 24 (0, 0) HG1.out.2
  have hZ : ∀ o1 o2 o3, Below w1.heap.size w1 (((w1.alloc o1).alloc o2).alloc o3).drew := fun o1 o2 o3 => Below.drew ((((Below.refl _ _).alloc (Nat.le_refl _) o1).alloc (by simp) o2).alloc (by simp; omega) o3)
  have hX : ∀ o1 o2, Below w1.heap.size w1 ((w1.alloc o1).alloc o2).drew := fun o1 o2 => Below.drew (((Below.refl _ _).alloc (Nat.le_refl _) o1).alloc (by simp) o2)
  have hY : ∀ o1, Below w1.heap.size w1 (w1.alloc o1).drew := fun o1 => Below.drew ((Below.refl _ _).alloc (Nat.le_refl _) o1)
  have a0z := fun o1 o2 o3 => ((hZ o1 o2 o3).cell (World.block_lt_of_cell? _ _ a0)).trans a0
  have a0x := fun o1 o2 => ((hX o1 o2).cell (World.block_lt_of_cell? _ _ a0)).trans a0
  have a0y := fun o1 => ((hY o1).cell (World.block_lt_of_cell? _ _ a0)).trans a0
  have a1z := fun o1 o2 o3 => ((hZ o1 o2 o3).cell (World.block_lt_of_cell? _ _ a1)).trans a1
  have a1x := fun o1 o2 => ((hX o1 o2).cell (World.block_lt_of_cell? _ _ a1)).trans a1
  have a1y := fun o1 => ((hY o1).cell (World.block_lt_of_cell? _ _ a1)).trans a1
  have a2z := fun o1 o2 o3 => ((hZ o1 o2 o3).cell (World.block_lt_of_cell? _ _ a2)).trans a2
  have a2x := fun o1 o2 => ((hX o1 o2).cell (World.block_lt_of_cell? _ _ a2)).trans a2
  have a2y := fun o1 => ((hY o1).cell (World.block_lt_of_cell? _ _ a2)).trans a2
  have a3z := fun o1 o2 o3 => ((hZ o1 o2 o3).cell (World.block_lt_of_cell? _ _ a3)).trans a3
  have a3x := fun o1 o2 => ((hX o1 o2).cell (World.block_lt_of_cell? _ _ a3)).trans a3
  have a3y := fun o1 => ((hY o1).cell (World.block_lt_of_cell? _ _ a3)).trans a3
  have a4z := fun o1 o2 o3 => ((hZ o1 o2 o3).cell (World.block_lt_of_cell? _ _ a4)).trans a4
  have a4x := fun o1 o2 => ((hX o1 o2).cell (World.block_lt_of_cell? _ _ a4)).trans a4
  have a4y := fun o1 => ((hY o1).cell (World.block_lt_of_cell? _ _ a4)).trans a4
  have a5z := fun o1 o2 o3 => ((hZ o1 o2 o3).cell (World.block_lt_of_cell? _ _ a5)).trans a5
  have a5x := fun o1 o2 => ((hX o1 o2).cell (World.block_lt_of_cell? _ _ a5)).trans a5
  have a5y := fun o1 => ((hY o1).cell (World.block_lt_of_cell? _ _ a5)).trans a5
  clear hZ hX hY
  go_cut [7, 8, 9] from 18 to 130 (fun v7 v8 v9 wx => ∃ b7 b8 b9, v7 = .pointer (some ⟨b7, 0, none⟩) ∧ v8 = .pointer (some ⟨b8, 0, none⟩) ∧ v9 = .pointer (some ⟨b9, 0, none⟩) ∧ LvS w wx b7 b8 b9 (px, py) (ax, ay) (bx, by_))
  case first =>
    go_region
    all_goals
      go_wp2_with fail
      go_meet
      first
        | (have t := three_b w1 (px, py) (ax, ay) (bx, by_); exact ⟨_, _, _, rfl, rfl, rfl, ⟨HG1.out.1.trans (t.bel.mono HG1.out.1.size), t.h7, t.h8, t.h9⟩⟩)
        | (have t := three_b w1 (px, py) (bx, by_) (ax, ay); exact ⟨_, _, _, rfl, rfl, rfl, ⟨HG1.out.1.trans (t.bel.mono HG1.out.1.size), t.h7, t.h9, t.h8⟩⟩)
        | (have t := three_b w1 (ax, ay) (px, py) (bx, by_); exact ⟨_, _, _, rfl, rfl, rfl, ⟨HG1.out.1.trans (t.bel.mono HG1.out.1.size), t.h8, t.h7, t.h9⟩⟩)
        | (have t := three_b w1 (ax, ay) (bx, by_) (px, py); exact ⟨_, _, _, rfl, rfl, rfl, ⟨HG1.out.1.trans (t.bel.mono HG1.out.1.size), t.h9, t.h7, t.h8⟩⟩)
        | (have t := three_b w1 (bx, by_) (px, py) (ax, ay); exact ⟨_, _, _, rfl, rfl, rfl, ⟨HG1.out.1.trans (t.bel.mono HG1.out.1.size), t.h8, t.h9, t.h7⟩⟩)
        | (have t := three_b w1 (bx, by_) (ax, ay) (px, py); exact ⟨_, _, _, rfl, rfl, rfl, ⟨HG1.out.1.trans (t.bel.mono HG1.out.1.size), t.h9, t.h8, t.h7⟩⟩)
  case rest =>
  obtain ⟨b7, b8, b9, rfl, rfl, rfl, hS⟩ := hcut
  have Q0 := Lib.hid hS
  obtain ⟨k0, k1, k2, k3, k4, k5⟩ := hS.cells
  dsimp only at k0 k1 k2 k3 k4 k5
  clear hS a0 a0x a0y a0z a1 a1x a1y a1z a2 a2x a2y a2z a3 a3x a3y a3z a4 a4x a4y a4z a5 a5x a5y a5z HG1 CA HG
  go_upto_region 7 with (first
    | (go_at_call 7; (with_reducible refine (HC4.out _).mono ?_); rintro e x1 ⟨rfl, hb⟩; have Q1 := Lib.hid (Q0.out.next hb); clear hb; (try clear k0 k1 k2 k3 k4 k5); obtain ⟨k0, k1, k2, k3, k4, k5⟩ := Q1.out.cells; dsimp only at k0 k1 k2 k3 k4 k5)
    | (go_at_call 8; (with_reducible refine (HC5.out _).mono ?_); rintro e x2 ⟨rfl, hb⟩; have Q2 := Lib.hid (Q1.out.next hb); clear hb; (try clear k0 k1 k2 k3 k4 k5); obtain ⟨k0, k1, k2, k3, k4, k5⟩ := Q2.out.cells; dsimp only at k0 k1 k2 k3 k4 k5)
    | (go_at_call 9; (with_reducible refine (HC6.out _).mono ?_); rintro e x3 ⟨rfl, hb⟩; have Q3 := Lib.hid (Q2.out.next hb); clear hb; (try clear k0 k1 k2 k3 k4 k5); obtain ⟨k0, k1, k2, k3, k4, k5⟩ := Q3.out.cells; dsimp only at k0 k1 k2 k3 k4 k5))
  clear HC4 HC5 HC6
  go_cut [16, 17] from 18 to 130 (fun v16 v17 wx => v16 = .int .i64 e2 ∧ v17 = .int .i64 e3 ∧ LvS w wx b7 b8 b9 (px, py) (ax, ay) (bx, by_))
  case first =>
    go_region_held3 (fun w' => w'.cell? ⟨b7, 0, none⟩ = some (.int .i64 px) ∧ w'.cell? ⟨b7, 1, none⟩ = some (.int .i64 py) ∧ w'.cell? ⟨b8, 0, none⟩ = some (.int .i64 ax) ∧ w'.cell? ⟨b8, 1, none⟩ = some (.int .i64 ay) ∧ w'.cell? ⟨b9, 0, none⟩ = some (.int .i64 bx) ∧ w'.cell? ⟨b9, 1, none⟩ = some (.int .i64 by_) ∧ LvS w w' b7 b8 b9 (px, py) (ax, ay) (bx, by_))
      (first | exact Q3.out.drew.full | exact fv_alloc (p := (px, py)) (a := (ax, ay)) (b := (bx, by_)) (by assumption) | exact fv_allocD (p := (px, py)) (a := (ax, ay)) (b := (bx, by_)) (by assumption) | exact fv_bel (p := (px, py)) (a := (ax, ay)) (b := (bx, by_)) (by assumption) (by assumption))
      (first
        | (go_at_call 10; (with_reducible refine (HA2.out _ _ ?_).mono ?_); (focus (show (World.heap _)[_]? = some (Obj.cells #[.int .i64 px, .int .i64 py, .int .i64 ax, .int .i64 ay] 23); (repeat' (first | with_reducible exact row_n0 _ _ | with_reducible exact row_n1 _ _ _ | with_reducible exact row_n2 _ _ _ _ | with_reducible refine row_drew ?_ | with_reducible refine row_drewN ?_ | with_reducible refine row_bel (by assumption) ?_ | with_reducible refine row_old ?_)); done)); rintro e v2 ⟨rfl, hb2⟩)
        | (go_at_call 10; (with_reducible refine (HA3.out _ _ ?_).mono ?_); (focus (show (World.heap _)[_]? = some (Obj.cells #[.int .i64 px, .int .i64 py, .int .i64 ax, .int .i64 ay, .int .i64 bx, .int .i64 by_] 23); (repeat' (first | with_reducible exact row_n0 _ _ | with_reducible exact row_n1 _ _ _ | with_reducible exact row_n2 _ _ _ _ | with_reducible refine row_drew ?_ | with_reducible refine row_drewN ?_ | with_reducible refine row_bel (by assumption) ?_ | with_reducible refine row_old ?_)); done)); rintro e v3 ⟨rfl, hb3⟩))
    all_goals
      go_wp2_with fail
      go_meet
      exact ⟨rfl, rfl, fv_lv (p := (px, py)) (a := (ax, ay)) (b := (bx, by_)) (by assumption)⟩
  case rest =>
  obtain ⟨rfl, rfl, hS⟩ := hcut
  have Q4 := Lib.hid hS
  clear hS HA2 HA3 k0 k1 k2 k3 k4 k5
  obtain ⟨k0, k1, k2, k3, k4, k5⟩ := Q4.out.cells
  dsimp only at k0 k1 k2 k3 k4 k5
  have f2 : (e2 != e2) = false := by simp
  have f3 : (e3 != e3) = false := by simp
  have fx : (x != x) = false := by simp
  have fy : (y == y) = true := by simp
  have fz : (z == z) = true := by simp
  rcases HK.out with ⟨rfl, rfl⟩ | ⟨rfl, rfl, rfl, rfl⟩ | ⟨rfl, rfl, rfl, rfl, rfl⟩
  · have D2 := Lib.hid (HD2.out rfl)
    have D3 := Lib.hid (HD3.out rfl)
    have D4 := Lib.hid (HD4.out rfl)
    clear HK HD2 HD3 HD4
    go_wp2_with (first
      | (go_at_call 11; (with_reducible refine (D2.out _).mono ?_); rintro e x5 ⟨rfl, hb⟩; have Q5 := Lib.hid (Q4.out.next hb); clear hb; (try clear k0 k1 k2 k3 k4 k5); obtain ⟨k0, k1, k2, k3, k4, k5⟩ := Q5.out.cells; dsimp only at k0 k1 k2 k3 k4 k5)
      | (go_at_call 12; (with_reducible refine (D3.out _).mono ?_); rintro e x6 ⟨rfl, hb⟩; have Q6 := Lib.hid (Q5.out.next hb); clear hb; (try clear k0 k1 k2 k3 k4 k5); obtain ⟨k0, k1, k2, k3, k4, k5⟩ := Q6.out.cells; dsimp only at k0 k1 k2 k3 k4 k5)
      | (go_at_call 13; (with_reducible refine (D4.out _).mono ?_); rintro e x7 ⟨rfl, hb⟩; have Q7 := Lib.hid (Q6.out.next hb); clear hb; (try clear k0 k1 k2 k3 k4 k5); obtain ⟨k0, k1, k2, k3, k4, k5⟩ := Q7.out.cells; dsimp only at k0 k1 k2 k3 k4 k5))
    go_ret
    exact ⟨rfl, Q7.out.bel⟩
  · have D2 := Lib.hid (HD2.out rfl)
    clear HK HD2 HD3 HD4
    go_wp2_with (go_at_call 11; (with_reducible refine (D2.out _).mono ?_); rintro e x5 ⟨rfl, hb⟩; have Q5 := Lib.hid (Q4.out.next hb); clear hb; (try clear k0 k1 k2 k3 k4 k5); obtain ⟨k0, k1, k2, k3, k4, k5⟩ := Q5.out.cells; dsimp only at k0 k1 k2 k3 k4 k5)
    go_ret
    exact ⟨rfl, Q5.out.bel⟩
  · clear HK HD2 HD3 HD4
    go_wp2_with fail
    go_ret
    exact ⟨rfl, Q4.out.bel⟩
end Go.Proofs.Ytmbpehhbfbmacaa
