/- Proved here: awake answers true; what the law PlaneMeets answers, over memory. No condition. -/
import Derived.Test.YtiififjbljiggaaPPf
namespace Go.Proofs.Ytiififjbljiggaa
open Go.RowKit

set_option maxHeartbeats 4000000 in
set_option maxRecDepth 100000 in
theorem awake_any (w : World) : Calls Try.prog 6 #[] w fun e w' => e = .returned (.bool true) ∧ Below w.heap.size w w' := by
  have C1 := Lib.hid (fun W => show Calls Try.prog 9 #[.agg #[.int .i64 0, .int .i64 0], .agg #[.int .i64 5, .int .i64 0], .agg #[.int .i64 0, .int .i64 5]] W fun e w' => e = .returned (.tuple #[.int .i64 1, .int .i64 0]) ∧ Below W.heap.size W w' from pturn_any 0 0 5 0 0 5 W)
  have C2 := Lib.hid (fun W => show Calls Try.prog 11 #[.agg #[.int .i64 0, .int .i64 0], .agg #[.int .i64 3, .int .i64 4]] W fun e w' => e = .returned (.tuple #[.int .i64 25, .int .i64 0]) ∧ Below W.heap.size W w' from pfar_any 0 0 3 4 W)
  have C3 := Lib.hid (fun W => show Calls Try.prog 11 #[.agg #[.int .i64 0, .int .i64 0], .agg #[.int .i64 33554433, .int .i64 0]] W fun e w' => e = .returned (.tuple #[.int .i64 0, .int .i64 1]) ∧ Below W.heap.size W w' from pfar_any 0 0 33554433 0 W)
  have C4 := Lib.hid (fun W => show Calls Try.prog 14 #[.agg #[.int .i64 33554432, .int .i64 0]] W fun e w' => e = .returned (.bool true) ∧ Below W.heap.size W w' from pmay_any 33554432 0 W)
  go_enter Try.func6, Try.ntmps6
  go_wp2_with (first
    | (go_at_call 9; (with_reducible refine (C1.out _).mono ?_); rintro e w1 ⟨rfl, hb⟩; have B1 := Lib.hid hb; clear hb C1)
    | (go_at_call 11; (with_reducible refine (C2.out _).mono ?_); rintro e w2 ⟨rfl, hb⟩; have B2 := Lib.hid (B1.out.trans (hb.mono B1.out.size)); clear hb C2)
    | (go_at_call 11; (with_reducible refine (C3.out _).mono ?_); rintro e w3 ⟨rfl, hb⟩; have B3 := Lib.hid (B2.out.trans (hb.mono B2.out.size)); clear hb C3)
    | (go_at_call 14; (with_reducible refine (C4.out _).mono ?_); rintro e w4 ⟨rfl, hb⟩; have B4 := Lib.hid (B3.out.trans (hb.mono B3.out.size)); clear hb C4))
  go_ret
  exact ⟨rfl, B4.out⟩
/-- The arguments' boxes, and those of the two further points. -/
structure LwS (w W : World) (b7 b8 : Nat) (a b c d : P2) : Prop where
  bel : Below w.heap.size w W
  h0 : Pbx W w.heap.size a
  h1 : Pbx W (w.heap.size + 1) b
  h2 : Pbx W b7 c
  h3 : Pbx W b8 d
section
variable {w W W' : World} {b7 b8 : Nat} {a b c d : P2}
theorem LwS.next (h : LwS w W b7 b8 a b c d) (hb : Below W.heap.size W W') : LwS w W' b7 b8 a b c d := ⟨h.bel.trans (hb.mono h.bel.size), h.h0.bel hb, h.h1.bel hb, h.h2.bel hb, h.h3.bel hb⟩
theorem LwS.drew (h : LwS w W b7 b8 a b c d) : LwS w W.drew b7 b8 a b c d := h.next (Below.drew (Below.refl _ _))
theorem LwS.cells (h : LwS w W b7 b8 a b c d) : W.cell? ⟨w.heap.size, 0, none⟩ = some (.int .i64 a.1) ∧ W.cell? ⟨w.heap.size, 1, none⟩ = some (.int .i64 a.2) ∧ W.cell? ⟨w.heap.size + 1, 0, none⟩ = some (.int .i64 b.1) ∧ W.cell? ⟨w.heap.size + 1, 1, none⟩ = some (.int .i64 b.2)
    ∧ W.cell? ⟨b7, 0, none⟩ = some (.int .i64 c.1) ∧ W.cell? ⟨b7, 1, none⟩ = some (.int .i64 c.2) ∧ W.cell? ⟨b8, 0, none⟩ = some (.int .i64 d.1) ∧ W.cell? ⟨b8, 1, none⟩ = some (.int .i64 d.2) :=
  ⟨h.h0.cells.1, h.h0.cells.2.1, h.h1.cells.1, h.h1.cells.2.1, h.h2.cells.1, h.h2.cells.2.1, h.h3.cells.1, h.h3.cells.2.1⟩
end
theorem two_b (w : World) (p q : P2) : Pbx ((w.alloc (.cells #[.int .i64 p.1, .int .i64 p.2] 23)).alloc (.cells #[.int .i64 q.1, .int .i64 q.2] 23)).drew w.heap.size p ∧ Pbx ((w.alloc (.cells #[.int .i64 p.1, .int .i64 p.2] 23)).alloc (.cells #[.int .i64 q.1, .int .i64 q.2] 23)).drew (w.heap.size + 1) q ∧ Below w.heap.size w ((w.alloc (.cells #[.int .i64 p.1, .int .i64 p.2] 23)).alloc (.cells #[.int .i64 q.1, .int .i64 q.2] 23)).drew := by
  refine ⟨((Pbx.new w p).bel ((Below.refl _ _).alloc (Nat.le_refl _) _)).bel (Below.drew (Below.refl _ _)), ?_, Below.drew (((Below.refl _ _).alloc (Nat.le_refl _) _).alloc (by simp) _)⟩
  have h := (Pbx.new (w.alloc (.cells #[.int .i64 p.1, .int .i64 p.2] 23)) q).bel (Below.drew (Below.refl _ _))
  rw [size_a] at h
  exact h
/-- The boxes of the arguments, the last one an array of two points. -/
structure AgS (w W : World) (a b c d : P2) : Prop where
  bel : Below w.heap.size w W
  h0 : Pbx W w.heap.size a
  h1 : Pbx W (w.heap.size + 1) b
  h2 : W.heap[w.heap.size + 1 + 1]? = some (.cells #[.int .i64 c.1, .int .i64 c.2, .int .i64 d.1, .int .i64 d.2] 24 (0, 0))
theorem AgS.next {w W W' : World} {a b c d : P2} (h : AgS w W a b c d) (hb : Below W.heap.size W W') : AgS w W' a b c d := ⟨h.bel.trans (hb.mono h.bel.size), h.h0.bel hb, h.h1.bel hb, (hb.block _ (heap_lt h.h2)).trans h.h2⟩
theorem AgS.new (w : World) (ax ay bx by_ cx cy dx dy : Int) : AgS w (((w.alloc (.cells #[.int .i64 ax, .int .i64 ay] 23)).alloc (.cells #[.int .i64 bx, .int .i64 by_] 23)).alloc (.cells #[.int .i64 cx, .int .i64 cy, .int .i64 dx, .int .i64 dy] 24)) (ax, ay) (bx, by_) (cx, cy) (dx, dy) := by
  obtain ⟨w1, e1⟩ : ∃ W, W = w.alloc (.cells #[.int .i64 ax, .int .i64 ay] 23) := ⟨_, rfl⟩
  obtain ⟨w2, e2⟩ : ∃ W, W = w1.alloc (.cells #[.int .i64 bx, .int .i64 by_] 23) := ⟨_, rfl⟩
  have s1 : w1.heap.size = w.heap.size + 1 := by rw [e1]; simp
  have s2 : w2.heap.size = w.heap.size + 1 + 1 := by rw [e2]; simp [s1]
  have g0 : Pbx w1 w.heap.size (ax, ay) := by rw [e1]; exact Pbx.new w (ax, ay)
  have g1 : Pbx w2 (w.heap.size + 1) (bx, by_) := by rw [e2, ← s1]; exact Pbx.new w1 (bx, by_)
  have b1 : Below w.heap.size w w1 := by rw [e1]; exact (Below.refl _ _).alloc (Nat.le_refl _) _
  have b2 : Below w1.heap.size w1 w2 := by rw [e2]; exact (Below.refl _ _).alloc (Nat.le_refl _) _
  rw [← e1, ← e2]
  have b3 : Below w2.heap.size w2 (w2.alloc (.cells #[.int .i64 cx, .int .i64 cy, .int .i64 dx, .int .i64 dy] 24)) := (Below.refl _ _).alloc (Nat.le_refl _) _
  refine ⟨(b1.trans (b2.mono (by omega))).trans (b3.mono (by omega)), (g0.bel b2).bel b3, g1.bel b3, ?_⟩
  rw [← s2]
  exact heap_alloc_new w2 _
theorem AgS.cells {w W : World} {a b c d : P2} (h : AgS w W a b c d) : W.cell? ⟨w.heap.size + 1 + 1, 0, none⟩ = some (.int .i64 c.1) ∧ W.cell? ⟨w.heap.size + 1 + 1, 1, none⟩ = some (.int .i64 c.2) ∧ W.cell? ⟨w.heap.size + 1 + 1, 2, none⟩ = some (.int .i64 d.1) ∧ W.cell? ⟨w.heap.size + 1 + 1, 3, none⟩ = some (.int .i64 d.2) :=
  ⟨cell_of_row W _ 0 _ 24 (0, 0) h.h2, cell_of_row W _ 1 _ 24 (0, 0) h.h2, cell_of_row W _ 2 _ 24 (0, 0) h.h2, cell_of_row W _ 3 _ 24 (0, 0) h.h2⟩
set_option maxHeartbeats 8000000 in
set_option maxRecDepth 100000 in
theorem law_meets (ax ay bx by_ cx cy dx dy : Int) (w : World) : Calls Try.prog 5 #[.agg #[.int .i64 ax, .int .i64 ay], .agg #[.int .i64 bx, .int .i64 by_], .agg #[.int .i64 cx, .int .i64 cy, .int .i64 dx, .int .i64 dy]] w fun e w' => e = .returned (.bool true) ∧ Below w.heap.size w w' := by
  have CA := Lib.hid (fun W => awake_any W)
  have CK := Lib.hid (fun W => show Calls Try.prog 13 #[.slice (some ⟨W.heap.size, 0, none⟩) 4 4] (W.alloc (.cells #[.int .i64 ax, .int .i64 ay, .int .i64 bx, .int .i64 by_, .int .i64 cx, .int .i64 cy, .int .i64 dx, .int .i64 dy] 23)) fun e w' => e = .returned (.int .i64 (if ok4 (ax, ay) (bx, by_) (cx, cy) (dx, dy) then 0 else 1)) ∧ Below W.heap.size W w' from by
    have h := asked_any W.heap.size 4 4 [(ax, ay), (bx, by_), (cx, cy), (dx, dy)] (W.alloc (.cells #[.int .i64 ax, .int .i64 ay, .int .i64 bx, .int .i64 by_, .int .i64 cx, .int .i64 cy, .int .i64 dx, .int .i64 dy] 23)) (heap_alloc_new W _) rfl (by omega)
    rw [ask4] at h
    exact h.mono fun e w' ⟨h1, h2⟩ => ⟨h1, ((Below.refl _ _).alloc (Nat.le_refl _) _).trans (h2.mono (by simp))⟩)
  by_cases hk : ok4 (ax, ay) (bx, by_) (cx, cy) (dx, dy)
  rotate_left
  · rw [if_neg hk] at CK
    clear hk
    have HA := Lib.hid (AgS.new w ax ay bx by_ cx cy dx dy)
    go_enter Try.func5, Try.ntmps5
    go_upto_region 3 with (go_at_call 6; (with_reducible refine (CA.out _).mono ?_); rintro e w1 ⟨rfl, hb⟩; have HA1 := Lib.hid (HA.out.next hb); clear hb)
    obtain ⟨a0, a1, a2, a3⟩ := HA1.out.cells
    dsimp only at a0 a1 a2 a3
    have hZ : ∀ o1 o2, Below w1.heap.size w1 ((w1.alloc o1).alloc o2).drew := fun o1 o2 => Below.drew (((Below.refl _ _).alloc (Nat.le_refl _) o1).alloc (by simp) o2)
    have hY : ∀ o1, Below w1.heap.size w1 (w1.alloc o1).drew := fun o1 => Below.drew ((Below.refl _ _).alloc (Nat.le_refl _) o1)
    have a0z := fun o1 o2 => ((hZ o1 o2).cell (World.block_lt_of_cell? _ _ a0)).trans a0
    have a0y := fun o1 => ((hY o1).cell (World.block_lt_of_cell? _ _ a0)).trans a0
    have a1z := fun o1 o2 => ((hZ o1 o2).cell (World.block_lt_of_cell? _ _ a1)).trans a1
    have a1y := fun o1 => ((hY o1).cell (World.block_lt_of_cell? _ _ a1)).trans a1
    have a2z := fun o1 o2 => ((hZ o1 o2).cell (World.block_lt_of_cell? _ _ a2)).trans a2
    have a2y := fun o1 => ((hY o1).cell (World.block_lt_of_cell? _ _ a2)).trans a2
    have a3z := fun o1 o2 => ((hZ o1 o2).cell (World.block_lt_of_cell? _ _ a3)).trans a3
    have a3y := fun o1 => ((hY o1).cell (World.block_lt_of_cell? _ _ a3)).trans a3
    clear hZ hY
    go_cut [7, 8] from 17 to 86 (fun v7 v8 wx => ∃ b7 b8, v7 = .pointer (some ⟨b7, 0, none⟩) ∧ v8 = .pointer (some ⟨b8, 0, none⟩) ∧ LwS w wx b7 b8 (ax, ay) (bx, by_) (cx, cy) (dx, dy))
    case first =>
      go_region
      · go_wp2_with fail
        go_meet
        obtain ⟨t1, t2, t3⟩ := two_b w1 (cx, cy) (dx, dy)
        exact ⟨_, _, rfl, rfl, ⟨HA1.out.bel.trans (t3.mono HA1.out.bel.size), HA1.out.h0.bel t3, HA1.out.h1.bel t3, t1, t2⟩⟩
      · go_wp2_with fail
        go_meet
        obtain ⟨t1, t2, t3⟩ := two_b w1 (dx, dy) (cx, cy)
        exact ⟨_, _, rfl, rfl, ⟨HA1.out.bel.trans (t3.mono HA1.out.bel.size), HA1.out.h0.bel t3, HA1.out.h1.bel t3, t2, t1⟩⟩
    case rest =>
    obtain ⟨b7, b8, rfl, rfl, hS⟩ := hcut
    have Q0 := Lib.hid hS
    obtain ⟨k0, k1, k2, k3, k4, k5, k6, k7⟩ := hS.cells
    dsimp only at k0 k1 k2 k3 k4 k5 k6 k7
    clear hS a0 a1 a2 a3 a0z a1z a2z a3z a0y a1y a2y a3y HA1 CA
    go_wp2_with (go_at_call 13; (with_reducible refine (CK.out _).mono ?_); rintro e w2 ⟨rfl, hb⟩; have Q1 := Lib.hid (Q0.out.next hb); clear hb k0 k1 k2 k3 k4 k5 k6 k7; obtain ⟨k0, k1, k2, k3, k4, k5, k6, k7⟩ := Q1.out.cells; dsimp only at k0 k1 k2 k3 k4 k5 k6 k7)
    go_ret
    exact ⟨rfl, Q1.out.bel⟩
  rw [if_pos hk] at CK
  have M1 := Lib.hid (fun W => show Calls Try.prog 12 #[.agg #[.int .i64 ax, .int .i64 ay], .agg #[.int .i64 bx, .int .i64 by_], .agg #[.int .i64 cx, .int .i64 cy], .agg #[.int .i64 dx, .int .i64 dy]] W fun e w' => e = .returned (.tuple #[.bool (decide (Mt (ax, ay) (bx, by_) (cx, cy) (dx, dy))), .int .i64 0]) ∧ Below W.heap.size W w' from by
    have h := pmeet_any ax ay bx by_ cx cy dx dy W
    rw [show meetA (ax, ay) (bx, by_) (cx, cy) (dx, dy) = (decide (Mt (ax, ay) (bx, by_) (cx, cy) (dx, dy)), 0) from by unfold meetA; rw [if_pos (show ok4 (ax, ay) (bx, by_) (cx, cy) (dx, dy) from hk)]] at h
    exact h)
  have M2 := Lib.hid (fun W => show Calls Try.prog 12 #[.agg #[.int .i64 dx, .int .i64 dy], .agg #[.int .i64 cx, .int .i64 cy], .agg #[.int .i64 ax, .int .i64 ay], .agg #[.int .i64 bx, .int .i64 by_]] W fun e w' => e = .returned (.tuple #[.bool (decide (Mt (ax, ay) (bx, by_) (cx, cy) (dx, dy))), .int .i64 0]) ∧ Below W.heap.size W w' from by
    have h := pmeet_any dx dy cx cy ax ay bx by_ W
    rw [show meetA (dx, dy) (cx, cy) (ax, ay) (bx, by_) = (decide (Mt (ax, ay) (bx, by_) (cx, cy) (dx, dy)), 0) from by unfold meetA; rw [if_pos (show ok4 (dx, dy) (cx, cy) (ax, ay) (bx, by_) from ⟨hk.2.2.2, hk.2.2.1, hk.1, hk.2.1⟩)]; exact congrArg (fun b => (b, (0 : Int))) (decide_eq_decide.2 (mt_rev (ax, ay) (bx, by_) (cx, cy) (dx, dy)))] at h
    exact h)
  have M3 := Lib.hid (fun W => show Calls Try.prog 12 #[.agg #[.int .i64 ax, .int .i64 ay], .agg #[.int .i64 bx, .int .i64 by_], .agg #[.int .i64 bx, .int .i64 by_], .agg #[.int .i64 ax, .int .i64 ay]] W fun e w' => e = .returned (.tuple #[.bool (true), .int .i64 0]) ∧ Below W.heap.size W w' from by
    have h := pmeet_any ax ay bx by_ bx by_ ax ay W
    rw [show meetA (ax, ay) (bx, by_) (bx, by_) (ax, ay) = (true, 0) from by unfold meetA; rw [if_pos (show ok4 (ax, ay) (bx, by_) (bx, by_) (ax, ay) from ⟨hk.1, hk.2.1, hk.2.1, hk.1⟩)]; exact congrArg (fun b => (b, (0 : Int))) (decide_eq_true (mt_self (ax, ay) (bx, by_)))] at h
    exact h)
  have M4 := Lib.hid (fun W => show Calls Try.prog 12 #[.agg #[.int .i64 ax, .int .i64 ay], .agg #[.int .i64 bx, .int .i64 by_], .agg #[.int .i64 bx, .int .i64 by_], .agg #[.int .i64 cx, .int .i64 cy]] W fun e w' => e = .returned (.tuple #[.bool (true), .int .i64 0]) ∧ Below W.heap.size W w' from by
    have h := pmeet_any ax ay bx by_ bx by_ cx cy W
    rw [show meetA (ax, ay) (bx, by_) (bx, by_) (cx, cy) = (true, 0) from by unfold meetA; rw [if_pos (show ok4 (ax, ay) (bx, by_) (bx, by_) (cx, cy) from ⟨hk.1, hk.2.1, hk.2.1, hk.2.2.1⟩)]; exact congrArg (fun b => (b, (0 : Int))) (decide_eq_true (mt_end (ax, ay) (bx, by_) (cx, cy)))] at h
    exact h)
  obtain ⟨r, hr⟩ : ∃ r, r = decide (Mt (ax, ay) (bx, by_) (cx, cy) (dx, dy)) := ⟨_, rfl⟩
  rw [← hr] at M1 M2
  have er : (r == r) = true := by simp
  clear hk hr
  have HA := Lib.hid (AgS.new w ax ay bx by_ cx cy dx dy)
  go_enter Try.func5, Try.ntmps5
  go_upto_region 3 with (go_at_call 6; (with_reducible refine (CA.out _).mono ?_); rintro e w1 ⟨rfl, hb⟩; have HA1 := Lib.hid (HA.out.next hb); clear hb)
  obtain ⟨a0, a1, a2, a3⟩ := HA1.out.cells
  dsimp only at a0 a1 a2 a3
  have hZ : ∀ o1 o2, Below w1.heap.size w1 ((w1.alloc o1).alloc o2).drew := fun o1 o2 => Below.drew (((Below.refl _ _).alloc (Nat.le_refl _) o1).alloc (by simp) o2)
  have hY : ∀ o1, Below w1.heap.size w1 (w1.alloc o1).drew := fun o1 => Below.drew ((Below.refl _ _).alloc (Nat.le_refl _) o1)
  have a0z := fun o1 o2 => ((hZ o1 o2).cell (World.block_lt_of_cell? _ _ a0)).trans a0
  have a0y := fun o1 => ((hY o1).cell (World.block_lt_of_cell? _ _ a0)).trans a0
  have a1z := fun o1 o2 => ((hZ o1 o2).cell (World.block_lt_of_cell? _ _ a1)).trans a1
  have a1y := fun o1 => ((hY o1).cell (World.block_lt_of_cell? _ _ a1)).trans a1
  have a2z := fun o1 o2 => ((hZ o1 o2).cell (World.block_lt_of_cell? _ _ a2)).trans a2
  have a2y := fun o1 => ((hY o1).cell (World.block_lt_of_cell? _ _ a2)).trans a2
  have a3z := fun o1 o2 => ((hZ o1 o2).cell (World.block_lt_of_cell? _ _ a3)).trans a3
  have a3y := fun o1 => ((hY o1).cell (World.block_lt_of_cell? _ _ a3)).trans a3
  clear hZ hY
  go_cut [7, 8] from 17 to 86 (fun v7 v8 wx => ∃ b7 b8, v7 = .pointer (some ⟨b7, 0, none⟩) ∧ v8 = .pointer (some ⟨b8, 0, none⟩) ∧ LwS w wx b7 b8 (ax, ay) (bx, by_) (cx, cy) (dx, dy))
  case first =>
    go_region
    · go_wp2_with fail
      go_meet
      obtain ⟨t1, t2, t3⟩ := two_b w1 (cx, cy) (dx, dy)
      exact ⟨_, _, rfl, rfl, ⟨HA1.out.bel.trans (t3.mono HA1.out.bel.size), HA1.out.h0.bel t3, HA1.out.h1.bel t3, t1, t2⟩⟩
    · go_wp2_with fail
      go_meet
      obtain ⟨t1, t2, t3⟩ := two_b w1 (dx, dy) (cx, cy)
      exact ⟨_, _, rfl, rfl, ⟨HA1.out.bel.trans (t3.mono HA1.out.bel.size), HA1.out.h0.bel t3, HA1.out.h1.bel t3, t2, t1⟩⟩
  case rest =>
  obtain ⟨b7, b8, rfl, rfl, hS⟩ := hcut
  have Q0 := Lib.hid hS
  obtain ⟨k0, k1, k2, k3, k4, k5, k6, k7⟩ := hS.cells
  dsimp only at k0 k1 k2 k3 k4 k5 k6 k7
  clear hS a0 a1 a2 a3 a0z a1z a2z a3z a0y a1y a2y a3y HA1 CA
  go_wp2_with (first
    | (go_at_call 13; (with_reducible refine (CK.out _).mono ?_); rintro e w2 ⟨rfl, hb⟩; have Q1 := Lib.hid (Q0.out.next hb); clear hb k0 k1 k2 k3 k4 k5 k6 k7; obtain ⟨k0, k1, k2, k3, k4, k5, k6, k7⟩ := Q1.out.cells; dsimp only at k0 k1 k2 k3 k4 k5 k6 k7)
    | (go_at_call 12; (with_reducible refine (M1.out _).mono ?_); rintro e x1 ⟨rfl, hb⟩; have Q2 := Lib.hid (Q1.out.next hb); clear hb k0 k1 k2 k3 k4 k5 k6 k7; obtain ⟨k0, k1, k2, k3, k4, k5, k6, k7⟩ := Q2.out.cells; dsimp only at k0 k1 k2 k3 k4 k5 k6 k7; clear M1)
    | (go_at_call 12; (with_reducible refine (M2.out _).mono ?_); rintro e x2 ⟨rfl, hb⟩; have Q3 := Lib.hid (Q2.out.next hb); clear hb k0 k1 k2 k3 k4 k5 k6 k7; obtain ⟨k0, k1, k2, k3, k4, k5, k6, k7⟩ := Q3.out.cells; dsimp only at k0 k1 k2 k3 k4 k5 k6 k7; clear M2)
    | (go_at_call 12; (with_reducible refine (M3.out _).mono ?_); rintro e x3 ⟨rfl, hb⟩; have Q4 := Lib.hid (Q3.out.next hb); clear hb k0 k1 k2 k3 k4 k5 k6 k7; obtain ⟨k0, k1, k2, k3, k4, k5, k6, k7⟩ := Q4.out.cells; dsimp only at k0 k1 k2 k3 k4 k5 k6 k7; clear M3)
    | (go_at_call 12; (with_reducible refine (M4.out _).mono ?_); rintro e x4 ⟨rfl, hb⟩; have Q5 := Lib.hid (Q4.out.next hb); clear hb k0 k1 k2 k3 k4 k5 k6 k7; obtain ⟨k0, k1, k2, k3, k4, k5, k6, k7⟩ := Q5.out.cells; dsimp only at k0 k1 k2 k3 k4 k5 k6 k7; clear M4))
  go_ret
  exact ⟨rfl, Q5.out.bel⟩
end Go.Proofs.Ytiififjbljiggaa
