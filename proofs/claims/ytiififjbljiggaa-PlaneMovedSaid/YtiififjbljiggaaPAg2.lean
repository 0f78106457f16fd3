/- Proved here: what the law PlaneAsks answers, over memory. No condition. -/
import Derived.Test.YtiififjbljiggaaPAg1
namespace Go.Proofs.Ytiififjbljiggaa
open Go.RowKit

set_option maxHeartbeats 8000000 in
set_option maxRecDepth 100000 in
theorem asks_core (ax ay bx by_ cx cy dx dy x y z t e2 e3 e4 : Int) (o q m : Bool) (w : World) (hs : sg x = t ∨ e3 ≠ 0)
    (C7 : ∀ W : World, Calls Try.prog 7 #[.agg #[.int .i64 ax, .int .i64 ay], .agg #[.int .i64 bx, .int .i64 by_], .agg #[.int .i64 cx, .int .i64 cy]] W fun e w' => e = .returned (.tuple #[.int .i64 x, .int .i64 e3]) ∧ Below W.heap.size W w')
    (C8 : ∀ W : World, Calls Try.prog 8 #[.agg #[.int .i64 ax, .int .i64 ay], .agg #[.int .i64 bx, .int .i64 by_], .agg #[.int .i64 cx, .int .i64 cy]] W fun e w' => e = .returned (.tuple #[.int .i64 y, .int .i64 e3]) ∧ Below W.heap.size W w')
    (C9 : ∀ W : World, Calls Try.prog 9 #[.agg #[.int .i64 ax, .int .i64 ay], .agg #[.int .i64 bx, .int .i64 by_], .agg #[.int .i64 cx, .int .i64 cy]] W fun e w' => e = .returned (.tuple #[.int .i64 t, .int .i64 e3]) ∧ Below W.heap.size W w')
    (C10 : ∀ W : World, Calls Try.prog 10 #[.agg #[.int .i64 ax, .int .i64 ay], .agg #[.int .i64 bx, .int .i64 by_], .agg #[.int .i64 cx, .int .i64 cy]] W fun e w' => e = .returned (.tuple #[.bool q, .int .i64 e3]) ∧ Below W.heap.size W w')
    (C11 : ∀ W : World, Calls Try.prog 11 #[.agg #[.int .i64 ax, .int .i64 ay], .agg #[.int .i64 bx, .int .i64 by_]] W fun e w' => e = .returned (.tuple #[.int .i64 z, .int .i64 e2]) ∧ Below W.heap.size W w')
    (C12 : ∀ W : World, Calls Try.prog 12 #[.agg #[.int .i64 ax, .int .i64 ay], .agg #[.int .i64 bx, .int .i64 by_], .agg #[.int .i64 cx, .int .i64 cy], .agg #[.int .i64 dx, .int .i64 dy]] W fun e w' => e = .returned (.tuple #[.bool m, .int .i64 e4]) ∧ Below W.heap.size W w')
    (C14 : ∀ W : World, Calls Try.prog 14 #[.agg #[.int .i64 ax, .int .i64 ay]] W fun e w' => e = .returned (.bool o) ∧ Below W.heap.size W w')
    (C15 : ∀ W : World, Calls Try.prog 15 #[.agg #[.int .i64 ax, .int .i64 ay]] W fun e w' => e = .returned (.bool o) ∧ Below W.heap.size W w')
    (A3 : ∀ (W : World) (g : Nat), Prow W g [(ax, ay), (bx, by_), (cx, cy)] → Calls Try.prog 13 #[.slice (some ⟨g, 0, none⟩) 3 3] W fun e w' => e = .returned (.int .i64 e3) ∧ Below W.heap.size W w')
    (A2 : ∀ (W : World) (g : Nat), Prow W g [(ax, ay), (bx, by_)] → Calls Try.prog 13 #[.slice (some ⟨g, 0, none⟩) 2 2] W fun e w' => e = .returned (.int .i64 e2) ∧ Below W.heap.size W w')
    (A4 : ∀ (W : World) (g : Nat), Prow W g [(ax, ay), (bx, by_), (cx, cy), (dx, dy)] → Calls Try.prog 13 #[.slice (some ⟨g, 0, none⟩) 4 4] W fun e w' => e = .returned (.int .i64 e4) ∧ Below W.heap.size W w')
    (K : (e4 = 0 ∧ e3 = 0 ∧ e2 = 0) ∨ (e4 = 1 ∧ m = false ∧ e3 = 0 ∧ e2 = 0) ∨ (e4 = 1 ∧ m = false ∧ e3 = 1 ∧ (x = 0 ∧ y = 0 ∧ t = 0 ∧ q = false) ∧ e2 = 0) ∨ (e4 = 1 ∧ m = false ∧ e3 = 1 ∧ (x = 0 ∧ y = 0 ∧ t = 0 ∧ q = false) ∧ e2 = 1 ∧ z = 0))
    (D16 : e2 = 0 → ∀ W : World, Calls Try.prog 16 #[.agg #[.int .i64 ax, .int .i64 ay], .agg #[.int .i64 bx, .int .i64 by_], .agg #[.int .i64 bx, .int .i64 by_]] W fun e w' => e = .returned (.int .i64 z) ∧ Below W.heap.size W w')
    (D17 : e3 = 0 → ∀ W : World, Calls Try.prog 17 #[.agg #[.int .i64 ax, .int .i64 ay], .agg #[.int .i64 bx, .int .i64 by_], .agg #[.int .i64 cx, .int .i64 cy]] W fun e w' => e = .returned (.int .i64 x) ∧ Below W.heap.size W w')
    (E16 : e3 = 0 → ∀ W : World, Calls Try.prog 16 #[.agg #[.int .i64 ax, .int .i64 ay], .agg #[.int .i64 bx, .int .i64 by_], .agg #[.int .i64 cx, .int .i64 cy]] W fun e w' => e = .returned (.int .i64 y) ∧ Below W.heap.size W w')
    (D19 : e3 = 0 → ∀ W : World, Calls Try.prog 19 #[.agg #[.int .i64 ax, .int .i64 ay], .agg #[.int .i64 bx, .int .i64 by_], .agg #[.int .i64 cx, .int .i64 cy]] W fun e w' => e = .returned (.bool q) ∧ Below W.heap.size W w')
    (D20 : e4 = 0 → ∀ W : World, Calls Try.prog 20 #[.agg #[.int .i64 ax, .int .i64 ay], .agg #[.int .i64 bx, .int .i64 by_], .agg #[.int .i64 cx, .int .i64 cy], .agg #[.int .i64 dx, .int .i64 dy]] W fun e w' => e = .returned (.bool m) ∧ Below W.heap.size W w') :
    Calls Try.prog 3 #[.agg #[.int .i64 ax, .int .i64 ay], .agg #[.int .i64 bx, .int .i64 by_], .agg #[.int .i64 cx, .int .i64 cy, .int .i64 dx, .int .i64 dy]] w fun e w' => e = .returned (.bool true) ∧ Below w.heap.size w w' := by
  have CA := Lib.hid (fun W => awake_any W)
  have HK := Lib.hid K
  have HSg := Lib.hid hs
  have HD16 := Lib.hid D16
  have HD17 := Lib.hid D17
  have HE16 := Lib.hid E16
  have HD19 := Lib.hid D19
  have HD20 := Lib.hid D20
  have HC7 := Lib.hid C7
  have HC8 := Lib.hid C8
  have HC9 := Lib.hid C9
  have HC10 := Lib.hid C10
  have HC11 := Lib.hid C11
  have HC12 := Lib.hid C12
  have HC14 := Lib.hid C14
  have HC15 := Lib.hid C15
  have HA3 := Lib.hid A3
  have HA2 := Lib.hid A2
  have HA4 := Lib.hid A4
  clear K hs D16 D17 E16 D19 D20 C7 C8 C9 C10 C11 C12 C14 C15 A3 A2 A4
  have HA := Lib.hid (AgS.new w ax ay bx by_ cx cy dx dy)
  go_enter Try.func3, Try.ntmps3
  go_upto_region 3 with (go_at_call 6; (with_reducible refine (CA.out _).mono ?_); rintro e w1 ⟨rfl, hb⟩; have HA1 := Lib.hid (HA.out.next hb); clear hb)
  obtain ⟨a0, a1, a2, a3⟩ := HA1.out.cells
  dsimp only at a0 a1 a2 a3
  have hZ : ∀ o1 o2, Below w1.heap.size w1 ((w1.alloc o1).alloc o2).drew := fun o1 o2 => Below.drew (((Below.refl _ _).alloc (Nat.le_refl _) o1).alloc (by simp) o2)
  have hY : ∀ o1, Below w1.heap.size w1 (w1.alloc o1).drew := fun o1 => Below.drew ((Below.refl _ _).alloc (Nat.le_refl _) o1)
  have a0z := fun o1 o2 => ((hZ o1 o2).cell (World.block_lt_of_cell? _ _ a0)).trans a0
  have a0y := fun o1 => ((hY o1).cell (World.block_lt_of_cell? _ _ a0)).trans a0
  have a1z := fun o1 o2 => ((hZ o1 o2).cell (World.block_lt_of_cell? _ _ a1)).trans a1
  have a1y := fun o1 => ((hY o1).cell (World.block_lt_of_cell? _ _ a1)).trans a1
  have a2z := fun o1 o2 => ((hZ o1 o2).cell (World.block_lt_of_cell? _ _ a2)).trans a2
  have a2y := fun o1 => ((hY o1).cell (World.block_lt_of_cell? _ _ a2)).trans a2
  have a3z := fun o1 o2 => ((hZ o1 o2).cell (World.block_lt_of_cell? _ _ a3)).trans a3
  have a3y := fun o1 => ((hY o1).cell (World.block_lt_of_cell? _ _ a3)).trans a3
  clear hZ hY
  go_cut [7, 8] from 24 to 206 (fun v7 v8 wx => ∃ b7 b8, v7 = .pointer (some ⟨b7, 0, none⟩) ∧ v8 = .pointer (some ⟨b8, 0, none⟩) ∧ LwS w wx b7 b8 (ax, ay) (bx, by_) (cx, cy) (dx, dy))
  case first =>
    go_region
    · go_wp2_with fail
      go_meet
      obtain ⟨t1, t2, t3⟩ := two_b w1 (cx, cy) (dx, dy)
      exact ⟨_, _, rfl, rfl, ⟨HA1.out.bel.trans (t3.mono HA1.out.bel.size), HA1.out.h0.bel t3, HA1.out.h1.bel t3, t1, t2⟩⟩
    · go_wp2_with fail
      go_meet
      obtain ⟨t1, t2, t3⟩ := two_b w1 (dx, dy) (cx, cy)
      exact ⟨_, _, rfl, rfl, ⟨HA1.out.bel.trans (t3.mono HA1.out.bel.size), HA1.out.h0.bel t3, HA1.out.h1.bel t3, t2, t1⟩⟩
  case rest =>
  obtain ⟨b7, b8, rfl, rfl, hS⟩ := hcut
  have Q0 := Lib.hid hS
  obtain ⟨k0, k1, k2, k3, k4, k5, k6, k7⟩ := hS.cells
  dsimp only at k0 k1 k2 k3 k4 k5 k6 k7
  clear hS a0 a1 a2 a3 a0z a1z a2z a3z a0y a1y a2y a3y HA1 CA
  go_upto_region 10 with (first
    | (go_at_call 7; (with_reducible refine (HC7.out _).mono ?_); rintro e x1 ⟨rfl, hb⟩; have Q1 := Lib.hid (Q0.out.next hb); clear hb k0 k1 k2 k3 k4 k5 k6 k7; obtain ⟨k0, k1, k2, k3, k4, k5, k6, k7⟩ := Q1.out.cells; dsimp only at k0 k1 k2 k3 k4 k5 k6 k7)
    | (go_at_call 8; (with_reducible refine (HC8.out _).mono ?_); rintro e x2 ⟨rfl, hb⟩; have Q2 := Lib.hid (Q1.out.next hb); clear hb k0 k1 k2 k3 k4 k5 k6 k7; obtain ⟨k0, k1, k2, k3, k4, k5, k6, k7⟩ := Q2.out.cells; dsimp only at k0 k1 k2 k3 k4 k5 k6 k7)
    | (go_at_call 9; (with_reducible refine (HC9.out _).mono ?_); rintro e x3 ⟨rfl, hb⟩; have Q3 := Lib.hid (Q2.out.next hb); clear hb k0 k1 k2 k3 k4 k5 k6 k7; obtain ⟨k0, k1, k2, k3, k4, k5, k6, k7⟩ := Q3.out.cells; dsimp only at k0 k1 k2 k3 k4 k5 k6 k7)
    | (go_at_call 10; (with_reducible refine (HC10.out _).mono ?_); rintro e x4 ⟨rfl, hb⟩; have Q4 := Lib.hid (Q3.out.next hb); clear hb k0 k1 k2 k3 k4 k5 k6 k7; obtain ⟨k0, k1, k2, k3, k4, k5, k6, k7⟩ := Q4.out.cells; dsimp only at k0 k1 k2 k3 k4 k5 k6 k7)
    | (go_at_call 11; (with_reducible refine (HC11.out _).mono ?_); rintro e x5 ⟨rfl, hb⟩; have Q5 := Lib.hid (Q4.out.next hb); clear hb k0 k1 k2 k3 k4 k5 k6 k7; obtain ⟨k0, k1, k2, k3, k4, k5, k6, k7⟩ := Q5.out.cells; dsimp only at k0 k1 k2 k3 k4 k5 k6 k7)
    | (go_at_call 12; (with_reducible refine (HC12.out _).mono ?_); rintro e x6 ⟨rfl, hb⟩; have Q6 := Lib.hid (Q5.out.next hb); clear hb k0 k1 k2 k3 k4 k5 k6 k7; obtain ⟨k0, k1, k2, k3, k4, k5, k6, k7⟩ := Q6.out.cells; dsimp only at k0 k1 k2 k3 k4 k5 k6 k7))
  refine asks_first ax ay bx by_ cx cy dx dy e2 e3 e4 w _ b7 b8 _ _ _ _ _ _ _ _ _ _ _ _ _ _ _ _ _ _ _ _ _ _ _ _ _ _ _ _ _ _ _ _ _ _ _ _ _ _ _ _ _ _ _ _ _ _ _ _ _ _ _ _ _ _ _ _ _ _ _ _ _ _ _ _ _ _ _ _ _ _ _ _ _ _ _ _ _ _ _ _ _ _ _ _ _ _ _ _ _ _ _ _ _ _ _ _ _ _ _ _ _ _ _ _ _ _ _ _ _ _ _ _ _ _ _ _ _ _ _ _ _ _ _ _ _ _ _ _ _ _ _ _ _ _ _ _ _ _ _ _ _ _ _ _ _ _ _ _ _ _ _ _ _ _ _ _ _ _ _ _ _ _ _ _ _ _ _ _ _ _ _ _ _ _ _ _ _ _ _ _ _ _ _ _ _ _ _ _ _ _ _ _ _ _ _ _ _ _ _ _ Q6 HA3.out HA2.out HA4.out _ _ (Lib.hid ?_)
  intro y72 y73 y74 y75 y76 y77 y78 y79 y80 y81 y82 y83 y84 y85 y86 wc hS
  dsimp only
  (
    have Q7 := Lib.hid hS
    have QD := Lib.hid hS.drew.full
    clear hS k0 k1 k2 k3 k4 k5 k6 k7
    obtain ⟨k0, k1, k2, k3, k4, k5, k6, k7⟩ := Q7.out.cells
    dsimp only at k0 k1 k2 k3 k4 k5 k6 k7
    have f2 : (e2 != e2) = false := by simp
    have f3 : (e3 != e3) = false := by simp
    have f4 : (e4 != e4) = false := by simp
    have fo : (o != o) = false := by simp
    have fz : (z != z) = false := by simp
    have fx : (x != x) = false := by simp
    have fy : (y != y) = false := by simp
    have ft : (t != t) = false := by simp
    have fq : (q != q) = false := by simp
    have fm : (m == m) = true := by simp
    clear HC7 HC8 HC9 HC10 HC11 HC12 HA3 HA2 HA4
    go_upto_region 11 with fail
    go_cut [121] from 87 to 206 (fun v121 wx => v121 = .bool false ∧ LwS w wx b7 b8 (ax, ay) (bx, by_) (cx, cy) (dx, dy))
    case first =>
      go_region_held3 (fun w' => w'.cell? ⟨w.heap.size, 0, none⟩ = some (.int .i64 ax) ∧ w'.cell? ⟨w.heap.size, 1, none⟩ = some (.int .i64 ay) ∧ w'.cell? ⟨w.heap.size + 1, 0, none⟩ = some (.int .i64 bx) ∧ w'.cell? ⟨w.heap.size + 1, 1, none⟩ = some (.int .i64 by_) ∧ w'.cell? ⟨b7, 0, none⟩ = some (.int .i64 cx) ∧ w'.cell? ⟨b7, 1, none⟩ = some (.int .i64 cy) ∧ w'.cell? ⟨b8, 0, none⟩ = some (.int .i64 dx) ∧ w'.cell? ⟨b8, 1, none⟩ = some (.int .i64 dy) ∧ LwS w w' b7 b8 (ax, ay) (bx, by_) (cx, cy) (dx, dy))
        (first | exact QD.out | exact fu_bel (a := (ax, ay)) (b := (bx, by_)) (c := (cx, cy)) (d := (dx, dy)) (by assumption) (by assumption))
        (first
          | (go_at_call 14; (with_reducible refine (HC14.out _).mono ?_); rintro e v14 ⟨rfl, hb14⟩)
          | (go_at_call 15; (with_reducible refine (HC15.out _).mono ?_); rintro e v15 ⟨rfl, hb15⟩))
      all_goals
        go_wp2_with fail
        go_meet
        exact ⟨rfl, fu_lw (a := (ax, ay)) (b := (bx, by_)) (c := (cx, cy)) (d := (dx, dy)) (by assumption)⟩
    case rest =>
      obtain ⟨rfl, hS⟩ := hcut
      have Q0 := Lib.hid hS
      clear hS k0 k1 k2 k3 k4 k5 k6 k7 HC14 HC15 QD
      obtain ⟨k0, k1, k2, k3, k4, k5, k6, k7⟩ := Q0.out.cells
      dsimp only at k0 k1 k2 k3 k4 k5 k6 k7
      rcases HK.out with ⟨rfl, rfl, rfl⟩ | ⟨rfl, rfl, rfl, rfl⟩ | ⟨rfl, rfl, rfl, ⟨rfl, rfl, rfl, rfl⟩, rfl⟩ | ⟨rfl, rfl, rfl, ⟨rfl, rfl, rfl, rfl⟩, rfl, rfl⟩

      · obtain hsg | hsg := HSg.out
        · have CS := Lib.hid (fun W => show Calls Try.prog 18 #[.int .i64 x] W fun e w' => e = .returned (.int .i64 t) ∧ w' = W from by rw [← hsg]; exact sign_any x W)
          have D16 := Lib.hid (HD16.out rfl)
          have D17 := Lib.hid (HD17.out rfl)
          have E16 := Lib.hid (HE16.out rfl)
          have D19 := Lib.hid (HD19.out rfl)
          have D20 := Lib.hid (HD20.out rfl)
          clear hsg HK HSg
          go_wp2_with (first
            | (go_at_call 16; (with_reducible refine (D16.out _).mono ?_); rintro e y1 ⟨rfl, hb⟩; have Q1 := Lib.hid (Q0.out.next hb); clear hb k0 k1 k2 k3 k4 k5 k6 k7; obtain ⟨k0, k1, k2, k3, k4, k5, k6, k7⟩ := Q1.out.cells; dsimp only at k0 k1 k2 k3 k4 k5 k6 k7; clear D16)
            | (go_at_call 17; (with_reducible refine (D17.out _).mono ?_); rintro e y2 ⟨rfl, hb⟩; have Q2 := Lib.hid (Q1.out.next hb); clear hb k0 k1 k2 k3 k4 k5 k6 k7; obtain ⟨k0, k1, k2, k3, k4, k5, k6, k7⟩ := Q2.out.cells; dsimp only at k0 k1 k2 k3 k4 k5 k6 k7; clear D17)
            | (go_at_call 16; (with_reducible refine (E16.out _).mono ?_); rintro e y3 ⟨rfl, hb⟩; have Q3 := Lib.hid (Q2.out.next hb); clear hb k0 k1 k2 k3 k4 k5 k6 k7; obtain ⟨k0, k1, k2, k3, k4, k5, k6, k7⟩ := Q3.out.cells; dsimp only at k0 k1 k2 k3 k4 k5 k6 k7; clear E16)
            | (go_at_call 18; (with_reducible refine (CS.out _).mono ?_); rintro e y4 ⟨rfl, rfl⟩)
            | (go_at_call 19; (with_reducible refine (D19.out _).mono ?_); rintro e y5 ⟨rfl, hb⟩; have Q4 := Lib.hid (Q3.out.next hb); clear hb k0 k1 k2 k3 k4 k5 k6 k7; obtain ⟨k0, k1, k2, k3, k4, k5, k6, k7⟩ := Q4.out.cells; dsimp only at k0 k1 k2 k3 k4 k5 k6 k7; clear D19)
            | (go_at_call 20; (with_reducible refine (D20.out _).mono ?_); rintro e y6 ⟨rfl, hb⟩; have Q5 := Lib.hid (Q4.out.next hb); clear hb k0 k1 k2 k3 k4 k5 k6 k7; obtain ⟨k0, k1, k2, k3, k4, k5, k6, k7⟩ := Q5.out.cells; dsimp only at k0 k1 k2 k3 k4 k5 k6 k7; clear D20))
          go_ret
          exact ⟨rfl, Q5.out.bel⟩
        · exact absurd rfl hsg
      · obtain hsg | hsg := HSg.out
        · have CS := Lib.hid (fun W => show Calls Try.prog 18 #[.int .i64 x] W fun e w' => e = .returned (.int .i64 t) ∧ w' = W from by rw [← hsg]; exact sign_any x W)
          have D16 := Lib.hid (HD16.out rfl)
          have D17 := Lib.hid (HD17.out rfl)
          have E16 := Lib.hid (HE16.out rfl)
          have D19 := Lib.hid (HD19.out rfl)
          clear hsg HK HSg
          go_wp2_with (first
            | (go_at_call 16; (with_reducible refine (D16.out _).mono ?_); rintro e y1 ⟨rfl, hb⟩; have Q1 := Lib.hid (Q0.out.next hb); clear hb k0 k1 k2 k3 k4 k5 k6 k7; obtain ⟨k0, k1, k2, k3, k4, k5, k6, k7⟩ := Q1.out.cells; dsimp only at k0 k1 k2 k3 k4 k5 k6 k7; clear D16)
            | (go_at_call 17; (with_reducible refine (D17.out _).mono ?_); rintro e y2 ⟨rfl, hb⟩; have Q2 := Lib.hid (Q1.out.next hb); clear hb k0 k1 k2 k3 k4 k5 k6 k7; obtain ⟨k0, k1, k2, k3, k4, k5, k6, k7⟩ := Q2.out.cells; dsimp only at k0 k1 k2 k3 k4 k5 k6 k7; clear D17)
            | (go_at_call 16; (with_reducible refine (E16.out _).mono ?_); rintro e y3 ⟨rfl, hb⟩; have Q3 := Lib.hid (Q2.out.next hb); clear hb k0 k1 k2 k3 k4 k5 k6 k7; obtain ⟨k0, k1, k2, k3, k4, k5, k6, k7⟩ := Q3.out.cells; dsimp only at k0 k1 k2 k3 k4 k5 k6 k7; clear E16)
            | (go_at_call 18; (with_reducible refine (CS.out _).mono ?_); rintro e y4 ⟨rfl, rfl⟩)
            | (go_at_call 19; (with_reducible refine (D19.out _).mono ?_); rintro e y5 ⟨rfl, hb⟩; have Q4 := Lib.hid (Q3.out.next hb); clear hb k0 k1 k2 k3 k4 k5 k6 k7; obtain ⟨k0, k1, k2, k3, k4, k5, k6, k7⟩ := Q4.out.cells; dsimp only at k0 k1 k2 k3 k4 k5 k6 k7; clear D19))
          go_ret
          exact ⟨rfl, Q4.out.bel⟩
        · exact absurd rfl hsg
      · have D16 := Lib.hid (HD16.out rfl)
        clear HK HSg
        go_wp2_with (go_at_call 16; (with_reducible refine (D16.out _).mono ?_); rintro e y1 ⟨rfl, hb⟩; have Q1 := Lib.hid (Q0.out.next hb); clear hb k0 k1 k2 k3 k4 k5 k6 k7; obtain ⟨k0, k1, k2, k3, k4, k5, k6, k7⟩ := Q1.out.cells; dsimp only at k0 k1 k2 k3 k4 k5 k6 k7; clear D16)
        go_ret
        exact ⟨rfl, Q1.out.bel⟩
      · clear HK HSg
        go_wp2_with fail
        go_ret
        exact ⟨rfl, Q0.out.bel⟩)
end Go.Proofs.Ytiififjbljiggaa
