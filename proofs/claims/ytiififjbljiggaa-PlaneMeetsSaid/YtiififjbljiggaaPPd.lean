/- Proved here: which lines have ends on each other, or points on two sides (the program's touch, parts). Condition: points that may be. -/
import Derived.Test.YtiififjbljiggaaPPc
import Derived.Test.YtiififjbljiggaaPAd
namespace Go.Proofs.Ytiififjbljiggaa
open Go.RowKit

/-- Has one of two lines an end of the other one on it? -/
def Tch (a b c d : P2) : Prop := (Btw a b c ∨ Btw a b d) ∨ (Btw c d a ∨ Btw c d b)
instance (a b c d : P2) : Decidable (Tch a b c d) := inferInstanceAs (Decidable (_ ∨ _))
/-- Are c and d on two sides of the way from a to b? -/
def Prt (a b c d : P2) : Prop := sg (crs a b c) * sg (crs a b d) < 0
instance (a b c d : P2) : Decidable (Prt a b c d) := inferInstanceAs (Decidable (_ < _))
theorem mt_two (a b c d : P2) : Mt a b c d ↔ Tch a b c d ∨ (Prt a b c d ∧ Prt c d a b) := Iff.rfl
set_option maxHeartbeats 4000000 in
set_option maxRecDepth 100000 in
theorem ptouch_any (ax ay bx by_ cx cy dx dy : Int) (w : World) (ha : fiP (ax, ay)) (hb : fiP (bx, by_)) (hc : fiP (cx, cy)) (hd : fiP (dx, dy)) : Calls Try.prog 26 #[.agg #[.int .i64 ax, .int .i64 ay], .agg #[.int .i64 bx, .int .i64 by_], .agg #[.int .i64 cx, .int .i64 cy], .agg #[.int .i64 dx, .int .i64 dy]] w fun e w' => e = .returned (.bool (decide (Tch (ax, ay) (bx, by_) (cx, cy) (dx, dy)))) ∧ Below w.heap.size w w' := by
  have Q0 := Lib.hid (QdS.new w ax ay bx by_ cx cy dx dy)
  have C1 := Lib.hid (fun W => pbt_any ax ay bx by_ cx cy W ha hb hc)
  have C2 := Lib.hid (fun W => pbt_any ax ay bx by_ dx dy W ha hb hd)
  have C3 := Lib.hid (fun W => pbt_any cx cy dx dy ax ay W hc hd ha)
  have C4 := Lib.hid (fun W => pbt_any cx cy dx dy bx by_ W hc hd hb)
  obtain ⟨k0, k1, k2, k3, k4, k5, k6, k7⟩ := Q0.out.cells
  dsimp only at k0 k1 k2 k3 k4 k5 k6 k7
  clear ha hb hc hd
  by_cases h1 : Btw (ax, ay) (bx, by_) (cx, cy)
  · rw [decide_eq_true h1] at C1
    have HX := Lib.hid (show decide (Tch (ax, ay) (bx, by_) (cx, cy) (dx, dy)) = true from decide_eq_true (.inl (.inl h1)))
    clear h1
    go_enter Try.func26, Try.ntmps26
    go_wp2_with (first
      | (go_at_call 25; (with_reducible refine (C1.out _).mono ?_); rintro e w1 ⟨rfl, hb⟩; have Q1 := Lib.hid (Q0.out.next hb); clear hb C1 k0 k1 k2 k3 k4 k5 k6 k7))
    go_ret
    exact ⟨by rw [HX.out]; rfl, Q1.out.bel⟩
  · rw [decide_eq_false h1] at C1
    by_cases h2 : Btw (ax, ay) (bx, by_) (dx, dy)
    · rw [decide_eq_true h2] at C2
      have HX := Lib.hid (show decide (Tch (ax, ay) (bx, by_) (cx, cy) (dx, dy)) = true from decide_eq_true (.inl (.inr h2)))
      clear h1 h2
      go_enter Try.func26, Try.ntmps26
      go_wp2_with (first
        | (go_at_call 25; (with_reducible refine (C1.out _).mono ?_); rintro e w1 ⟨rfl, hb⟩; have Q1 := Lib.hid (Q0.out.next hb); clear hb C1 k0 k1 k2 k3 k4 k5 k6 k7; obtain ⟨k0, k1, k2, k3, k4, k5, k6, k7⟩ := Q1.out.cells; dsimp only at k0 k1 k2 k3 k4 k5 k6 k7)
        | (go_at_call 25; (with_reducible refine (C2.out _).mono ?_); rintro e w2 ⟨rfl, hb⟩; have Q2 := Lib.hid (Q1.out.next hb); clear hb C2 k0 k1 k2 k3 k4 k5 k6 k7))
      go_ret
      exact ⟨by rw [HX.out]; rfl, Q2.out.bel⟩
    · rw [decide_eq_false h2] at C2
      by_cases h3 : Btw (cx, cy) (dx, dy) (ax, ay)
      · rw [decide_eq_true h3] at C3
        have HX := Lib.hid (show decide (Tch (ax, ay) (bx, by_) (cx, cy) (dx, dy)) = true from decide_eq_true (.inr (.inl h3)))
        clear h1 h2 h3
        go_enter Try.func26, Try.ntmps26
        go_wp2_with (first
          | (go_at_call 25; (with_reducible refine (C1.out _).mono ?_); rintro e w1 ⟨rfl, hb⟩; have Q1 := Lib.hid (Q0.out.next hb); clear hb C1 k0 k1 k2 k3 k4 k5 k6 k7; obtain ⟨k0, k1, k2, k3, k4, k5, k6, k7⟩ := Q1.out.cells; dsimp only at k0 k1 k2 k3 k4 k5 k6 k7)
          | (go_at_call 25; (with_reducible refine (C2.out _).mono ?_); rintro e w2 ⟨rfl, hb⟩; have Q2 := Lib.hid (Q1.out.next hb); clear hb C2 k0 k1 k2 k3 k4 k5 k6 k7; obtain ⟨k0, k1, k2, k3, k4, k5, k6, k7⟩ := Q2.out.cells; dsimp only at k0 k1 k2 k3 k4 k5 k6 k7)
          | (go_at_call 25; (with_reducible refine (C3.out _).mono ?_); rintro e w3 ⟨rfl, hb⟩; have Q3 := Lib.hid (Q2.out.next hb); clear hb C3 k0 k1 k2 k3 k4 k5 k6 k7))
        go_ret
        exact ⟨by rw [HX.out]; rfl, Q3.out.bel⟩
      · rw [decide_eq_false h3] at C3
        by_cases h4 : Btw (cx, cy) (dx, dy) (bx, by_)
        · rw [decide_eq_true h4] at C4
          have HX := Lib.hid (show decide (Tch (ax, ay) (bx, by_) (cx, cy) (dx, dy)) = true from decide_eq_true (.inr (.inr h4)))
          clear h1 h2 h3 h4
          go_enter Try.func26, Try.ntmps26
          go_wp2_with (first
            | (go_at_call 25; (with_reducible refine (C1.out _).mono ?_); rintro e w1 ⟨rfl, hb⟩; have Q1 := Lib.hid (Q0.out.next hb); clear hb C1 k0 k1 k2 k3 k4 k5 k6 k7; obtain ⟨k0, k1, k2, k3, k4, k5, k6, k7⟩ := Q1.out.cells; dsimp only at k0 k1 k2 k3 k4 k5 k6 k7)
            | (go_at_call 25; (with_reducible refine (C2.out _).mono ?_); rintro e w2 ⟨rfl, hb⟩; have Q2 := Lib.hid (Q1.out.next hb); clear hb C2 k0 k1 k2 k3 k4 k5 k6 k7; obtain ⟨k0, k1, k2, k3, k4, k5, k6, k7⟩ := Q2.out.cells; dsimp only at k0 k1 k2 k3 k4 k5 k6 k7)
            | (go_at_call 25; (with_reducible refine (C3.out _).mono ?_); rintro e w3 ⟨rfl, hb⟩; have Q3 := Lib.hid (Q2.out.next hb); clear hb C3 k0 k1 k2 k3 k4 k5 k6 k7; obtain ⟨k0, k1, k2, k3, k4, k5, k6, k7⟩ := Q3.out.cells; dsimp only at k0 k1 k2 k3 k4 k5 k6 k7)
            | (go_at_call 25; (with_reducible refine (C4.out _).mono ?_); rintro e w4 ⟨rfl, hb⟩; have Q4 := Lib.hid (Q3.out.next hb); clear hb C4 k0 k1 k2 k3 k4 k5 k6 k7))
          go_ret
          exact ⟨by rw [HX.out]; rfl, Q4.out.bel⟩
        · rw [decide_eq_false h4] at C4
          have HX := Lib.hid (show decide (Tch (ax, ay) (bx, by_) (cx, cy) (dx, dy)) = false from decide_eq_false (fun h => by rcases h with (h | h) | (h | h) <;> contradiction))
          clear h1 h2 h3 h4
          go_enter Try.func26, Try.ntmps26
          go_wp2_with (first
            | (go_at_call 25; (with_reducible refine (C1.out _).mono ?_); rintro e w1 ⟨rfl, hb⟩; have Q1 := Lib.hid (Q0.out.next hb); clear hb C1 k0 k1 k2 k3 k4 k5 k6 k7; obtain ⟨k0, k1, k2, k3, k4, k5, k6, k7⟩ := Q1.out.cells; dsimp only at k0 k1 k2 k3 k4 k5 k6 k7)
            | (go_at_call 25; (with_reducible refine (C2.out _).mono ?_); rintro e w2 ⟨rfl, hb⟩; have Q2 := Lib.hid (Q1.out.next hb); clear hb C2 k0 k1 k2 k3 k4 k5 k6 k7; obtain ⟨k0, k1, k2, k3, k4, k5, k6, k7⟩ := Q2.out.cells; dsimp only at k0 k1 k2 k3 k4 k5 k6 k7)
            | (go_at_call 25; (with_reducible refine (C3.out _).mono ?_); rintro e w3 ⟨rfl, hb⟩; have Q3 := Lib.hid (Q2.out.next hb); clear hb C3 k0 k1 k2 k3 k4 k5 k6 k7; obtain ⟨k0, k1, k2, k3, k4, k5, k6, k7⟩ := Q3.out.cells; dsimp only at k0 k1 k2 k3 k4 k5 k6 k7)
            | (go_at_call 25; (with_reducible refine (C4.out _).mono ?_); rintro e w4 ⟨rfl, hb⟩; have Q4 := Lib.hid (Q3.out.next hb); clear hb C4 k0 k1 k2 k3 k4 k5 k6 k7))
          go_ret
          exact ⟨by rw [HX.out]; rfl, Q4.out.bel⟩
set_option maxHeartbeats 4000000 in
set_option maxRecDepth 100000 in
theorem pparts_any (ax ay bx by_ cx cy dx dy : Int) (w : World) (ha : fiP (ax, ay)) (hb : fiP (bx, by_)) (hc : fiP (cx, cy)) (hd : fiP (dx, dy)) : Calls Try.prog 27 #[.agg #[.int .i64 ax, .int .i64 ay], .agg #[.int .i64 bx, .int .i64 by_], .agg #[.int .i64 cx, .int .i64 cy], .agg #[.int .i64 dx, .int .i64 dy]] w fun e w' => e = .returned (.bool (decide (Prt (ax, ay) (bx, by_) (cx, cy) (dx, dy)))) ∧ Below w.heap.size w w' := by
  have Q0 := Lib.hid (QdS.new w ax ay bx by_ cx cy dx dy)
  have C1 := Lib.hid (fun W => ptn_any ax ay bx by_ cx cy W ha hb hc)
  have C2 := Lib.hid (fun W => ptn_any ax ay bx by_ dx dy W ha hb hd)
  have q1 := sg_mul (crs (ax, ay) (bx, by_) (cx, cy)) (crs (ax, ay) (bx, by_) (dx, dy))
  have HX := Lib.hid (show decide (Prt (ax, ay) (bx, by_) (cx, cy) (dx, dy)) = decide (sg (crs (ax, ay) (bx, by_) (cx, cy)) * sg (crs (ax, ay) (bx, by_) (dx, dy)) < 0) from rfl)
  obtain ⟨s1, hs1⟩ : ∃ s, s = sg (crs (ax, ay) (bx, by_) (cx, cy)) := ⟨_, rfl⟩
  rw [← hs1] at C1 q1 HX
  obtain ⟨s2, hs2⟩ : ∃ s, s = sg (crs (ax, ay) (bx, by_) (dx, dy)) := ⟨_, rfl⟩
  rw [← hs2] at C2 q1 HX
  obtain ⟨r, hr⟩ : ∃ r, r = decide (s1 * s2 < 0) := ⟨_, rfl⟩
  rw [← hr] at HX
  have g1 := hr.symm
  obtain ⟨k0, k1, k2, k3, k4, k5, k6, k7⟩ := Q0.out.cells
  dsimp only at k0 k1 k2 k3 k4 k5 k6 k7
  clear ha hb hc hd hs1 hs2 hr
  have R0 := Lib.hid Q0.out.drew
  go_enter Try.func27, Try.ntmps27
  go_wp2_with fail
  go_region_held3 (fun w' => w'.cell? ⟨w.heap.size, 0, none⟩ = some (.int .i64 ax) ∧ w'.cell? ⟨w.heap.size, 1, none⟩ = some (.int .i64 ay) ∧ w'.cell? ⟨w.heap.size + 1, 0, none⟩ = some (.int .i64 bx) ∧ w'.cell? ⟨w.heap.size + 1, 1, none⟩ = some (.int .i64 by_) ∧ w'.cell? ⟨w.heap.size + 1 + 1, 0, none⟩ = some (.int .i64 cx) ∧ w'.cell? ⟨w.heap.size + 1 + 1, 1, none⟩ = some (.int .i64 cy) ∧ w'.cell? ⟨w.heap.size + 1 + 1 + 1, 0, none⟩ = some (.int .i64 dx) ∧ w'.cell? ⟨w.heap.size + 1 + 1 + 1, 1, none⟩ = some (.int .i64 dy))
    (first | exact ⟨k0, k1, k2, k3, k4, k5, k6, k7⟩ | go_keep)
    (first
      | (go_at_call 24; (with_reducible refine (C1.out _).mono ?_); rintro e v1 ⟨rfl, hb⟩; have R1 := Lib.hid (R0.out.next hb); clear hb C1; obtain ⟨k0, k1, k2, k3, k4, k5, k6, k7⟩ := R1.out.cells; dsimp only at k0 k1 k2 k3 k4 k5 k6 k7)
      | (go_at_call 24; (with_reducible refine (C2.out _).mono ?_); rintro e v2 ⟨rfl, hb⟩; have R2 := Lib.hid (R1.out.next hb); clear hb C2; obtain ⟨k0, k1, k2, k3, k4, k5, k6, k7⟩ := R2.out.cells; dsimp only at k0 k1 k2 k3 k4 k5 k6 k7))
  go_wp2_with fail
  go_ret
  exact ⟨by rw [HX.out]; rfl, R2.out.bel⟩
end Go.Proofs.Ytiififjbljiggaa
