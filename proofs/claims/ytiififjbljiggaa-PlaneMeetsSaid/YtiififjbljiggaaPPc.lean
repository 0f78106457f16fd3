/- Proved here: on which side points are, and which points are on lines (the program's turn, between). Condition: points that may be. -/
import Derived.Test.YtiififjbljiggaaPPb
namespace Go.Proofs.Ytiififjbljiggaa
open Go.RowKit

set_option maxHeartbeats 4000000 in
set_option maxRecDepth 100000 in
theorem pnan_any (n : Int) (w : World) : Calls Try.prog 32 #[.int .i64 n] w fun e w' => e = .returned (.bool false) ∧ w' = w := by
  have g : (n == n) = true := by simp
  go_enter Try.func32, Try.ntmps32
  go_wp2_with fail
  go_ret
  exact ⟨by first | rfl | simp, rfl⟩
set_option maxHeartbeats 4000000 in
set_option maxRecDepth 100000 in
theorem pcmp_any (n : Int) (w : World) : Calls Try.prog 31 #[.int .i64 n, .int .i64 0] w fun e w' => e = .returned (.int .i64 (sg n)) ∧ w' = w := by
  have N1 := Lib.hid (fun W => pnan_any n W)
  have N2 := Lib.hid (fun W => pnan_any 0 W)
  have HS := Lib.hid (show sg n = if n < 0 then -1 else if 0 < n then 1 else 0 from rfl)
  by_cases h1 : n < 0
  · have HX := Lib.hid (HS.out.trans (if_pos h1))
    have g1 : decide (n < 0) = true := decide_eq_true h1
    clear h1
    go_enter Try.func31, Try.ntmps31
    go_wp2_with (first
      | (go_at_call 32; (with_reducible refine (N1.out _).mono ?_); rintro e w1 ⟨rfl, rfl⟩; clear N1)
      | (go_at_call 32; (with_reducible refine (N2.out _).mono ?_); rintro e w1 ⟨rfl, rfl⟩; clear N2))
    go_ret
    exact ⟨by rw [HX.out]; rfl, rfl⟩
  · have g1 : decide (n < 0) = false := decide_eq_false h1
    by_cases h2 : 0 < n
    · have HX := Lib.hid ((HS.out.trans (if_neg h1)).trans (if_pos h2))
      have g2 : decide (0 < n) = true := decide_eq_true h2
      have g3 : decide (n > 0) = true := decide_eq_true h2
      clear h1 h2
      go_enter Try.func31, Try.ntmps31
      go_wp2_with (first
        | (go_at_call 32; (with_reducible refine (N1.out _).mono ?_); rintro e w1 ⟨rfl, rfl⟩; clear N1)
        | (go_at_call 32; (with_reducible refine (N2.out _).mono ?_); rintro e w1 ⟨rfl, rfl⟩; clear N2))
      go_ret
      exact ⟨by rw [HX.out]; rfl, rfl⟩
    · have HX := Lib.hid ((HS.out.trans (if_neg h1)).trans (if_neg h2))
      have g2 : decide (0 < n) = false := decide_eq_false h2
      have g3 : decide (n > 0) = false := decide_eq_false h2
      clear h1 h2
      go_enter Try.func31, Try.ntmps31
      go_wp2_with (first
        | (go_at_call 32; (with_reducible refine (N1.out _).mono ?_); rintro e w1 ⟨rfl, rfl⟩; clear N1)
        | (go_at_call 32; (with_reducible refine (N2.out _).mono ?_); rintro e w1 ⟨rfl, rfl⟩; clear N2))
      go_ret
      exact ⟨by rw [HX.out]; rfl, rfl⟩
set_option maxHeartbeats 4000000 in
set_option maxRecDepth 100000 in
theorem ptn_any (ax ay bx by_ cx cy : Int) (w : World) (ha : fiP (ax, ay)) (hb : fiP (bx, by_)) (hc : fiP (cx, cy)) : Calls Try.prog 24 #[.agg #[.int .i64 ax, .int .i64 ay], .agg #[.int .i64 bx, .int .i64 by_], .agg #[.int .i64 cx, .int .i64 cy]] w fun e w' => e = .returned (.int .i64 (sg (crs (ax, ay) (bx, by_) (cx, cy)))) ∧ Below w.heap.size w w' := by
  have Q0 := Lib.hid (T3S.new w ax ay bx by_ cx cy)
  have C1 := Lib.hid (fun W => pcr_any ax ay bx by_ cx cy W ha hb hc)
  obtain ⟨z, hz⟩ : ∃ z, z = crs (ax, ay) (bx, by_) (cx, cy) := ⟨_, rfl⟩
  rw [← hz] at C1
  have C2 := Lib.hid (fun W => pcmp_any z W)
  have HZ := Lib.hid hz
  obtain ⟨k0, k1, k2, k3, k4, k5⟩ := Q0.out.cells
  dsimp only at k0 k1 k2 k3 k4 k5
  clear hz ha hb hc
  go_enter Try.func24, Try.ntmps24
  go_wp2_with (first
    | (go_at_call 22; (with_reducible refine (C1.out _).mono ?_); rintro e w1 ⟨rfl, hb⟩; have Q1 := Lib.hid (Q0.out.next hb); clear hb C1)
    | (go_at_call 31; (with_reducible refine (C2.out _).mono ?_); rintro e w2 ⟨rfl, rfl⟩; clear C2))
  go_ret
  exact ⟨by rw [← HZ.out]; rfl, Q1.out.bel⟩
/-- One number is between two others. -/
theorem between_mul {a b p : Int} (h : (a - p) * (b - p) ≤ 0) : min a b ≤ p ∧ p ≤ max a b := by
  refine ⟨?_, ?_⟩
  · refine Int.not_lt.1 fun hc => ?_
    have := Int.mul_pos (a := a - p) (b := b - p) (by omega) (by omega)
    omega
  · refine Int.not_lt.1 fun hc => ?_
    have := Int.mul_pos_of_neg_of_neg (a := a - p) (b := b - p) (by omega) (by omega)
    omega
theorem mul_between {a b p : Int} (h : min a b ≤ p ∧ p ≤ max a b) : (a - p) * (b - p) ≤ 0 := by
  obtain ⟨h1, h2⟩ := h
  rcases Int.le_total a b with hab | hab
  · have e : (p - a) * (b - p) = - ((a - p) * (b - p)) := by grind
    have := Int.mul_nonneg (a := p - a) (b := b - p) (by omega) (by omega)
    omega
  · have e : (a - p) * (p - b) = - ((a - p) * (b - p)) := by grind
    have := Int.mul_nonneg (a := a - p) (b := p - b) (by omega) (by omega)
    omega
theorem mul_self_nn (n : Int) : 0 ≤ n * n := by
  rcases Int.le_total 0 n with h | h
  · exact Int.mul_nonneg h h
  · have := Int.mul_nonneg (a := -n) (b := -n) (by omega) (by omega)
    have e : -n * -n = n * n := by grind
    omega
theorem two_prod {u v x y : Int} (h : u * y = v * x) (hs : u * x + v * y ≤ 0) : u * x ≤ 0 := by
  refine Int.not_lt.1 fun hc => ?_
  have h2 : v * y < 0 := by omega
  have h3 : (u * x) * (-(v * y)) > 0 := Int.mul_pos hc (by omega)
  have h4 : (u * x) * (-(v * y)) = - ((u * y) * (v * x)) := by grind
  have h5 : 0 ≤ (u * y) * (v * x) := by rw [h]; exact mul_self_nn _
  omega
theorem btw_dot (a b p : P2) : Btw a b p ↔ crs a b p = 0 ∧ dt p a b ≤ 0 := by
  constructor
  · rintro ⟨h1, h2, h3⟩
    refine ⟨h1, ?_⟩
    have e1 := mul_between h2
    have e2 := mul_between h3
    unfold dt
    omega
  · rintro ⟨h1, h2⟩
    have hk : (a.1 - p.1) * (b.2 - p.2) = (a.2 - p.2) * (b.1 - p.1) := by unfold crs at h1; grind
    unfold dt at h2
    refine ⟨h1, between_mul (two_prod hk h2), between_mul (two_prod (u := a.2 - p.2) (v := a.1 - p.1) (x := b.2 - p.2) (y := b.1 - p.1) hk.symm (by omega))⟩
set_option maxHeartbeats 4000000 in
set_option maxRecDepth 100000 in
theorem pbt_any (ax ay bx by_ cx cy : Int) (w : World) (ha : fiP (ax, ay)) (hb : fiP (bx, by_)) (hc : fiP (cx, cy)) : Calls Try.prog 25 #[.agg #[.int .i64 ax, .int .i64 ay], .agg #[.int .i64 bx, .int .i64 by_], .agg #[.int .i64 cx, .int .i64 cy]] w fun e w' => e = .returned (.bool (decide (Btw (ax, ay) (bx, by_) (cx, cy)))) ∧ Below w.heap.size w w' := by
  have Q0 := Lib.hid (T3S.new w ax ay bx by_ cx cy)
  have C1 := Lib.hid (fun W => pcr_any ax ay bx by_ cx cy W ha hb hc)
  have C2 := Lib.hid (fun W => pdt_any cx cy ax ay bx by_ W hc ha hb)
  have HB := Lib.hid (btw_dot (ax, ay) (bx, by_) (cx, cy))
  obtain ⟨z, hz⟩ : ∃ z, z = crs (ax, ay) (bx, by_) (cx, cy) := ⟨_, rfl⟩
  rw [← hz] at C1 HB
  obtain ⟨y, hy⟩ : ∃ y, y = dt (cx, cy) (ax, ay) (bx, by_) := ⟨_, rfl⟩
  rw [← hy] at C2 HB
  obtain ⟨k0, k1, k2, k3, k4, k5⟩ := Q0.out.cells
  dsimp only at k0 k1 k2 k3 k4 k5
  clear hz hy ha hb hc
  by_cases h1 : z = 0
  · have g1 : (z == 0) = true := by simp [h1]
    have HX := Lib.hid (show decide (Btw (ax, ay) (bx, by_) (cx, cy)) = decide (y ≤ 0) from decide_eq_decide.2 (HB.out.trans ⟨fun h => h.2, fun h => ⟨h1, h⟩⟩))
    obtain ⟨r, hr⟩ : ∃ r, r = decide (y ≤ 0) := ⟨_, rfl⟩
    rw [← hr] at HX
    have g2 := hr.symm
    clear h1 hr
    go_enter Try.func25, Try.ntmps25
    go_wp2_with (first
      | (go_at_call 22; (with_reducible refine (C1.out _).mono ?_); rintro e w1 ⟨rfl, hb⟩; have Q1 := Lib.hid (Q0.out.next hb); clear hb C1 k0 k1 k2 k3 k4 k5; obtain ⟨k0, k1, k2, k3, k4, k5⟩ := Q1.out.cells; dsimp only at k0 k1 k2 k3 k4 k5)
      | (go_at_call 23; (with_reducible refine (C2.out _).mono ?_); rintro e w2 ⟨rfl, hb⟩; have Q2 := Lib.hid (Q1.out.next hb); clear hb C2))
    go_ret
    exact ⟨by rw [HX.out]; rfl, Q2.out.bel⟩
  · have g1 : (z == 0) = false := by simp [h1]
    have HX := Lib.hid (show decide (Btw (ax, ay) (bx, by_) (cx, cy)) = false from decide_eq_false fun h => h1 (HB.out.1 h).1)
    clear h1
    go_enter Try.func25, Try.ntmps25
    go_wp2_with (first
      | (go_at_call 22; (with_reducible refine (C1.out _).mono ?_); rintro e w1 ⟨rfl, hb⟩; have Q1 := Lib.hid (Q0.out.next hb); clear hb C1 k0 k1 k2 k3 k4 k5; obtain ⟨k0, k1, k2, k3, k4, k5⟩ := Q1.out.cells; dsimp only at k0 k1 k2 k3 k4 k5))
    go_ret
    exact ⟨by rw [HX.out]; rfl, Q1.out.bel⟩
end Go.Proofs.Ytiififjbljiggaa
