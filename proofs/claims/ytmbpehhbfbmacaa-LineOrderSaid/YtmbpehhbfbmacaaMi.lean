/- Proved here: what line's Ray and Segment answer. No condition. -/
import Derived.Test.YtmbpehhbfbmacaaMh
namespace Go.Proofs.Ytmbpehhbfbmacaa
open Go.RowKit

theorem ry_near {p a d : P2} {r n : Int} (h : ok3 a d p) (h2 : dt a d p ≤ 0) : ryA p a d r n = ptA p a r n := by
  unfold ryA ptA
  have h3 : ok3 p a d := ⟨h.2.2, h.1, h.2.1⟩
  have h4 : ok2 p a := ⟨h.2.2, h.1⟩
  by_cases hr : riP r n
  · rw [if_pos ⟨hr, h3⟩, if_pos ⟨hr, h4⟩, ray_near (.inr h2)]
  · rw [if_neg (fun x => hr x.1), if_neg (fun x => hr x.1)]
theorem ry_bes {p a d : P2} {r n : Int} (h : ok3 a d p) (h2 : ¬ dt a d p ≤ 0) (hi lo m : Nat) (h5 : numW hi lo = cab a d p * cab a d p) (h6 : m = dsq a d) : ryA p a d r n = ofA hi lo 0 m r n := by
  unfold ryA ofA
  have h3 : ok3 p a d := ⟨h.2.2, h.1, h.2.1⟩
  have hne : a ≠ d := by
    rintro rfl
    exact h2 (by unfold dt; simp)
  have hp := dsq_pos hne
  by_cases hr : riP r n
  · rw [if_pos ⟨hr, h3⟩, if_pos hr, if_neg (by omega), ray_bes hne h2, h5]
    unfold besN
    rw [show numW 0 m = dsq a d by simp [numW, h6]]
  · rw [if_neg (fun x => hr x.1), if_neg hr]
theorem sg_near {p a b : P2} {r n : Int} (h : ok3 b a p) (h2 : dt b a p ≤ 0) : sgA p a b r n = ptA p b r n := by
  unfold sgA ptA
  have h3 : ok3 p a b := ⟨h.2.2, h.2.1, h.1⟩
  have h4 : ok2 p b := ⟨h.2.2, h.1⟩
  by_cases hr : riP r n
  · rw [if_pos ⟨hr, h3⟩, if_pos ⟨hr, h4⟩]
    by_cases hab : a = b
    · rw [seg_one (.inl hab), hab]
    · have hs := dt_sum a b p
      have hpos := dsq_pos hab
      have := dsq_int a b
      rw [seg_two hab (by omega) h2]
  · rw [if_neg (fun x => hr x.1), if_neg (fun x => hr x.1)]
theorem sg_ray {p a b : P2} {r n : Int} (h2 : ¬ dt b a p ≤ 0) : sgA p a b r n = ryA p a b r n := by
  unfold sgA ryA
  by_cases hr : riP r n ∧ ok3 p a b
  · rw [if_pos hr, if_pos hr]
    unfold segN rayN
    rw [if_neg h2]
  · rw [if_neg hr, if_neg hr]
theorem pray_near (px py ax ay dx dy r n : Int) (w : World) (h : ok3 (ax, ay) (dx, dy) (px, py)) (h2 : dt (ax, ay) (dx, dy) (px, py) ≤ 0) : Calls Try.prog 9 #[.agg #[.int .i64 px, .int .i64 py], .agg #[.int .i64 ax, .int .i64 ay], .agg #[.int .i64 dx, .int .i64 dy], .int .i64 r, .int .i64 n] w fun e w' => e = .returned (.tuple #[.int .i64 (ryA (px, py) (ax, ay) (dx, dy) r n).1, .int .i64 (ryA (px, py) (ax, ay) (dx, dy) r n).2]) ∧ Below w.heap.size w w' := by
  have Q0 := Lib.hid (TrS.new w px py ax ay dx dy)
  obtain ⟨k0, k1, k2, k3, k4, k5⟩ := Q0.out.cells
  dsimp only at k0 k1 k2 k3 k4 k5
  have C1 := Lib.hid (fun W => pdot_any ax ay dx dy px py W)
  have C2 := Lib.hid (fun W => ppoint_any px py ax ay r n W)
  rw [← ry_near h h2] at C2
  obtain ⟨R, hR⟩ : ∃ R, R = ryA (px, py) (ax, ay) (dx, dy) r n := ⟨_, rfl⟩
  rw [← hR] at C2 ⊢
  obtain ⟨d, hd⟩ : ∃ d, d = dt (ax, ay) (dx, dy) (px, py) := ⟨_, rfl⟩
  rw [show dtA (ax, ay) (dx, dy) (px, py) = (d, 0) by rw [hd]; exact if_pos h] at C1
  rw [← hd] at h2
  clear h hR hd
  go_enter Try.func9, Try.ntmps9
  go_wp2_with (first
    | (go_at_call 18; (with_reducible refine (C1.out _).mono ?_); rintro e w1 ⟨rfl, hb⟩; have Q1 := Lib.hid (Q0.out.next hb); clear hb; clear k0 k1 k2 k3 k4 k5; obtain ⟨k0, k1, k2, k3, k4, k5⟩ := Q1.out.cells; dsimp only at k0 k1 k2 k3 k4 k5)
    | (go_at_call 7; (with_reducible refine (C2.out _).mono ?_); rintro e w2 ⟨rfl, hb⟩; have Q2 := Lib.hid (Q1.out.next hb); clear hb C2))
  go_ret2
  exact ⟨rfl, Q2.out.bel⟩
theorem pray_wrong (px py ax ay dx dy r n : Int) (w : World) (h : ¬ ok3 (ax, ay) (dx, dy) (px, py)) : Calls Try.prog 9 #[.agg #[.int .i64 px, .int .i64 py], .agg #[.int .i64 ax, .int .i64 ay], .agg #[.int .i64 dx, .int .i64 dy], .int .i64 r, .int .i64 n] w fun e w' => e = .returned (.tuple #[.int .i64 (ryA (px, py) (ax, ay) (dx, dy) r n).1, .int .i64 (ryA (px, py) (ax, ay) (dx, dy) r n).2]) ∧ Below w.heap.size w w' := by
  have Q0 := Lib.hid (TrS.new w px py ax ay dx dy)
  obtain ⟨k0, k1, k2, k3, k4, k5⟩ := Q0.out.cells
  dsimp only at k0 k1 k2 k3 k4 k5
  have C1 := Lib.hid (fun W => pdot_any ax ay dx dy px py W)
  rw [show dtA (ax, ay) (dx, dy) (px, py) = (0, 1) from if_neg h] at C1
  rw [show ryA (px, py) (ax, ay) (dx, dy) r n = (0, 1) from if_neg fun x => h ⟨x.2.2.1, x.2.2.2, x.2.1⟩]
  clear h
  go_enter Try.func9, Try.ntmps9
  go_wp2_with (first
    | (go_at_call 18; (with_reducible refine (C1.out _).mono ?_); rintro e w1 ⟨rfl, hb⟩; have Q1 := Lib.hid (Q0.out.next hb); clear hb))
  go_ret2
  exact ⟨rfl, Q1.out.bel⟩
set_option maxHeartbeats 8000000 in
set_option maxRecDepth 100000 in
theorem pray_bes (px py ax ay dx dy r n : Int) (w : World) (h : ok3 (ax, ay) (dx, dy) (px, py)) (h2 : ¬ dt (ax, ay) (dx, dy) (px, py) ≤ 0) : Calls Try.prog 9 #[.agg #[.int .i64 px, .int .i64 py], .agg #[.int .i64 ax, .int .i64 ay], .agg #[.int .i64 dx, .int .i64 dy], .int .i64 r, .int .i64 n] w fun e w' => e = .returned (.tuple #[.int .i64 (ryA (px, py) (ax, ay) (dx, dy) r n).1, .int .i64 (ryA (px, py) (ax, ay) (dx, dy) r n).2]) ∧ Below w.heap.size w w' := by
  have Q0 := Lib.hid (TrS.new w px py ax ay dx dy)
  obtain ⟨k0, k1, k2, k3, k4, k5⟩ := Q0.out.cells
  dsimp only at k0 k1 k2 k3 k4 k5
  have C1 := Lib.hid (fun W => pdot_any ax ay dx dy px py W)
  have C2 := Lib.hid (fun W => pcross_any ax ay dx dy px py W)
  have C3 := Lib.hid (fun W => pfar_any ax ay dx dy W)
  obtain ⟨s, hs⟩ : ∃ s, s = cab (ax, ay) (dx, dy) (px, py) := ⟨_, rfl⟩
  have hs2 : s ≤ 9007199254740992 := by rw [hs]; exact cab_in h.2.2 h.1 h.2.1
  obtain ⟨m, hm⟩ : ∃ m, m = dsq (ax, ay) (dx, dy) := ⟨_, rfl⟩
  have hd2 := dsq_eq h.1 h.2.1
  rw [← hm] at hd2
  rw [show farA (ax, ay) (dx, dy) = ((m : Int), 0) by rw [← hd2.1]; exact if_pos ⟨h.1, h.2.1⟩] at C3
  have C5 := Lib.hid (of_pt m)
  have C4 := Lib.hid (fun W => mul_any s s W (by omega) (by omega))
  obtain ⟨hi, hhi⟩ : ∃ hi, hi = pHi s s := ⟨_, rfl⟩
  obtain ⟨lo, hlo⟩ : ∃ lo, lo = pLo s s := ⟨_, rfl⟩
  rw [← hhi, ← hlo] at C4
  have hn : numW hi lo = s * s := by rw [hhi, hlo]; exact Nat.div_add_mod' _ _
  have hss : s * s ≤ 9007199254740992 * 9007199254740992 := Nat.mul_le_mul hs2 hs2
  have C6 := Lib.hid (fun W => show Calls Try.prog 14 #[.agg #[.int .u64 (hi : Int), .int .u64 (lo : Int)], .agg #[.int .u64 0, .int .u64 (m : Int)], .int .i64 r, .int .i64 n] W _ from pof_any hi lo 0 m r n W (by rw [hhi]; unfold pHi; omega) (by rw [hlo]; exact Nat.mod_lt _ (by decide)) (by omega) (by omega))
  rw [← ry_bes h h2 hi lo m (by rw [hn, hs]) hm] at C6
  obtain ⟨R, hR⟩ : ∃ R, R = ryA (px, py) (ax, ay) (dx, dy) r n := ⟨_, rfl⟩
  rw [← hR] at C6 ⊢
  obtain ⟨c, hc⟩ : ∃ c, c = crs (ax, ay) (dx, dy) (px, py) := ⟨_, rfl⟩
  rw [show crsA (ax, ay) (dx, dy) (px, py) = (c, 0) by rw [hc]; exact if_pos h] at C2
  have hsc : s = c.natAbs := by rw [hs, hc]; rfl
  obtain ⟨d, hd⟩ : ∃ d, d = dt (ax, ay) (dx, dy) (px, py) := ⟨_, rfl⟩
  rw [show dtA (ax, ay) (dx, dy) (px, py) = (d, 0) by rw [hd]; exact if_pos h] at C1
  rw [← hd] at h2
  have e1 : IntKind.u64.wrap (m : Int) = (m : Int) := by rw [IntKind.wrap_u64]; omega
  have e2 : IntKind.u64.wrap (s : Int) = (s : Int) := by rw [IntKind.wrap_u64]; omega
  have e3 : IntKind.i64.wrap (-c) = -c := i64_in _ (by omega)
  have e4 : (if c < -c then -c else c) = (s : Int) := by split <;> omega
  clear h hR hd hc hs hs2 hm hd2 hhi hlo hn hss hsc
  go_enter Try.func9, Try.ntmps9
  go_wp2_with (first
    | (go_at_call 18; (with_reducible refine (C1.out _).mono ?_); rintro e w1 ⟨rfl, hb⟩; have Q1 := Lib.hid (Q0.out.next hb); clear hb C1; clear k0 k1 k2 k3 k4 k5; obtain ⟨k0, k1, k2, k3, k4, k5⟩ := Q1.out.cells; dsimp only at k0 k1 k2 k3 k4 k5)
    | (go_at_call 19; (with_reducible refine (C2.out _).mono ?_); rintro e w2 ⟨rfl, hb⟩; have Q2 := Lib.hid (Q1.out.next hb); clear hb C2; clear k0 k1 k2 k3 k4 k5; obtain ⟨k0, k1, k2, k3, k4, k5⟩ := Q2.out.cells; dsimp only at k0 k1 k2 k3 k4 k5)
    | (go_at_call 16; (with_reducible refine (C3.out _).mono ?_); rintro e w3 ⟨rfl, hb⟩; have Q3 := Lib.hid (Q2.out.next hb); clear hb C3; clear k0 k1 k2 k3 k4 k5; obtain ⟨k0, k1, k2, k3, k4, k5⟩ := Q3.out.cells; dsimp only at k0 k1 k2 k3 k4 k5)
    | (go_at_call 20; (with_reducible refine (C4.out _).mono ?_); rintro e w4 ⟨rfl, hb⟩; have Q4 := Lib.hid (Q3.out.next hb); clear hb C4)
    | (go_at_call 17; (with_reducible refine (C5.out _).mono ?_); rintro e w5 ⟨rfl, hb⟩; have Q5 := Lib.hid (Q4.out.next hb); clear hb C5)
    | (go_at_call 14; (with_reducible refine (C6.out _).mono ?_); rintro e w6 ⟨rfl, hb⟩; have Q6 := Lib.hid (Q5.out.next hb); clear hb C6))
  go_ret2
  exact ⟨rfl, Q6.out.bel⟩
theorem pray_any (px py ax ay dx dy r n : Int) (w : World) : Calls Try.prog 9 #[.agg #[.int .i64 px, .int .i64 py], .agg #[.int .i64 ax, .int .i64 ay], .agg #[.int .i64 dx, .int .i64 dy], .int .i64 r, .int .i64 n] w fun e w' => e = .returned (.tuple #[.int .i64 (ryA (px, py) (ax, ay) (dx, dy) r n).1, .int .i64 (ryA (px, py) (ax, ay) (dx, dy) r n).2]) ∧ Below w.heap.size w w' := by
  by_cases h : ok3 (ax, ay) (dx, dy) (px, py)
  · by_cases h2 : dt (ax, ay) (dx, dy) (px, py) ≤ 0
    · exact pray_near px py ax ay dx dy r n w h h2
    · exact pray_bes px py ax ay dx dy r n w h h2
  · exact pray_wrong px py ax ay dx dy r n w h
set_option maxHeartbeats 8000000 in
set_option maxRecDepth 100000 in
theorem pseg_any (px py ax ay bx by_ r n : Int) (w : World) : Calls Try.prog 8 #[.agg #[.int .i64 px, .int .i64 py], .agg #[.int .i64 ax, .int .i64 ay], .agg #[.int .i64 bx, .int .i64 by_], .int .i64 r, .int .i64 n] w fun e w' => e = .returned (.tuple #[.int .i64 (sgA (px, py) (ax, ay) (bx, by_) r n).1, .int .i64 (sgA (px, py) (ax, ay) (bx, by_) r n).2]) ∧ Below w.heap.size w w' := by
  have Q0 := Lib.hid (TrS.new w px py ax ay bx by_)
  obtain ⟨k0, k1, k2, k3, k4, k5⟩ := Q0.out.cells
  dsimp only at k0 k1 k2 k3 k4 k5
  have C1 := Lib.hid (fun W => pdot_any bx by_ ax ay px py W)
  by_cases h : ok3 (bx, by_) (ax, ay) (px, py)
  · have C2 := Lib.hid (fun W => ppoint_any px py bx by_ r n W)
    have C3 := Lib.hid (fun W => pray_any px py ax ay bx by_ r n W)
    obtain ⟨d, hd⟩ : ∃ d, d = dt (bx, by_) (ax, ay) (px, py) := ⟨_, rfl⟩
    rw [show dtA (bx, by_) (ax, ay) (px, py) = (d, 0) by rw [hd]; exact if_pos h] at C1
    by_cases h2 : dt (bx, by_) (ax, ay) (px, py) ≤ 0
    · rw [← sg_near h h2] at C2
      obtain ⟨R, hR⟩ : ∃ R, R = sgA (px, py) (ax, ay) (bx, by_) r n := ⟨_, rfl⟩
      rw [← hR] at C2 ⊢
      rw [← hd] at h2
      clear h hR hd C3
      go_enter Try.func8, Try.ntmps8
      go_wp2_with (first
        | (go_at_call 18; (with_reducible refine (C1.out _).mono ?_); rintro e w1 ⟨rfl, hb⟩; have Q1 := Lib.hid (Q0.out.next hb); clear hb; clear k0 k1 k2 k3 k4 k5; obtain ⟨k0, k1, k2, k3, k4, k5⟩ := Q1.out.cells; dsimp only at k0 k1 k2 k3 k4 k5)
        | (go_at_call 7; (with_reducible refine (C2.out _).mono ?_); rintro e w2 ⟨rfl, hb⟩; have Q2 := Lib.hid (Q1.out.next hb); clear hb C2))
      go_ret2
      exact ⟨rfl, Q2.out.bel⟩
    · rw [← sg_ray h2] at C3
      obtain ⟨R, hR⟩ : ∃ R, R = sgA (px, py) (ax, ay) (bx, by_) r n := ⟨_, rfl⟩
      rw [← hR] at C3 ⊢
      rw [← hd] at h2
      clear h hR hd C2
      go_enter Try.func8, Try.ntmps8
      go_wp2_with (first
        | (go_at_call 18; (with_reducible refine (C1.out _).mono ?_); rintro e w1 ⟨rfl, hb⟩; have Q1 := Lib.hid (Q0.out.next hb); clear hb; clear k0 k1 k2 k3 k4 k5; obtain ⟨k0, k1, k2, k3, k4, k5⟩ := Q1.out.cells; dsimp only at k0 k1 k2 k3 k4 k5)
        | (go_at_call 9; (with_reducible refine (C3.out _).mono ?_); rintro e w2 ⟨rfl, hb⟩; have Q2 := Lib.hid (Q1.out.next hb); clear hb C3))
      go_ret2
      exact ⟨rfl, Q2.out.bel⟩
  · rw [show dtA (bx, by_) (ax, ay) (px, py) = (0, 1) from if_neg h] at C1
    rw [show sgA (px, py) (ax, ay) (bx, by_) r n = (0, 1) from if_neg fun x => h ⟨x.2.2.2, x.2.2.1, x.2.1⟩]
    clear h
    go_enter Try.func8, Try.ntmps8
    go_wp2_with (first
      | (go_at_call 18; (with_reducible refine (C1.out _).mono ?_); rintro e w1 ⟨rfl, hb⟩; have Q1 := Lib.hid (Q0.out.next hb); clear hb))
    go_ret2
    exact ⟨rfl, Q1.out.bel⟩
end Go.Proofs.Ytmbpehhbfbmacaa
