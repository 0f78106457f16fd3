/- Proved here: the program's Cross, Dot, Turn, Between, Far. No condition. -/
import Derived.Test.YtmbpehhbfbmacaaPPPb
import Derived.Test.YtmbpehhbfbmacaaPPPa
import Derived.Test.YtmbpehhbfbmacaaPPAp
namespace Go.Proofs.Ytmbpehhbfbmacaa
open Go.RowKit

theorem rowz {W : World} {o : Obj} {g : Nat} (h : g = W.heap.size) : (W.alloc o).heap[g]? = some o := by subst h; exact heap_alloc_new W o
theorem allP3 (a b c : P2) : AllP [a, b, c] ↔ ok3 a b c := ⟨fun h => ⟨h 0 (by simp), h 1 (by simp), h 2 (by simp)⟩, fun h i hi => by
  match i, hi with
  | 0, _ => exact h.1
  | 1, _ => exact h.2.1
  | 2, _ => exact h.2.2⟩
theorem pall3 (a b c : P2) (W : World) (g : Nat) (hr : Prow W g [a, b, c]) : Calls Try.prog 32 #[.slice (some ⟨g, 0, none⟩) 3 3] W fun e w' => e = .returned (.bool (decide (ok3 a b c))) ∧ Below W.heap.size W w' := by
  rw [← decide_eq_decide.2 (allP3 a b c)]
  exact pall_any g 3 3 [a, b, c] W hr rfl (by omega)
set_option maxHeartbeats 4000000 in
set_option maxRecDepth 100000 in
theorem pcross_any (ax ay bx by_ cx cy : Int) (w : World) : Calls Try.prog 19 #[.agg #[.int .i64 ax, .int .i64 ay], .agg #[.int .i64 bx, .int .i64 by_], .agg #[.int .i64 cx, .int .i64 cy]] w fun e w' => e = .returned (.tuple #[.int .i64 (crsA (ax, ay) (bx, by_) (cx, cy)).1, .int .i64 (crsA (ax, ay) (bx, by_) (cx, cy)).2]) ∧ Below w.heap.size w w' := by
  have Q0 := Lib.hid (T3S.new w ax ay bx by_ cx cy)
  have CA := Lib.hid (pall3 (ax, ay) (bx, by_) (cx, cy))
  obtain ⟨k0, k1, k2, k3, k4, k5⟩ := Q0.out.cells
  dsimp only at k0 k1 k2 k3 k4 k5
  by_cases h : ok3 (ax, ay) (bx, by_) (cx, cy)
  · have C1 := Lib.hid (fun W => pcr_any ax ay bx by_ cx cy W h.1 h.2.1 h.2.2)
    rw [decide_eq_true h] at CA
    have HX := Lib.hid (show crsA (ax, ay) (bx, by_) (cx, cy) = (crs (ax, ay) (bx, by_) (cx, cy), 0) from if_pos h)
    clear h
    go_enter Try.func19, Try.ntmps19
    go_wp2_with (first
      | (go_at_call 32; (with_reducible refine (CA.out _ _ ?_).mono ?_); (focus (show (World.heap _)[_]? = some (Obj.cells #[.int .i64 ax, .int .i64 ay, .int .i64 bx, .int .i64 by_, .int .i64 cx, .int .i64 cy] 23); exact rowz (by simp); done)); rintro e w1 ⟨rfl, hb⟩; have Q1 := Lib.hid (Q0.out.row hb); clear hb CA k0 k1 k2 k3 k4 k5; obtain ⟨k0, k1, k2, k3, k4, k5⟩ := Q1.out.cells; dsimp only at k0 k1 k2 k3 k4 k5)
      | (go_at_call 34; (with_reducible refine (C1.out _).mono ?_); rintro e w2 ⟨rfl, hb⟩; have Q2 := Lib.hid (Q1.out.next hb); clear hb C1))
    go_ret2
    exact ⟨by rw [HX.out]; rfl, Q2.out.bel⟩
  · rw [decide_eq_false h] at CA
    have HX := Lib.hid (show crsA (ax, ay) (bx, by_) (cx, cy) = (0, 1) from if_neg h)
    clear h
    go_enter Try.func19, Try.ntmps19
    go_wp2_with (first
      | (go_at_call 32; (with_reducible refine (CA.out _ _ ?_).mono ?_); (focus (show (World.heap _)[_]? = some (Obj.cells #[.int .i64 ax, .int .i64 ay, .int .i64 bx, .int .i64 by_, .int .i64 cx, .int .i64 cy] 23); exact rowz (by simp); done)); rintro e w1 ⟨rfl, hb⟩; have Q1 := Lib.hid (Q0.out.row hb); clear hb CA k0 k1 k2 k3 k4 k5))
    go_ret2
    exact ⟨by rw [HX.out]; rfl, Q1.out.bel⟩
set_option maxHeartbeats 4000000 in
set_option maxRecDepth 100000 in
theorem pdot_any (ax ay bx by_ cx cy : Int) (w : World) : Calls Try.prog 18 #[.agg #[.int .i64 ax, .int .i64 ay], .agg #[.int .i64 bx, .int .i64 by_], .agg #[.int .i64 cx, .int .i64 cy]] w fun e w' => e = .returned (.tuple #[.int .i64 (dtA (ax, ay) (bx, by_) (cx, cy)).1, .int .i64 (dtA (ax, ay) (bx, by_) (cx, cy)).2]) ∧ Below w.heap.size w w' := by
  have Q0 := Lib.hid (T3S.new w ax ay bx by_ cx cy)
  have CA := Lib.hid (pall3 (ax, ay) (bx, by_) (cx, cy))
  obtain ⟨k0, k1, k2, k3, k4, k5⟩ := Q0.out.cells
  dsimp only at k0 k1 k2 k3 k4 k5
  by_cases h : ok3 (ax, ay) (bx, by_) (cx, cy)
  · have C1 := Lib.hid (fun W => pdt_any ax ay bx by_ cx cy W h.1 h.2.1 h.2.2)
    rw [decide_eq_true h] at CA
    have HX := Lib.hid (show dtA (ax, ay) (bx, by_) (cx, cy) = (dt (ax, ay) (bx, by_) (cx, cy), 0) from if_pos h)
    clear h
    go_enter Try.func18, Try.ntmps18
    go_wp2_with (first
      | (go_at_call 32; (with_reducible refine (CA.out _ _ ?_).mono ?_); (focus (show (World.heap _)[_]? = some (Obj.cells #[.int .i64 ax, .int .i64 ay, .int .i64 bx, .int .i64 by_, .int .i64 cx, .int .i64 cy] 23); exact rowz (by simp); done)); rintro e w1 ⟨rfl, hb⟩; have Q1 := Lib.hid (Q0.out.row hb); clear hb CA k0 k1 k2 k3 k4 k5; obtain ⟨k0, k1, k2, k3, k4, k5⟩ := Q1.out.cells; dsimp only at k0 k1 k2 k3 k4 k5)
      | (go_at_call 33; (with_reducible refine (C1.out _).mono ?_); rintro e w2 ⟨rfl, hb⟩; have Q2 := Lib.hid (Q1.out.next hb); clear hb C1))
    go_ret2
    exact ⟨by rw [HX.out]; rfl, Q2.out.bel⟩
  · rw [decide_eq_false h] at CA
    have HX := Lib.hid (show dtA (ax, ay) (bx, by_) (cx, cy) = (0, 1) from if_neg h)
    clear h
    go_enter Try.func18, Try.ntmps18
    go_wp2_with (first
      | (go_at_call 32; (with_reducible refine (CA.out _ _ ?_).mono ?_); (focus (show (World.heap _)[_]? = some (Obj.cells #[.int .i64 ax, .int .i64 ay, .int .i64 bx, .int .i64 by_, .int .i64 cx, .int .i64 cy] 23); exact rowz (by simp); done)); rintro e w1 ⟨rfl, hb⟩; have Q1 := Lib.hid (Q0.out.row hb); clear hb CA k0 k1 k2 k3 k4 k5))
    go_ret2
    exact ⟨by rw [HX.out]; rfl, Q1.out.bel⟩
theorem far_dt (a b : P2) : dtA a b b = farA a b := by
  unfold dtA farA
  by_cases h : ok2 a b
  · rw [if_pos h, if_pos (show ok3 a b b from ⟨h.1, h.2, h.2⟩)]
  · rw [if_neg h, if_neg (show ¬ ok3 a b b from fun h2 => h ⟨h2.1, h2.2.1⟩)]
set_option maxHeartbeats 4000000 in
set_option maxRecDepth 100000 in
theorem pfar_any (ax ay bx by_ : Int) (w : World) : Calls Try.prog 16 #[.agg #[.int .i64 ax, .int .i64 ay], .agg #[.int .i64 bx, .int .i64 by_]] w fun e w' => e = .returned (.tuple #[.int .i64 (farA (ax, ay) (bx, by_)).1, .int .i64 (farA (ax, ay) (bx, by_)).2]) ∧ Below w.heap.size w w' := by
  obtain ⟨p0, p1, hbw⟩ := box2 w ax ay bx by_
  have HB := Lib.hid hbw
  have C1 := Lib.hid (fun W => pdot_any ax ay bx by_ bx by_ W)
  rw [far_dt (ax, ay) (bx, by_)] at C1
  obtain ⟨c0, c1, _, _⟩ := p0.cells
  obtain ⟨d0, d1, _, _⟩ := p1.cells
  dsimp only at c0 c1 d0 d1
  clear p0 p1 hbw
  go_enter Try.func16, Try.ntmps16
  go_wp2_with (first
    | (go_at_call 18; (with_reducible refine (C1.out _).mono ?_); rintro e w1 ⟨rfl, hb⟩; have HB1 := Lib.hid (HB.out.trans (hb.mono HB.out.size)); clear hb C1))
  go_ret2
  exact ⟨rfl, HB1.out⟩
end Go.Proofs.Ytmbpehhbfbmacaa
