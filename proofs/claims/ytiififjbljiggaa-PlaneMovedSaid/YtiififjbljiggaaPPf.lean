/- Proved here: the program's Meet. No condition. -/
import Derived.Test.YtiififjbljiggaaPPd
import Derived.Test.YtiififjbljiggaaPPe
namespace Go.Proofs.Ytiififjbljiggaa
open Go.RowKit

theorem allP4 (a b c d : P2) : AllP [a, b, c, d] ↔ ok4 a b c d := ⟨fun h => ⟨h 0 (by simp), h 1 (by simp), h 2 (by simp), h 3 (by simp)⟩, fun h i hi => by
  match i, hi with
  | 0, _ => exact h.1
  | 1, _ => exact h.2.1
  | 2, _ => exact h.2.2.1
  | 3, _ => exact h.2.2.2⟩
theorem pall4 (a b c d : P2) (W : World) (g : Nat) (hr : Prow W g [a, b, c, d]) : Calls Try.prog 21 #[.slice (some ⟨g, 0, none⟩) 4 4] W fun e w' => e = .returned (.bool (decide (ok4 a b c d))) ∧ Below W.heap.size W w' := by
  rw [← decide_eq_decide.2 (allP4 a b c d)]
  exact pall_any g 4 4 [a, b, c, d] W hr rfl (by omega)
theorem QdS.row {w W W' : World} {a b c d : P2} {o : Obj} (h : QdS w W a b c d) (hb : Below (W.alloc o).heap.size (W.alloc o) W') : QdS w W' a b c d := (h.next ((Below.refl _ _).alloc (Nat.le_refl _) o)).next hb
set_option maxHeartbeats 4000000 in
set_option maxRecDepth 100000 in
theorem pmeet_any (ax ay bx by_ cx cy dx dy : Int) (w : World) : Calls Try.prog 12 #[.agg #[.int .i64 ax, .int .i64 ay], .agg #[.int .i64 bx, .int .i64 by_], .agg #[.int .i64 cx, .int .i64 cy], .agg #[.int .i64 dx, .int .i64 dy]] w fun e w' => e = .returned (.tuple #[.bool (meetA (ax, ay) (bx, by_) (cx, cy) (dx, dy)).1, .int .i64 (meetA (ax, ay) (bx, by_) (cx, cy) (dx, dy)).2]) ∧ Below w.heap.size w w' := by
  have Q0 := Lib.hid (QdS.new w ax ay bx by_ cx cy dx dy)
  have CA := Lib.hid (pall4 (ax, ay) (bx, by_) (cx, cy) (dx, dy))
  obtain ⟨k0, k1, k2, k3, k4, k5, k6, k7⟩ := Q0.out.cells
  dsimp only at k0 k1 k2 k3 k4 k5 k6 k7
  by_cases h : ok4 (ax, ay) (bx, by_) (cx, cy) (dx, dy)
  · have C1 := Lib.hid (fun W => ptouch_any ax ay bx by_ cx cy dx dy W h.1 h.2.1 h.2.2.1 h.2.2.2)
    have C2 := Lib.hid (fun W => pparts_any ax ay bx by_ cx cy dx dy W h.1 h.2.1 h.2.2.1 h.2.2.2)
    have C3 := Lib.hid (fun W => pparts_any cx cy dx dy ax ay bx by_ W h.2.2.1 h.2.2.2 h.1 h.2.1)
    rw [decide_eq_true h] at CA
    have HM := Lib.hid (show meetA (ax, ay) (bx, by_) (cx, cy) (dx, dy) = (decide (Mt (ax, ay) (bx, by_) (cx, cy) (dx, dy)), 0) from if_pos h)
    clear h
    by_cases h1 : Tch (ax, ay) (bx, by_) (cx, cy) (dx, dy)
    · rw [decide_eq_true h1] at C1
      have HX := Lib.hid (show meetA (ax, ay) (bx, by_) (cx, cy) (dx, dy) = (true, 0) from HM.out.trans (congrArg (fun b => (b, (0 : Int))) (decide_eq_true ((mt_two _ _ _ _).2 (.inl h1)))))
      clear h1 HM
      go_enter Try.func12, Try.ntmps12
      go_wp2_with (first
        | (go_at_call 21; (with_reducible refine (CA.out _ _ ?_).mono ?_); (focus (show (World.heap _)[_]? = some (Obj.cells #[.int .i64 ax, .int .i64 ay, .int .i64 bx, .int .i64 by_, .int .i64 cx, .int .i64 cy, .int .i64 dx, .int .i64 dy] 23); exact rowz (by simp); done)); rintro e w1 ⟨rfl, hb⟩; have Q1 := Lib.hid (Q0.out.row hb); clear hb CA k0 k1 k2 k3 k4 k5 k6 k7; obtain ⟨k0, k1, k2, k3, k4, k5, k6, k7⟩ := Q1.out.cells; dsimp only at k0 k1 k2 k3 k4 k5 k6 k7)
        | (go_at_call 26; (with_reducible refine (C1.out _).mono ?_); rintro e w2 ⟨rfl, hb⟩; have Q2 := Lib.hid (Q1.out.next hb); clear hb C1 k0 k1 k2 k3 k4 k5 k6 k7))
      go_ret2
      exact ⟨by rw [HX.out]; rfl, Q2.out.bel⟩
    · rw [decide_eq_false h1] at C1
      by_cases h2 : Prt (ax, ay) (bx, by_) (cx, cy) (dx, dy)
      · rw [decide_eq_true h2] at C2
        have HX := Lib.hid (show meetA (ax, ay) (bx, by_) (cx, cy) (dx, dy) = (decide (Prt (cx, cy) (dx, dy) (ax, ay) (bx, by_)), 0) from HM.out.trans (congrArg (fun b => (b, (0 : Int))) (decide_eq_decide.2 ((mt_two _ _ _ _).trans ⟨fun h => h.elim (fun h => absurd h h1) (fun h => h.2), fun h => .inr ⟨h2, h⟩⟩))))
        clear h1 h2 HM
        obtain ⟨r, hr⟩ : ∃ r, r = decide (Prt (cx, cy) (dx, dy) (ax, ay) (bx, by_)) := ⟨_, rfl⟩
        rw [← hr] at HX C3
        clear hr
        go_enter Try.func12, Try.ntmps12
        go_wp2_with (first
          | (go_at_call 21; (with_reducible refine (CA.out _ _ ?_).mono ?_); (focus (show (World.heap _)[_]? = some (Obj.cells #[.int .i64 ax, .int .i64 ay, .int .i64 bx, .int .i64 by_, .int .i64 cx, .int .i64 cy, .int .i64 dx, .int .i64 dy] 23); exact rowz (by simp); done)); rintro e w1 ⟨rfl, hb⟩; have Q1 := Lib.hid (Q0.out.row hb); clear hb CA k0 k1 k2 k3 k4 k5 k6 k7; obtain ⟨k0, k1, k2, k3, k4, k5, k6, k7⟩ := Q1.out.cells; dsimp only at k0 k1 k2 k3 k4 k5 k6 k7)
          | (go_at_call 26; (with_reducible refine (C1.out _).mono ?_); rintro e w2 ⟨rfl, hb⟩; have Q2 := Lib.hid (Q1.out.next hb); clear hb C1 k0 k1 k2 k3 k4 k5 k6 k7; obtain ⟨k0, k1, k2, k3, k4, k5, k6, k7⟩ := Q2.out.cells; dsimp only at k0 k1 k2 k3 k4 k5 k6 k7)
          | (go_at_call 27; (with_reducible refine (C2.out _).mono ?_); rintro e w3 ⟨rfl, hb⟩; have Q3 := Lib.hid (Q2.out.next hb); clear hb C2 k0 k1 k2 k3 k4 k5 k6 k7; obtain ⟨k0, k1, k2, k3, k4, k5, k6, k7⟩ := Q3.out.cells; dsimp only at k0 k1 k2 k3 k4 k5 k6 k7)
          | (go_at_call 27; (with_reducible refine (C3.out _).mono ?_); rintro e w4 ⟨rfl, hb⟩; have Q4 := Lib.hid (Q3.out.next hb); clear hb C3 k0 k1 k2 k3 k4 k5 k6 k7))
        go_ret2
        exact ⟨by rw [HX.out]; rfl, Q4.out.bel⟩
      · rw [decide_eq_false h2] at C2
        have HX := Lib.hid (show meetA (ax, ay) (bx, by_) (cx, cy) (dx, dy) = (false, 0) from HM.out.trans (congrArg (fun b => (b, (0 : Int))) (decide_eq_false fun h => ((mt_two _ _ _ _).1 h).elim h1 (fun h => h2 h.1))))
        clear h1 h2 HM
        go_enter Try.func12, Try.ntmps12
        go_wp2_with (first
          | (go_at_call 21; (with_reducible refine (CA.out _ _ ?_).mono ?_); (focus (show (World.heap _)[_]? = some (Obj.cells #[.int .i64 ax, .int .i64 ay, .int .i64 bx, .int .i64 by_, .int .i64 cx, .int .i64 cy, .int .i64 dx, .int .i64 dy] 23); exact rowz (by simp); done)); rintro e w1 ⟨rfl, hb⟩; have Q1 := Lib.hid (Q0.out.row hb); clear hb CA k0 k1 k2 k3 k4 k5 k6 k7; obtain ⟨k0, k1, k2, k3, k4, k5, k6, k7⟩ := Q1.out.cells; dsimp only at k0 k1 k2 k3 k4 k5 k6 k7)
          | (go_at_call 26; (with_reducible refine (C1.out _).mono ?_); rintro e w2 ⟨rfl, hb⟩; have Q2 := Lib.hid (Q1.out.next hb); clear hb C1 k0 k1 k2 k3 k4 k5 k6 k7; obtain ⟨k0, k1, k2, k3, k4, k5, k6, k7⟩ := Q2.out.cells; dsimp only at k0 k1 k2 k3 k4 k5 k6 k7)
          | (go_at_call 27; (with_reducible refine (C2.out _).mono ?_); rintro e w3 ⟨rfl, hb⟩; have Q3 := Lib.hid (Q2.out.next hb); clear hb C2 k0 k1 k2 k3 k4 k5 k6 k7))
        go_ret2
        exact ⟨by rw [HX.out]; rfl, Q3.out.bel⟩
  · rw [decide_eq_false h] at CA
    have HX := Lib.hid (show meetA (ax, ay) (bx, by_) (cx, cy) (dx, dy) = (false, 1) from if_neg h)
    clear h
    go_enter Try.func12, Try.ntmps12
    go_wp2_with (first
      | (go_at_call 21; (with_reducible refine (CA.out _ _ ?_).mono ?_); (focus (show (World.heap _)[_]? = some (Obj.cells #[.int .i64 ax, .int .i64 ay, .int .i64 bx, .int .i64 by_, .int .i64 cx, .int .i64 cy, .int .i64 dx, .int .i64 dy] 23); exact rowz (by simp); done)); rintro e w1 ⟨rfl, hb⟩; have Q1 := Lib.hid (Q0.out.row hb); clear hb CA k0 k1 k2 k3 k4 k5 k6 k7))
    go_ret2
    exact ⟨by rw [HX.out]; rfl, Q1.out.bel⟩
end Go.Proofs.Ytiififjbljiggaa
