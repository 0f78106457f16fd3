/- Proved here: what May answers, the program's and the document's. No condition. -/
import Derived.Test.YtibbgmahdiphpaaHc
namespace Go.Proofs.Ytibbgmahdiphpaa
open Go.RowKit

/-- May it be? -/
def MayP (h : Hd) : Prop := (16 ≤ h.em ∧ h.em ≤ 16384) ∧ (1 ≤ h.gl ∧ h.gl ≤ 1024) ∧ (1 ≤ h.me ∧ h.me ≤ h.gl) ∧ (-32768 ≤ h.a1 ∧ h.a1 ≤ 32767) ∧ (-32768 ≤ h.a2 ∧ h.a2 ≤ 32767) ∧ (-32768 ≤ h.a3 ∧ h.a3 ≤ 32767)
instance (h : Hd) : Decidable (MayP h) := inferInstanceAs (Decidable (_ ∧ _))
set_option maxHeartbeats 4000000 in
theorem may_any (h : Hd) (w : World) : Calls Try.prog 17 #[.agg #[.int .i64 h.em, .bool h.lg, .int .i64 h.gl, .int .i64 h.me, .int .i64 h.a1, .int .i64 h.a2, .int .i64 h.a3]] w fun e w' => e = .returned (.bool (decide (MayP h))) ∧ Below w.heap.size w w' := by
  have HB0 := Lib.hid (show Below w.heap.size w (w.alloc (.cells #[.int .i64 h.em, .bool h.lg, .int .i64 h.gl, .int .i64 h.me, .int .i64 h.a1, .int .i64 h.a2, .int .i64 h.a3] 23)) from (Below.refl _ _).alloc (Nat.le_refl _) _)
  have HX := Lib.hid (show HB (w.alloc (.cells #[.int .i64 h.em, .bool h.lg, .int .i64 h.gl, .int .i64 h.me, .int .i64 h.a1, .int .i64 h.a2, .int .i64 h.a3] 23)) w.heap.size h from heap_alloc_new w _)
  have pe := fun W => mayEm_any h.em W
  have pm := fun W => mayMet_any h.em h.lg h.gl h.me h.a1 h.a2 h.a3 W
  have q1 := fun W => signed_any h.a1 W
  have q2 := fun W => signed_any h.a2 W
  have q3 := fun W => signed_any h.a3 W
  by_cases k0 : 16 ≤ h.em ∧ h.em ≤ 16384
  · rw [decide_eq_true k0] at pe
    by_cases k1 : 1 ≤ h.gl
    · have f1 : decide (1 ≤ h.gl) = true := decide_eq_true k1
      by_cases k2 : h.gl ≤ 1024
      · have f2 : decide (h.gl ≤ 1024) = true := decide_eq_true k2
        by_cases k3 : 1 ≤ h.me ∧ h.me ≤ h.gl
        · rw [decide_eq_true k3] at pm
          by_cases k4 : -32768 ≤ h.a1 ∧ h.a1 ≤ 32767
          · rw [decide_eq_true k4] at q1
            by_cases k5 : -32768 ≤ h.a2 ∧ h.a2 ≤ 32767
            · rw [decide_eq_true k5] at q2
              by_cases k6 : -32768 ≤ h.a3 ∧ h.a3 ≤ 32767
              · rw [decide_eq_true k6] at q3
                rw [decide_eq_true (show MayP h from by unfold MayP; omega)]
                clear k0 k1 k2 k3 k4 k5 k6
                have PE := Lib.hid pe
                have PM := Lib.hid pm
                have Q1 := Lib.hid q1
                have Q2 := Lib.hid q2
                have Q3 := Lib.hid q3
                clear pe pm q1 q2 q3
                go_enter Try.func17, Try.ntmps17
                go_wp2_with (first
                  | (go_at_call 31; (with_reducible refine (PE.out _).mono ?_); rintro e w' ⟨rfl, rfl⟩)
                  | (go_at_call 32; (with_reducible refine (PM.out _).mono ?_); rintro e w1 ⟨rfl, hb⟩; have B := Lib.hid (HB0.out.trans (hb.mono HB0.out.size)); obtain ⟨c0, c1, c2, c3, c4, c5, c6⟩ := (HX.out.bel hb).cells; clear hb)
                  | (go_at_call 33; (with_reducible refine (Q1.out _).mono ?_); rintro e w' ⟨rfl, rfl⟩)
                  | (go_at_call 33; (with_reducible refine (Q2.out _).mono ?_); rintro e w' ⟨rfl, rfl⟩)
                  | (go_at_call 33; (with_reducible refine (Q3.out _).mono ?_); rintro e w' ⟨rfl, rfl⟩))
                go_ret
                exact ⟨rfl, B.out⟩
              · rw [decide_eq_false k6] at q3
                rw [decide_eq_false (show ¬ MayP h from by unfold MayP; omega)]
                clear k0 k1 k2 k3 k4 k5 k6
                have PE := Lib.hid pe
                have PM := Lib.hid pm
                have Q1 := Lib.hid q1
                have Q2 := Lib.hid q2
                have Q3 := Lib.hid q3
                clear pe pm q1 q2 q3
                go_enter Try.func17, Try.ntmps17
                go_wp2_with (first
                  | (go_at_call 31; (with_reducible refine (PE.out _).mono ?_); rintro e w' ⟨rfl, rfl⟩)
                  | (go_at_call 32; (with_reducible refine (PM.out _).mono ?_); rintro e w1 ⟨rfl, hb⟩; have B := Lib.hid (HB0.out.trans (hb.mono HB0.out.size)); obtain ⟨c0, c1, c2, c3, c4, c5, c6⟩ := (HX.out.bel hb).cells; clear hb)
                  | (go_at_call 33; (with_reducible refine (Q1.out _).mono ?_); rintro e w' ⟨rfl, rfl⟩)
                  | (go_at_call 33; (with_reducible refine (Q2.out _).mono ?_); rintro e w' ⟨rfl, rfl⟩)
                  | (go_at_call 33; (with_reducible refine (Q3.out _).mono ?_); rintro e w' ⟨rfl, rfl⟩))
                go_ret
                exact ⟨rfl, B.out⟩
            · rw [decide_eq_false k5] at q2
              rw [decide_eq_false (show ¬ MayP h from by unfold MayP; omega)]
              clear k0 k1 k2 k3 k4 k5
              have PE := Lib.hid pe
              have PM := Lib.hid pm
              have Q1 := Lib.hid q1
              have Q2 := Lib.hid q2
              have Q3 := Lib.hid q3
              clear pe pm q1 q2 q3
              go_enter Try.func17, Try.ntmps17
              go_wp2_with (first
                | (go_at_call 31; (with_reducible refine (PE.out _).mono ?_); rintro e w' ⟨rfl, rfl⟩)
                | (go_at_call 32; (with_reducible refine (PM.out _).mono ?_); rintro e w1 ⟨rfl, hb⟩; have B := Lib.hid (HB0.out.trans (hb.mono HB0.out.size)); obtain ⟨c0, c1, c2, c3, c4, c5, c6⟩ := (HX.out.bel hb).cells; clear hb)
                | (go_at_call 33; (with_reducible refine (Q1.out _).mono ?_); rintro e w' ⟨rfl, rfl⟩)
                | (go_at_call 33; (with_reducible refine (Q2.out _).mono ?_); rintro e w' ⟨rfl, rfl⟩)
                | (go_at_call 33; (with_reducible refine (Q3.out _).mono ?_); rintro e w' ⟨rfl, rfl⟩))
              go_ret
              exact ⟨rfl, B.out⟩
          · rw [decide_eq_false k4] at q1
            rw [decide_eq_false (show ¬ MayP h from by unfold MayP; omega)]
            clear k0 k1 k2 k3 k4
            have PE := Lib.hid pe
            have PM := Lib.hid pm
            have Q1 := Lib.hid q1
            have Q2 := Lib.hid q2
            have Q3 := Lib.hid q3
            clear pe pm q1 q2 q3
            go_enter Try.func17, Try.ntmps17
            go_wp2_with (first
              | (go_at_call 31; (with_reducible refine (PE.out _).mono ?_); rintro e w' ⟨rfl, rfl⟩)
              | (go_at_call 32; (with_reducible refine (PM.out _).mono ?_); rintro e w1 ⟨rfl, hb⟩; have B := Lib.hid (HB0.out.trans (hb.mono HB0.out.size)); obtain ⟨c0, c1, c2, c3, c4, c5, c6⟩ := (HX.out.bel hb).cells; clear hb)
              | (go_at_call 33; (with_reducible refine (Q1.out _).mono ?_); rintro e w' ⟨rfl, rfl⟩)
              | (go_at_call 33; (with_reducible refine (Q2.out _).mono ?_); rintro e w' ⟨rfl, rfl⟩)
              | (go_at_call 33; (with_reducible refine (Q3.out _).mono ?_); rintro e w' ⟨rfl, rfl⟩))
            go_ret
            exact ⟨rfl, B.out⟩
        · rw [decide_eq_false k3] at pm
          rw [decide_eq_false (show ¬ MayP h from by unfold MayP; omega)]
          clear k0 k1 k2 k3
          have PE := Lib.hid pe
          have PM := Lib.hid pm
          have Q1 := Lib.hid q1
          have Q2 := Lib.hid q2
          have Q3 := Lib.hid q3
          clear pe pm q1 q2 q3
          go_enter Try.func17, Try.ntmps17
          go_wp2_with (first
            | (go_at_call 31; (with_reducible refine (PE.out _).mono ?_); rintro e w' ⟨rfl, rfl⟩)
            | (go_at_call 32; (with_reducible refine (PM.out _).mono ?_); rintro e w1 ⟨rfl, hb⟩; have B := Lib.hid (HB0.out.trans (hb.mono HB0.out.size)); obtain ⟨c0, c1, c2, c3, c4, c5, c6⟩ := (HX.out.bel hb).cells; clear hb)
            | (go_at_call 33; (with_reducible refine (Q1.out _).mono ?_); rintro e w' ⟨rfl, rfl⟩)
            | (go_at_call 33; (with_reducible refine (Q2.out _).mono ?_); rintro e w' ⟨rfl, rfl⟩)
            | (go_at_call 33; (with_reducible refine (Q3.out _).mono ?_); rintro e w' ⟨rfl, rfl⟩))
          go_ret
          exact ⟨rfl, B.out⟩
      · have f2 : decide (h.gl ≤ 1024) = false := decide_eq_false k2
        rw [decide_eq_false (show ¬ MayP h from by unfold MayP; omega)]
        clear k0 k1 k2
        have PE := Lib.hid pe
        have PM := Lib.hid pm
        have Q1 := Lib.hid q1
        have Q2 := Lib.hid q2
        have Q3 := Lib.hid q3
        clear pe pm q1 q2 q3
        go_enter Try.func17, Try.ntmps17
        go_wp2_with (first
          | (go_at_call 31; (with_reducible refine (PE.out _).mono ?_); rintro e w' ⟨rfl, rfl⟩)
          | (go_at_call 32; (with_reducible refine (PM.out _).mono ?_); rintro e w1 ⟨rfl, hb⟩; have B := Lib.hid (HB0.out.trans (hb.mono HB0.out.size)); obtain ⟨c0, c1, c2, c3, c4, c5, c6⟩ := (HX.out.bel hb).cells; clear hb)
          | (go_at_call 33; (with_reducible refine (Q1.out _).mono ?_); rintro e w' ⟨rfl, rfl⟩)
          | (go_at_call 33; (with_reducible refine (Q2.out _).mono ?_); rintro e w' ⟨rfl, rfl⟩)
          | (go_at_call 33; (with_reducible refine (Q3.out _).mono ?_); rintro e w' ⟨rfl, rfl⟩))
        go_ret
        exact ⟨rfl, HB0.out⟩
    · have f1 : decide (1 ≤ h.gl) = false := decide_eq_false k1
      rw [decide_eq_false (show ¬ MayP h from by unfold MayP; omega)]
      clear k0 k1
      have PE := Lib.hid pe
      have PM := Lib.hid pm
      have Q1 := Lib.hid q1
      have Q2 := Lib.hid q2
      have Q3 := Lib.hid q3
      clear pe pm q1 q2 q3
      go_enter Try.func17, Try.ntmps17
      go_wp2_with (first
        | (go_at_call 31; (with_reducible refine (PE.out _).mono ?_); rintro e w' ⟨rfl, rfl⟩)
        | (go_at_call 32; (with_reducible refine (PM.out _).mono ?_); rintro e w1 ⟨rfl, hb⟩; have B := Lib.hid (HB0.out.trans (hb.mono HB0.out.size)); obtain ⟨c0, c1, c2, c3, c4, c5, c6⟩ := (HX.out.bel hb).cells; clear hb)
        | (go_at_call 33; (with_reducible refine (Q1.out _).mono ?_); rintro e w' ⟨rfl, rfl⟩)
        | (go_at_call 33; (with_reducible refine (Q2.out _).mono ?_); rintro e w' ⟨rfl, rfl⟩)
        | (go_at_call 33; (with_reducible refine (Q3.out _).mono ?_); rintro e w' ⟨rfl, rfl⟩))
      go_ret
      exact ⟨rfl, HB0.out⟩
  · rw [decide_eq_false k0] at pe
    rw [decide_eq_false (show ¬ MayP h from by unfold MayP; omega)]
    clear k0
    have PE := Lib.hid pe
    have PM := Lib.hid pm
    have Q1 := Lib.hid q1
    have Q2 := Lib.hid q2
    have Q3 := Lib.hid q3
    clear pe pm q1 q2 q3
    go_enter Try.func17, Try.ntmps17
    go_wp2_with (first
      | (go_at_call 31; (with_reducible refine (PE.out _).mono ?_); rintro e w' ⟨rfl, rfl⟩)
      | (go_at_call 32; (with_reducible refine (PM.out _).mono ?_); rintro e w1 ⟨rfl, hb⟩; have B := Lib.hid (HB0.out.trans (hb.mono HB0.out.size)); obtain ⟨c0, c1, c2, c3, c4, c5, c6⟩ := (HX.out.bel hb).cells; clear hb)
      | (go_at_call 33; (with_reducible refine (Q1.out _).mono ?_); rintro e w' ⟨rfl, rfl⟩)
      | (go_at_call 33; (with_reducible refine (Q2.out _).mono ?_); rintro e w' ⟨rfl, rfl⟩)
      | (go_at_call 33; (with_reducible refine (Q3.out _).mono ?_); rintro e w' ⟨rfl, rfl⟩))
    go_ret
    exact ⟨rfl, HB0.out⟩
set_option maxHeartbeats 4000000 in
theorem rmay_any (h : Hd) (w : World) : Calls Try.prog 19 #[.agg #[.int .i64 h.em, .bool h.lg, .int .i64 h.gl, .int .i64 h.me, .int .i64 h.a1, .int .i64 h.a2, .int .i64 h.a3]] w fun e w' => e = .returned (.bool (decide (MayP h))) ∧ Below w.heap.size w w' := by
  have HB0 := Lib.hid (show Below w.heap.size w (w.alloc (.cells #[.int .i64 h.em, .bool h.lg, .int .i64 h.gl, .int .i64 h.me, .int .i64 h.a1, .int .i64 h.a2, .int .i64 h.a3] 23)) from (Below.refl _ _).alloc (Nat.le_refl _) _)
  have HX := Lib.hid (show HB (w.alloc (.cells #[.int .i64 h.em, .bool h.lg, .int .i64 h.gl, .int .i64 h.me, .int .i64 h.a1, .int .i64 h.a2, .int .i64 h.a3] 23)) w.heap.size h from heap_alloc_new w _)
  have q1 := fun W => short_any h.a1 W
  have q2 := fun W => short_any h.a2 W
  have q3 := fun W => short_any h.a3 W
  by_cases k0 : 16 ≤ h.em
  · have f0 : decide (16 ≤ h.em) = true := decide_eq_true k0
    by_cases k1 : h.em ≤ 16384
    · have f1 : decide (h.em ≤ 16384) = true := decide_eq_true k1
      by_cases k2 : 1 ≤ h.gl
      · have f2 : decide (1 ≤ h.gl) = true := decide_eq_true k2
        by_cases k3 : h.gl ≤ 1024
        · have f3 : decide (h.gl ≤ 1024) = true := decide_eq_true k3
          by_cases k4 : 1 ≤ h.me
          · have f4 : decide (1 ≤ h.me) = true := decide_eq_true k4
            by_cases k5 : h.me ≤ h.gl
            · have f5 : decide (h.me ≤ h.gl) = true := decide_eq_true k5
              by_cases k6 : -32768 ≤ h.a1 ∧ h.a1 ≤ 32767
              · rw [decide_eq_true k6] at q1
                by_cases k7 : -32768 ≤ h.a2 ∧ h.a2 ≤ 32767
                · rw [decide_eq_true k7] at q2
                  by_cases k8 : -32768 ≤ h.a3 ∧ h.a3 ≤ 32767
                  · rw [decide_eq_true k8] at q3
                    rw [decide_eq_true (show MayP h from by unfold MayP; omega)]
                    clear k0 k1 k2 k3 k4 k5 k6 k7 k8
                    have Q1 := Lib.hid q1
                    have Q2 := Lib.hid q2
                    have Q3 := Lib.hid q3
                    clear q1 q2 q3
                    go_enter Try.func19, Try.ntmps19
                    go_wp2_with (first
                      | (go_at_call 36; (with_reducible refine (Q1.out _).mono ?_); rintro e w' ⟨rfl, rfl⟩)
                      | (go_at_call 36; (with_reducible refine (Q2.out _).mono ?_); rintro e w' ⟨rfl, rfl⟩)
                      | (go_at_call 36; (with_reducible refine (Q3.out _).mono ?_); rintro e w' ⟨rfl, rfl⟩))
                    go_ret
                    exact ⟨rfl, HB0.out⟩
                  · rw [decide_eq_false k8] at q3
                    rw [decide_eq_false (show ¬ MayP h from by unfold MayP; omega)]
                    clear k0 k1 k2 k3 k4 k5 k6 k7 k8
                    have Q1 := Lib.hid q1
                    have Q2 := Lib.hid q2
                    have Q3 := Lib.hid q3
                    clear q1 q2 q3
                    go_enter Try.func19, Try.ntmps19
                    go_wp2_with (first
                      | (go_at_call 36; (with_reducible refine (Q1.out _).mono ?_); rintro e w' ⟨rfl, rfl⟩)
                      | (go_at_call 36; (with_reducible refine (Q2.out _).mono ?_); rintro e w' ⟨rfl, rfl⟩)
                      | (go_at_call 36; (with_reducible refine (Q3.out _).mono ?_); rintro e w' ⟨rfl, rfl⟩))
                    go_ret
                    exact ⟨rfl, HB0.out⟩
                · rw [decide_eq_false k7] at q2
                  rw [decide_eq_false (show ¬ MayP h from by unfold MayP; omega)]
                  clear k0 k1 k2 k3 k4 k5 k6 k7
                  have Q1 := Lib.hid q1
                  have Q2 := Lib.hid q2
                  have Q3 := Lib.hid q3
                  clear q1 q2 q3
                  go_enter Try.func19, Try.ntmps19
                  go_wp2_with (first
                    | (go_at_call 36; (with_reducible refine (Q1.out _).mono ?_); rintro e w' ⟨rfl, rfl⟩)
                    | (go_at_call 36; (with_reducible refine (Q2.out _).mono ?_); rintro e w' ⟨rfl, rfl⟩)
                    | (go_at_call 36; (with_reducible refine (Q3.out _).mono ?_); rintro e w' ⟨rfl, rfl⟩))
                  go_ret
                  exact ⟨rfl, HB0.out⟩
              · rw [decide_eq_false k6] at q1
                rw [decide_eq_false (show ¬ MayP h from by unfold MayP; omega)]
                clear k0 k1 k2 k3 k4 k5 k6
                have Q1 := Lib.hid q1
                have Q2 := Lib.hid q2
                have Q3 := Lib.hid q3
                clear q1 q2 q3
                go_enter Try.func19, Try.ntmps19
                go_wp2_with (first
                  | (go_at_call 36; (with_reducible refine (Q1.out _).mono ?_); rintro e w' ⟨rfl, rfl⟩)
                  | (go_at_call 36; (with_reducible refine (Q2.out _).mono ?_); rintro e w' ⟨rfl, rfl⟩)
                  | (go_at_call 36; (with_reducible refine (Q3.out _).mono ?_); rintro e w' ⟨rfl, rfl⟩))
                go_ret
                exact ⟨rfl, HB0.out⟩
            · have f5 : decide (h.me ≤ h.gl) = false := decide_eq_false k5
              rw [decide_eq_false (show ¬ MayP h from by unfold MayP; omega)]
              clear k0 k1 k2 k3 k4 k5
              have Q1 := Lib.hid q1
              have Q2 := Lib.hid q2
              have Q3 := Lib.hid q3
              clear q1 q2 q3
              go_enter Try.func19, Try.ntmps19
              go_wp2_with (first
                | (go_at_call 36; (with_reducible refine (Q1.out _).mono ?_); rintro e w' ⟨rfl, rfl⟩)
                | (go_at_call 36; (with_reducible refine (Q2.out _).mono ?_); rintro e w' ⟨rfl, rfl⟩)
                | (go_at_call 36; (with_reducible refine (Q3.out _).mono ?_); rintro e w' ⟨rfl, rfl⟩))
              go_ret
              exact ⟨rfl, HB0.out⟩
          · have f4 : decide (1 ≤ h.me) = false := decide_eq_false k4
            rw [decide_eq_false (show ¬ MayP h from by unfold MayP; omega)]
            clear k0 k1 k2 k3 k4
            have Q1 := Lib.hid q1
            have Q2 := Lib.hid q2
            have Q3 := Lib.hid q3
            clear q1 q2 q3
            go_enter Try.func19, Try.ntmps19
            go_wp2_with (first
              | (go_at_call 36; (with_reducible refine (Q1.out _).mono ?_); rintro e w' ⟨rfl, rfl⟩)
              | (go_at_call 36; (with_reducible refine (Q2.out _).mono ?_); rintro e w' ⟨rfl, rfl⟩)
              | (go_at_call 36; (with_reducible refine (Q3.out _).mono ?_); rintro e w' ⟨rfl, rfl⟩))
            go_ret
            exact ⟨rfl, HB0.out⟩
        · have f3 : decide (h.gl ≤ 1024) = false := decide_eq_false k3
          rw [decide_eq_false (show ¬ MayP h from by unfold MayP; omega)]
          clear k0 k1 k2 k3
          have Q1 := Lib.hid q1
          have Q2 := Lib.hid q2
          have Q3 := Lib.hid q3
          clear q1 q2 q3
          go_enter Try.func19, Try.ntmps19
          go_wp2_with (first
            | (go_at_call 36; (with_reducible refine (Q1.out _).mono ?_); rintro e w' ⟨rfl, rfl⟩)
            | (go_at_call 36; (with_reducible refine (Q2.out _).mono ?_); rintro e w' ⟨rfl, rfl⟩)
            | (go_at_call 36; (with_reducible refine (Q3.out _).mono ?_); rintro e w' ⟨rfl, rfl⟩))
          go_ret
          exact ⟨rfl, HB0.out⟩
      · have f2 : decide (1 ≤ h.gl) = false := decide_eq_false k2
        rw [decide_eq_false (show ¬ MayP h from by unfold MayP; omega)]
        clear k0 k1 k2
        have Q1 := Lib.hid q1
        have Q2 := Lib.hid q2
        have Q3 := Lib.hid q3
        clear q1 q2 q3
        go_enter Try.func19, Try.ntmps19
        go_wp2_with (first
          | (go_at_call 36; (with_reducible refine (Q1.out _).mono ?_); rintro e w' ⟨rfl, rfl⟩)
          | (go_at_call 36; (with_reducible refine (Q2.out _).mono ?_); rintro e w' ⟨rfl, rfl⟩)
          | (go_at_call 36; (with_reducible refine (Q3.out _).mono ?_); rintro e w' ⟨rfl, rfl⟩))
        go_ret
        exact ⟨rfl, HB0.out⟩
    · have f1 : decide (h.em ≤ 16384) = false := decide_eq_false k1
      rw [decide_eq_false (show ¬ MayP h from by unfold MayP; omega)]
      clear k0 k1
      have Q1 := Lib.hid q1
      have Q2 := Lib.hid q2
      have Q3 := Lib.hid q3
      clear q1 q2 q3
      go_enter Try.func19, Try.ntmps19
      go_wp2_with (first
        | (go_at_call 36; (with_reducible refine (Q1.out _).mono ?_); rintro e w' ⟨rfl, rfl⟩)
        | (go_at_call 36; (with_reducible refine (Q2.out _).mono ?_); rintro e w' ⟨rfl, rfl⟩)
        | (go_at_call 36; (with_reducible refine (Q3.out _).mono ?_); rintro e w' ⟨rfl, rfl⟩))
      go_ret
      exact ⟨rfl, HB0.out⟩
  · have f0 : decide (16 ≤ h.em) = false := decide_eq_false k0
    rw [decide_eq_false (show ¬ MayP h from by unfold MayP; omega)]
    clear k0
    have Q1 := Lib.hid q1
    have Q2 := Lib.hid q2
    have Q3 := Lib.hid q3
    clear q1 q2 q3
    go_enter Try.func19, Try.ntmps19
    go_wp2_with (first
      | (go_at_call 36; (with_reducible refine (Q1.out _).mono ?_); rintro e w' ⟨rfl, rfl⟩)
      | (go_at_call 36; (with_reducible refine (Q2.out _).mono ?_); rintro e w' ⟨rfl, rfl⟩)
      | (go_at_call 36; (with_reducible refine (Q3.out _).mono ?_); rintro e w' ⟨rfl, rfl⟩))
    go_ret
    exact ⟨rfl, HB0.out⟩
end Go.Proofs.Ytibbgmahdiphpaa
