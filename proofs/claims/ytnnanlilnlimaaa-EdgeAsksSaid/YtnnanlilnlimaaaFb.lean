/- Proved here: may an edge be, by itself (the program's mayEdge). No condition. -/
import Derived.Test.YtnnanlilnlimaaaFa
namespace Go.Proofs.Ytnnanlilnlimaaa
open Go.RowKit

set_option maxHeartbeats 8000000 in
set_option maxRecDepth 100000 in
theorem medge_quad (k : Int) (ax ay bx by_ cx cy : Int) (w : World) : Calls Try.prog 22 #[.agg #[.int .i64 k, .bool true, .int .i64 ax, .int .i64 ay, .int .i64 bx, .int .i64 by_, .int .i64 cx, .int .i64 cy]] w fun e w' => e = .returned (.bool (decide (oneE (k, true, (ax, ay), (bx, by_), (cx, cy))))) ∧ Below w.heap.size w w' := by
  have HA := Lib.hid (show Below w.heap.size w (w.alloc (.cells #[.int .i64 k, .bool true, .int .i64 ax, .int .i64 ay, .int .i64 bx, .int .i64 by_, .int .i64 cx, .int .i64 cy] 43)) from (Below.refl _ _).alloc (Nat.le_refl _) _)
  have HX := Lib.hid (fun W hb => (Ebx.new w (k, true, (ax, ay), (bx, by_), (cx, cy))).bel (w' := W) hb)
  have F1 := Lib.hid (fun W => mpt_any ax ay W)
  have F2 := Lib.hid (fun W => mpt_any bx by_ W)
  have F3 := Lib.hid (fun W => mpt_any cx cy W)
  have FSm := Lib.hid (fun W => dot_any k true ax ay bx by_ cx cy W)
  have HNo := Lib.hid (show ¬ (fiP (ax, ay) ∧ fiP (bx, by_) ∧ fiP (cx, cy) ∧ ¬ smE (k, true, (ax, ay), (bx, by_), (cx, cy))) → decide (oneE (k, true, (ax, ay), (bx, by_), (cx, cy))) = false from fun h => decide_eq_false fun h2 => h ⟨h2.1, h2.2.1, h2.2.2.1, h2.2.2.2.1⟩)
  have HYe := Lib.hid (show fiP (ax, ay) ∧ fiP (bx, by_) ∧ fiP (cx, cy) ∧ ¬ smE (k, true, (ax, ay), (bx, by_), (cx, cy)) → decide (oneE (k, true, (ax, ay), (bx, by_), (cx, cy))) = true from fun h => decide_eq_true ⟨h.1, h.2.1, h.2.2.1, h.2.2.2, .inl rfl⟩)
  obtain ⟨c0, c1, c2, c3, c4, c5, c6, c7⟩ := (Ebx.new w (k, true, (ax, ay), (bx, by_), (cx, cy))).cells
  by_cases h1 : fiP (ax, ay)
  · rw [decide_eq_true h1] at F1
    by_cases h2 : fiP (bx, by_)
    · rw [decide_eq_true h2] at F2
      by_cases h3 : fiP (cx, cy)
      · rw [decide_eq_true h3] at F3
        by_cases h4 : smE (k, true, (ax, ay), (bx, by_), (cx, cy))
        · rw [decide_eq_true h4] at FSm
          have HR := Lib.hid (HNo.out fun h => h.2.2.2 h4)
          clear HNo HYe h1 h2 h3 h4
          go_enter Try.func22, Try.ntmps22
          go_wp2_with (first
            | (go_at_call 32; (with_reducible refine (F1.out _).mono ?_); rintro e w1 ⟨rfl, hb⟩; have B1 := Lib.hid hb; clear hb; clear F1; obtain ⟨d0, d1, d2, d3, d4, d5, d6, d7⟩ := (HX.out _ B1.out).cells)
            | (go_at_call 32; (with_reducible refine (F2.out _).mono ?_); rintro e w2 ⟨rfl, hb⟩; have B2 := Lib.hid (B1.out.trans (hb.mono B1.out.size)); clear hb; clear F2; obtain ⟨d0, d1, d2, d3, d4, d5, d6, d7⟩ := (HX.out _ B2.out).cells)
            | (go_at_call 32; (with_reducible refine (F3.out _).mono ?_); rintro e w3 ⟨rfl, hb⟩; have B3 := Lib.hid (B2.out.trans (hb.mono B2.out.size)); clear hb; clear F3; obtain ⟨d0, d1, d2, d3, d4, d5, d6, d7⟩ := (HX.out _ B3.out).cells)
            | (go_at_call 26; (with_reducible refine (FSm.out _).mono ?_); rintro e w4 ⟨rfl, hb⟩; have B4 := Lib.hid (B3.out.trans (hb.mono B3.out.size)); clear hb; clear FSm; obtain ⟨d0, d1, d2, d3, d4, d5, d6, d7⟩ := (HX.out _ B4.out).cells))
          go_ret
          exact ⟨by rw [HR.out]; rfl, HA.out.trans (B4.out.mono HA.out.size)⟩
        · rw [decide_eq_false h4] at FSm
          have HR := Lib.hid (HYe.out ⟨h1, h2, h3, h4⟩)
          clear HNo HYe h1 h2 h3 h4
          go_enter Try.func22, Try.ntmps22
          go_wp2_with (first
            | (go_at_call 32; (with_reducible refine (F1.out _).mono ?_); rintro e w1 ⟨rfl, hb⟩; have B1 := Lib.hid hb; clear hb; clear F1; obtain ⟨d0, d1, d2, d3, d4, d5, d6, d7⟩ := (HX.out _ B1.out).cells)
            | (go_at_call 32; (with_reducible refine (F2.out _).mono ?_); rintro e w2 ⟨rfl, hb⟩; have B2 := Lib.hid (B1.out.trans (hb.mono B1.out.size)); clear hb; clear F2; obtain ⟨d0, d1, d2, d3, d4, d5, d6, d7⟩ := (HX.out _ B2.out).cells)
            | (go_at_call 32; (with_reducible refine (F3.out _).mono ?_); rintro e w3 ⟨rfl, hb⟩; have B3 := Lib.hid (B2.out.trans (hb.mono B2.out.size)); clear hb; clear F3; obtain ⟨d0, d1, d2, d3, d4, d5, d6, d7⟩ := (HX.out _ B3.out).cells)
            | (go_at_call 26; (with_reducible refine (FSm.out _).mono ?_); rintro e w4 ⟨rfl, hb⟩; have B4 := Lib.hid (B3.out.trans (hb.mono B3.out.size)); clear hb; clear FSm; obtain ⟨d0, d1, d2, d3, d4, d5, d6, d7⟩ := (HX.out _ B4.out).cells))
          go_ret
          exact ⟨by rw [HR.out]; rfl, HA.out.trans (B4.out.mono HA.out.size)⟩
      · rw [decide_eq_false h3] at F3
        have HR := Lib.hid (HNo.out fun h => h3 h.2.2.1)
        clear HNo HYe h1 h2 h3 FSm 
        go_enter Try.func22, Try.ntmps22
        go_wp2_with (first
          | (go_at_call 32; (with_reducible refine (F1.out _).mono ?_); rintro e w1 ⟨rfl, hb⟩; have B1 := Lib.hid hb; clear hb; clear F1; obtain ⟨d0, d1, d2, d3, d4, d5, d6, d7⟩ := (HX.out _ B1.out).cells)
          | (go_at_call 32; (with_reducible refine (F2.out _).mono ?_); rintro e w2 ⟨rfl, hb⟩; have B2 := Lib.hid (B1.out.trans (hb.mono B1.out.size)); clear hb; clear F2; obtain ⟨d0, d1, d2, d3, d4, d5, d6, d7⟩ := (HX.out _ B2.out).cells)
          | (go_at_call 32; (with_reducible refine (F3.out _).mono ?_); rintro e w3 ⟨rfl, hb⟩; have B3 := Lib.hid (B2.out.trans (hb.mono B2.out.size)); clear hb; clear F3; obtain ⟨d0, d1, d2, d3, d4, d5, d6, d7⟩ := (HX.out _ B3.out).cells))
        go_ret
        exact ⟨by rw [HR.out]; rfl, HA.out.trans (B3.out.mono HA.out.size)⟩
    · rw [decide_eq_false h2] at F2
      have HR := Lib.hid (HNo.out fun h => h2 h.2.1)
      clear HNo HYe h1 h2 FSm F3
      go_enter Try.func22, Try.ntmps22
      go_wp2_with (first
        | (go_at_call 32; (with_reducible refine (F1.out _).mono ?_); rintro e w1 ⟨rfl, hb⟩; have B1 := Lib.hid hb; clear hb; clear F1; obtain ⟨d0, d1, d2, d3, d4, d5, d6, d7⟩ := (HX.out _ B1.out).cells)
        | (go_at_call 32; (with_reducible refine (F2.out _).mono ?_); rintro e w2 ⟨rfl, hb⟩; have B2 := Lib.hid (B1.out.trans (hb.mono B1.out.size)); clear hb; clear F2; obtain ⟨d0, d1, d2, d3, d4, d5, d6, d7⟩ := (HX.out _ B2.out).cells))
      go_ret
      exact ⟨by rw [HR.out]; rfl, HA.out.trans (B2.out.mono HA.out.size)⟩
  · rw [decide_eq_false h1] at F1
    have HR := Lib.hid (HNo.out fun h => h1 h.1)
    clear HNo HYe h1 FSm F2 F3
    go_enter Try.func22, Try.ntmps22
    go_wp2_with (first
      | (go_at_call 32; (with_reducible refine (F1.out _).mono ?_); rintro e w1 ⟨rfl, hb⟩; have B1 := Lib.hid hb; clear hb; clear F1; obtain ⟨d0, d1, d2, d3, d4, d5, d6, d7⟩ := (HX.out _ B1.out).cells))
    go_ret
    exact ⟨by rw [HR.out]; rfl, HA.out.trans (B1.out.mono HA.out.size)⟩
set_option maxHeartbeats 8000000 in
set_option maxRecDepth 100000 in
theorem medge_line (k : Int) (ax ay cx cy : Int) (w : World) : Calls Try.prog 22 #[.agg #[.int .i64 k, .bool false, .int .i64 ax, .int .i64 ay, .int .i64 0, .int .i64 0, .int .i64 cx, .int .i64 cy]] w fun e w' => e = .returned (.bool (decide (oneE (k, false, (ax, ay), (0, 0), (cx, cy))))) ∧ Below w.heap.size w w' := by
  have HA := Lib.hid (show Below w.heap.size w (w.alloc (.cells #[.int .i64 k, .bool false, .int .i64 ax, .int .i64 ay, .int .i64 0, .int .i64 0, .int .i64 cx, .int .i64 cy] 43)) from (Below.refl _ _).alloc (Nat.le_refl _) _)
  have HX := Lib.hid (fun W hb => (Ebx.new w (k, false, (ax, ay), (0, 0), (cx, cy))).bel (w' := W) hb)
  have F1 := Lib.hid (fun W => mpt_any ax ay W)
  have F2 := Lib.hid (fun W => mpt_any 0 0 W)
  have F3 := Lib.hid (fun W => mpt_any cx cy W)
  have FSm := Lib.hid (fun W => dot_any k false ax ay 0 0 cx cy W)
  have HNo := Lib.hid (show ¬ (fiP (ax, ay) ∧ fiP (0, 0) ∧ fiP (cx, cy) ∧ ¬ smE (k, false, (ax, ay), (0, 0), (cx, cy))) → decide (oneE (k, false, (ax, ay), (0, 0), (cx, cy))) = false from fun h => decide_eq_false fun h2 => h ⟨h2.1, h2.2.1, h2.2.2.1, h2.2.2.2.1⟩)
  have HYe := Lib.hid (show fiP (ax, ay) ∧ fiP (0, 0) ∧ fiP (cx, cy) ∧ ¬ smE (k, false, (ax, ay), (0, 0), (cx, cy)) → decide (oneE (k, false, (ax, ay), (0, 0), (cx, cy))) = true from fun h => decide_eq_true ⟨h.1, h.2.1, h.2.2.1, h.2.2.2, .inr rfl⟩)
  obtain ⟨c0, c1, c2, c3, c4, c5, c6, c7⟩ := (Ebx.new w (k, false, (ax, ay), (0, 0), (cx, cy))).cells
  by_cases h1 : fiP (ax, ay)
  · rw [decide_eq_true h1] at F1
    by_cases h2 : fiP (0, 0)
    · rw [decide_eq_true h2] at F2
      by_cases h3 : fiP (cx, cy)
      · rw [decide_eq_true h3] at F3
        by_cases h4 : smE (k, false, (ax, ay), (0, 0), (cx, cy))
        · rw [decide_eq_true h4] at FSm
          have HR := Lib.hid (HNo.out fun h => h.2.2.2 h4)
          clear HNo HYe h1 h2 h3 h4
          go_enter Try.func22, Try.ntmps22
          go_wp2_with (first
            | (go_at_call 32; (with_reducible refine (F1.out _).mono ?_); rintro e w1 ⟨rfl, hb⟩; have B1 := Lib.hid hb; clear hb; clear F1; obtain ⟨d0, d1, d2, d3, d4, d5, d6, d7⟩ := (HX.out _ B1.out).cells)
            | (go_at_call 32; (with_reducible refine (F2.out _).mono ?_); rintro e w2 ⟨rfl, hb⟩; have B2 := Lib.hid (B1.out.trans (hb.mono B1.out.size)); clear hb; clear F2; obtain ⟨d0, d1, d2, d3, d4, d5, d6, d7⟩ := (HX.out _ B2.out).cells)
            | (go_at_call 32; (with_reducible refine (F3.out _).mono ?_); rintro e w3 ⟨rfl, hb⟩; have B3 := Lib.hid (B2.out.trans (hb.mono B2.out.size)); clear hb; clear F3; obtain ⟨d0, d1, d2, d3, d4, d5, d6, d7⟩ := (HX.out _ B3.out).cells)
            | (go_at_call 26; (with_reducible refine (FSm.out _).mono ?_); rintro e w4 ⟨rfl, hb⟩; have B4 := Lib.hid (B3.out.trans (hb.mono B3.out.size)); clear hb; clear FSm; obtain ⟨d0, d1, d2, d3, d4, d5, d6, d7⟩ := (HX.out _ B4.out).cells))
          go_ret
          exact ⟨by rw [HR.out]; rfl, HA.out.trans (B4.out.mono HA.out.size)⟩
        · rw [decide_eq_false h4] at FSm
          have HR := Lib.hid (HYe.out ⟨h1, h2, h3, h4⟩)
          clear HNo HYe h1 h2 h3 h4
          go_enter Try.func22, Try.ntmps22
          go_wp2_with (first
            | (go_at_call 32; (with_reducible refine (F1.out _).mono ?_); rintro e w1 ⟨rfl, hb⟩; have B1 := Lib.hid hb; clear hb; clear F1; obtain ⟨d0, d1, d2, d3, d4, d5, d6, d7⟩ := (HX.out _ B1.out).cells)
            | (go_at_call 32; (with_reducible refine (F2.out _).mono ?_); rintro e w2 ⟨rfl, hb⟩; have B2 := Lib.hid (B1.out.trans (hb.mono B1.out.size)); clear hb; clear F2; obtain ⟨d0, d1, d2, d3, d4, d5, d6, d7⟩ := (HX.out _ B2.out).cells)
            | (go_at_call 32; (with_reducible refine (F3.out _).mono ?_); rintro e w3 ⟨rfl, hb⟩; have B3 := Lib.hid (B2.out.trans (hb.mono B2.out.size)); clear hb; clear F3; obtain ⟨d0, d1, d2, d3, d4, d5, d6, d7⟩ := (HX.out _ B3.out).cells)
            | (go_at_call 26; (with_reducible refine (FSm.out _).mono ?_); rintro e w4 ⟨rfl, hb⟩; have B4 := Lib.hid (B3.out.trans (hb.mono B3.out.size)); clear hb; clear FSm; obtain ⟨d0, d1, d2, d3, d4, d5, d6, d7⟩ := (HX.out _ B4.out).cells))
          go_ret
          exact ⟨by rw [HR.out]; rfl, HA.out.trans (B4.out.mono HA.out.size)⟩
      · rw [decide_eq_false h3] at F3
        have HR := Lib.hid (HNo.out fun h => h3 h.2.2.1)
        clear HNo HYe h1 h2 h3 FSm 
        go_enter Try.func22, Try.ntmps22
        go_wp2_with (first
          | (go_at_call 32; (with_reducible refine (F1.out _).mono ?_); rintro e w1 ⟨rfl, hb⟩; have B1 := Lib.hid hb; clear hb; clear F1; obtain ⟨d0, d1, d2, d3, d4, d5, d6, d7⟩ := (HX.out _ B1.out).cells)
          | (go_at_call 32; (with_reducible refine (F2.out _).mono ?_); rintro e w2 ⟨rfl, hb⟩; have B2 := Lib.hid (B1.out.trans (hb.mono B1.out.size)); clear hb; clear F2; obtain ⟨d0, d1, d2, d3, d4, d5, d6, d7⟩ := (HX.out _ B2.out).cells)
          | (go_at_call 32; (with_reducible refine (F3.out _).mono ?_); rintro e w3 ⟨rfl, hb⟩; have B3 := Lib.hid (B2.out.trans (hb.mono B2.out.size)); clear hb; clear F3; obtain ⟨d0, d1, d2, d3, d4, d5, d6, d7⟩ := (HX.out _ B3.out).cells))
        go_ret
        exact ⟨by rw [HR.out]; rfl, HA.out.trans (B3.out.mono HA.out.size)⟩
    · rw [decide_eq_false h2] at F2
      have HR := Lib.hid (HNo.out fun h => h2 h.2.1)
      clear HNo HYe h1 h2 FSm F3
      go_enter Try.func22, Try.ntmps22
      go_wp2_with (first
        | (go_at_call 32; (with_reducible refine (F1.out _).mono ?_); rintro e w1 ⟨rfl, hb⟩; have B1 := Lib.hid hb; clear hb; clear F1; obtain ⟨d0, d1, d2, d3, d4, d5, d6, d7⟩ := (HX.out _ B1.out).cells)
        | (go_at_call 32; (with_reducible refine (F2.out _).mono ?_); rintro e w2 ⟨rfl, hb⟩; have B2 := Lib.hid (B1.out.trans (hb.mono B1.out.size)); clear hb; clear F2; obtain ⟨d0, d1, d2, d3, d4, d5, d6, d7⟩ := (HX.out _ B2.out).cells))
      go_ret
      exact ⟨by rw [HR.out]; rfl, HA.out.trans (B2.out.mono HA.out.size)⟩
  · rw [decide_eq_false h1] at F1
    have HR := Lib.hid (HNo.out fun h => h1 h.1)
    clear HNo HYe h1 FSm F2 F3
    go_enter Try.func22, Try.ntmps22
    go_wp2_with (first
      | (go_at_call 32; (with_reducible refine (F1.out _).mono ?_); rintro e w1 ⟨rfl, hb⟩; have B1 := Lib.hid hb; clear hb; clear F1; obtain ⟨d0, d1, d2, d3, d4, d5, d6, d7⟩ := (HX.out _ B1.out).cells))
    go_ret
    exact ⟨by rw [HR.out]; rfl, HA.out.trans (B1.out.mono HA.out.size)⟩
set_option maxHeartbeats 4000000 in
set_option maxRecDepth 100000 in
theorem medge_none (k : Int) (ax ay bx by_ cx cy : Int) (w : World) (hn : ¬ (bx = 0 ∧ by_ = 0)) : Calls Try.prog 22 #[.agg #[.int .i64 k, .bool false, .int .i64 ax, .int .i64 ay, .int .i64 bx, .int .i64 by_, .int .i64 cx, .int .i64 cy]] w fun e w' => e = .returned (.bool (decide (oneE (k, false, (ax, ay), (bx, by_), (cx, cy))))) ∧ Below w.heap.size w w' := by
  have HA := Lib.hid (show Below w.heap.size w (w.alloc (.cells #[.int .i64 k, .bool false, .int .i64 ax, .int .i64 ay, .int .i64 bx, .int .i64 by_, .int .i64 cx, .int .i64 cy] 43)) from (Below.refl _ _).alloc (Nat.le_refl _) _)
  have HR := Lib.hid (show decide (oneE (k, false, (ax, ay), (bx, by_), (cx, cy))) = false from decide_eq_false fun h => by
    rcases h.2.2.2.2 with h | h
    · cases h
    · exact hn ⟨congrArg Prod.fst h, congrArg Prod.snd h⟩)
  obtain ⟨c0, c1, c2, c3, c4, c5, c6, c7⟩ := (Ebx.new w (k, false, (ax, ay), (bx, by_), (cx, cy))).cells
  by_cases hx : bx = 0
  · subst hx
    have hy : ¬ by_ = 0 := fun h => hn ⟨rfl, h⟩
    clear hn
    go_enter Try.func22, Try.ntmps22
    go_wp2_with fail
    go_ret
    exact ⟨by rw [HR.out]; rfl, HA.out⟩
  · clear hn
    go_enter Try.func22, Try.ntmps22
    go_wp2_with fail
    go_ret
    exact ⟨by rw [HR.out]; rfl, HA.out⟩
theorem medge_any (k : Int) (q : Bool) (ax ay bx by_ cx cy : Int) (w : World) : Calls Try.prog 22 #[.agg #[.int .i64 k, .bool q, .int .i64 ax, .int .i64 ay, .int .i64 bx, .int .i64 by_, .int .i64 cx, .int .i64 cy]] w fun e w' => e = .returned (.bool (decide (oneE (k, q, (ax, ay), (bx, by_), (cx, cy))))) ∧ Below w.heap.size w w' := by
  cases q with
  | true => exact medge_quad k ax ay bx by_ cx cy w
  | false =>
    by_cases h : bx = 0 ∧ by_ = 0
    · obtain ⟨rfl, rfl⟩ := h
      exact medge_line k ax ay cx cy w
    · exact medge_none k ax ay bx by_ cx cy w h
end Go.Proofs.Ytnnanlilnlimaaa
