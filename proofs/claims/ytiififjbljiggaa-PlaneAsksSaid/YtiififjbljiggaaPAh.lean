/- Proved here: what the law PlaneAsks answers, over memory (from the contracts). No condition. -/
import Derived.Test.YtiififjbljiggaaPAg2
namespace Go.Proofs.Ytiififjbljiggaa
open Go.RowKit

theorem ex3 (a b c : P2) : (dtA a b c).2 = (crsA a b c).2 ∧ (turnA a b c).2 = (crsA a b c).2 ∧ (btwA a b c).2 = (crsA a b c).2 ∧ (if ok3 a b c then (0 : Int) else 1) = (crsA a b c).2 := by
  unfold dtA turnA btwA crsA
  by_cases h : ok3 a b c
  · simp [h]
  · simp [h]
theorem ex2 (a b : P2) : (if ok2 a b then (0 : Int) else 1) = (farA a b).2 := by
  unfold farA
  by_cases h : ok2 a b
  · simp [h]
  · simp [h]
theorem ex4 (a b c d : P2) : (if ok4 a b c d then (0 : Int) else 1) = (meetA a b c d).2 := by
  unfold meetA
  by_cases h : ok4 a b c d
  · simp [h]
  · simp [h]
theorem far_ok {a b : P2} (h : (farA a b).2 = 0) : ok2 a b ∧ (farA a b).1 = dt a b b := by
  unfold farA at h ⊢
  by_cases h2 : ok2 a b
  · rw [if_pos h2]; exact ⟨h2, rfl⟩
  · rw [if_neg h2] at h; cases h
theorem three_ok {a b c : P2} (h : (crsA a b c).2 = 0) : ok3 a b c ∧ (crsA a b c).1 = crs a b c ∧ (dtA a b c).1 = dt a b c ∧ (turnA a b c).1 = sg (crs a b c) ∧ (btwA a b c).1 = decide (Btw a b c) := by
  unfold crsA at h
  by_cases h2 : ok3 a b c
  · unfold crsA dtA turnA btwA
    rw [if_pos h2, if_pos h2, if_pos h2, if_pos h2]; exact ⟨h2, rfl, rfl, rfl, rfl⟩
  · rw [if_neg h2] at h; cases h
theorem four_ok {a b c d : P2} (h : (meetA a b c d).2 = 0) : ok4 a b c d ∧ (meetA a b c d).1 = decide (Mt a b c d) := by
  unfold meetA at h ⊢
  by_cases h2 : ok4 a b c d
  · rw [if_pos h2]; exact ⟨h2, rfl⟩
  · rw [if_neg h2] at h; cases h
theorem asks_K (a b c d : P2) : ((meetA a b c d).2 = 0 ∧ (crsA a b c).2 = 0 ∧ (farA a b).2 = 0) ∨ ((meetA a b c d).2 = 1 ∧ (meetA a b c d).1 = false ∧ (crsA a b c).2 = 0 ∧ (farA a b).2 = 0)
    ∨ ((meetA a b c d).2 = 1 ∧ (meetA a b c d).1 = false ∧ (crsA a b c).2 = 1 ∧ ((crsA a b c).1 = 0 ∧ (dtA a b c).1 = 0 ∧ (turnA a b c).1 = 0 ∧ (btwA a b c).1 = false) ∧ (farA a b).2 = 0)
    ∨ ((meetA a b c d).2 = 1 ∧ (meetA a b c d).1 = false ∧ (crsA a b c).2 = 1 ∧ ((crsA a b c).1 = 0 ∧ (dtA a b c).1 = 0 ∧ (turnA a b c).1 = 0 ∧ (btwA a b c).1 = false) ∧ (farA a b).2 = 1 ∧ (farA a b).1 = 0) := by
  unfold meetA crsA dtA turnA btwA farA
  by_cases h2 : ok2 a b
  · by_cases h3 : ok3 a b c
    · by_cases h4 : ok4 a b c d
      · simp [h2, h3, h4]
      · simp [h2, h3, h4]
    · have h4 : ¬ ok4 a b c d := fun h => h3 ⟨h.1, h.2.1, h.2.2.1⟩
      simp [h2, h3, h4]
  · have h3 : ¬ ok3 a b c := fun h => h2 ⟨h.1, h.2.1⟩
    have h4 : ¬ ok4 a b c d := fun h => h2 ⟨h.1, h.2.1⟩
    simp [h2, h3, h4]
theorem law_asks (ax ay bx by_ cx cy dx dy : Int) (w : World) : Calls Try.prog 3 #[.agg #[.int .i64 ax, .int .i64 ay], .agg #[.int .i64 bx, .int .i64 by_], .agg #[.int .i64 cx, .int .i64 cy, .int .i64 dx, .int .i64 dy]] w fun e w' => e = .returned (.bool true) ∧ Below w.heap.size w w' := by
  obtain ⟨x1, x2, x3, x4⟩ := ex3 (ax, ay) (bx, by_) (cx, cy)
  refine asks_core ax ay bx by_ cx cy dx dy (crsA (ax, ay) (bx, by_) (cx, cy)).1 (dtA (ax, ay) (bx, by_) (cx, cy)).1 (farA (ax, ay) (bx, by_)).1 (turnA (ax, ay) (bx, by_) (cx, cy)).1 (farA (ax, ay) (bx, by_)).2 (crsA (ax, ay) (bx, by_) (cx, cy)).2 (meetA (ax, ay) (bx, by_) (cx, cy) (dx, dy)).2
    (decide (fiP (ax, ay))) (btwA (ax, ay) (bx, by_) (cx, cy)).1 (meetA (ax, ay) (bx, by_) (cx, cy) (dx, dy)).1 w ?_ (fun W => pcross_any ax ay bx by_ cx cy W) ?_ ?_ ?_ (fun W => pfar_any ax ay bx by_ W) (fun W => pmeet_any ax ay bx by_ cx cy dx dy W) (fun W => pmay_any ax ay W) (fun W => may_any ax ay W) ?_ ?_ ?_ (asks_K _ _ _ _) ?_ ?_ ?_ ?_ ?_
  · by_cases h : (crsA (ax, ay) (bx, by_) (cx, cy)).2 = 0
    · obtain ⟨_, h1, _, h2, _⟩ := three_ok h
      exact .inl (by rw [h1, h2])
    · exact .inr h
  · intro W; have h := pdot_any ax ay bx by_ cx cy W; rw [x1] at h; exact h
  · intro W; have h := pturn_any ax ay bx by_ cx cy W; rw [x2] at h; exact h
  · intro W; have h := pbtw_any ax ay bx by_ cx cy W; rw [x3] at h; exact h
  · intro W g hg; have h := asked_any g 3 3 _ W hg rfl (by omega); rw [ask3, x4] at h; exact h
  · intro W g hg; have h := asked_any g 2 2 _ W hg rfl (by omega); rw [ask2, ex2] at h; exact h
  · intro W g hg; have h := asked_any g 4 4 _ W hg rfl (by omega); rw [ask4, ex4] at h; exact h
  · intro h W; obtain ⟨ok, e⟩ := far_ok h; rw [e]; exact dot_any ax ay bx by_ bx by_ W ok.1 ok.2 ok.2
  · intro h W; obtain ⟨ok, e, _⟩ := three_ok h; rw [e]; exact cross_any ax ay bx by_ cx cy W ok.1 ok.2.1 ok.2.2
  · intro h W; obtain ⟨ok, _, e, _⟩ := three_ok h; rw [e]; exact dot_any ax ay bx by_ cx cy W ok.1 ok.2.1 ok.2.2
  · intro h W; obtain ⟨ok, _, _, _, e⟩ := three_ok h; rw [e]; exact btw_any ax ay bx by_ cx cy W ok.1 ok.2.1 ok.2.2
  · intro h W; obtain ⟨ok, e⟩ := four_ok h; rw [e]; exact meet_any ax ay bx by_ cx cy dx dy W ok.1 ok.2.1 ok.2.2.1 ok.2.2.2
end Go.Proofs.Ytiififjbljiggaa
