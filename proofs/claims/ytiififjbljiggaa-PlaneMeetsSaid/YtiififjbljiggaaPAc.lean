/- Proved here: which points are on lines (the document's Between). Condition: points that may be. -/
import Derived.Test.YtiififjbljiggaaPAb
namespace Go.Proofs.Ytiififjbljiggaa
open Go.RowKit

set_option maxHeartbeats 8000000 in
set_option maxRecDepth 100000 in
theorem btw_any (ax ay bx by_ cx cy : Int) (w : World) (ha : fiP (ax, ay)) (hb : fiP (bx, by_)) (hc : fiP (cx, cy)) : Calls Try.prog 19 #[.agg #[.int .i64 ax, .int .i64 ay], .agg #[.int .i64 bx, .int .i64 by_], .agg #[.int .i64 cx, .int .i64 cy]] w fun e w' => e = .returned (.bool (decide (Btw (ax, ay) (bx, by_) (cx, cy)))) ∧ Below w.heap.size w w' := by
  obtain ⟨p0, p1, p2, hbw⟩ := box3 w ax ay bx by_ cx cy
  have HB := Lib.hid hbw
  have CC := Lib.hid (fun W => cross_any ax ay bx by_ cx cy W ha hb hc)
  have HBx := Lib.hid (And.intro p0 (And.intro p1 p2))
  obtain ⟨c0, c1, _, _⟩ := p0.cells
  obtain ⟨d0, d1, _, _⟩ := p1.cells
  obtain ⟨f0, f1, _, _⟩ := p2.cells
  dsimp only at c0 c1 d0 d1 f0 f1
  obtain ⟨z, hz⟩ : ∃ z, z = crs (ax, ay) (bx, by_) (cx, cy) := ⟨_, rfl⟩
  rw [← hz] at CC
  have HZ := Lib.hid hz
  clear p0 p1 p2 hbw ha hb hc hz
  have HD := Lib.hid (show decide (Btw (ax, ay) (bx, by_) (cx, cy)) = decide (z = 0 ∧ (min ax bx ≤ cx ∧ cx ≤ max ax bx) ∧ (min ay by_ ≤ cy ∧ cy ≤ max ay by_)) from by rw [HZ.out]; rfl)
  by_cases h1 : z = 0
  · have g1 : (z == 0) = true := by simp [h1]
    have H1 := Lib.hid h1
    clear h1
    go_enter Try.func19, Try.ntmps19
    go_wp2_with (go_at_call 17; (with_reducible refine (CC.out _).mono ?_); rintro e w1 ⟨rfl, hb⟩; have HB1 := Lib.hid (HB.out.trans (hb.mono HB.out.size)); obtain ⟨c0', c1', _, _⟩ := (HBx.out.1.bel hb).cells; obtain ⟨d0', d1', _, _⟩ := (HBx.out.2.1.bel hb).cells; obtain ⟨f0', f1', _, _⟩ := (HBx.out.2.2.bel hb).cells; dsimp only at c0' c1' d0' d1' f0' f1'; clear hb)
    all_goals
      clear c0 c1 d0 d1 f0 f1 c0' c1' d0' d1' f0' f1' g1
      have hd := HD.out
      have h1 := H1.out
      go_ret
      exact ⟨by rw [hd]; clear hd; first | rw [decide_eq_true (p := z = 0 ∧ _) (by omega)]; rfl | rw [decide_eq_false (p := z = 0 ∧ _) (by omega)]; rfl | exact congrArg (fun b => Ending.returned (.bool b)) (decide_eq_decide.2 (by omega)), HB1.out⟩
  · have g1 : (z == 0) = false := by simp [h1]
    have HX := Lib.hid (show decide (Btw (ax, ay) (bx, by_) (cx, cy)) = false from by rw [HD.out]; exact decide_eq_false (fun h => h1 h.1))
    clear h1
    go_enter Try.func19, Try.ntmps19
    go_wp2_with (go_at_call 17; (with_reducible refine (CC.out _).mono ?_); rintro e w1 ⟨rfl, hb⟩; have HB1 := Lib.hid (HB.out.trans (hb.mono HB.out.size)); obtain ⟨c0', c1', _, _⟩ := (HBx.out.1.bel hb).cells; obtain ⟨d0', d1', _, _⟩ := (HBx.out.2.1.bel hb).cells; obtain ⟨f0', f1', _, _⟩ := (HBx.out.2.2.bel hb).cells; dsimp only at c0' c1' d0' d1' f0' f1'; clear hb)
    go_ret
    exact ⟨by rw [HX.out]; rfl, HB1.out⟩
end Go.Proofs.Ytiififjbljiggaa
