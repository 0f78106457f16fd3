/- Proved here: which points may be; crosses, dots and signs (the document's May, all, Asked, Cross, Dot, Sign). Condition: points that lie in memory; points that may be. -/
import Derived.Test.YtmbpehhbfbmacaaLPAa
namespace Go.Proofs.Ytmbpehhbfbmacaa
open Go.RowKit

set_option maxHeartbeats 4000000 in
set_option maxRecDepth 100000 in
theorem may_any (x y : Int) (w : World) : Calls Try.prog 44 #[.agg #[.int .i64 x, .int .i64 y]] w fun e w' => e = .returned (.bool (decide (fiP (x, y)))) ∧ Below w.heap.size w w' := by
  have hA : Below w.heap.size w (w.alloc (.cells #[.int .i64 x, .int .i64 y] 23)) := (Below.refl _ _).alloc (Nat.le_refl _) _
  have HA := Lib.hid hA
  have hx := heap_alloc_new w (.cells #[.int .i64 x, .int .i64 y] 23)
  have c0 : (w.alloc (.cells #[.int .i64 x, .int .i64 y] 23)).cell? ⟨w.heap.size, 0, none⟩ = some (.int .i64 x) := cell_of_row _ _ 0 _ 23 (0, 0) hx
  have c1 : (w.alloc (.cells #[.int .i64 x, .int .i64 y] 23)).cell? ⟨w.heap.size, 1, none⟩ = some (.int .i64 y) := cell_of_row _ _ 1 _ 23 (0, 0) hx
  have HD := Lib.hid (show decide (fiP (x, y)) = ((((decide (-33554432 ≤ x)) && (decide (x ≤ 33554432))) && (decide (-33554432 ≤ y))) && (decide (y ≤ 33554432))) from by
    have e : decide (fiP (x, y)) = decide ((-33554432 ≤ x ∧ x ≤ 33554432) ∧ (-33554432 ≤ y ∧ y ≤ 33554432)) := rfl
    rw [e, Bool.decide_and, Bool.decide_and, Bool.decide_and, Bool.and_assoc, Bool.and_assoc, Bool.and_assoc])
  clear hA hx
  by_cases h1 : -33554432 ≤ x
  · have g1 : decide (-33554432 ≤ x) = true := decide_eq_true h1
    by_cases h2 : x ≤ 33554432
    · have g2 : decide (x ≤ 33554432) = true := decide_eq_true h2
      by_cases h3 : -33554432 ≤ y
      · have g3 : decide (-33554432 ≤ y) = true := decide_eq_true h3
        rw [g1, g2, g3] at HD
        obtain ⟨r, hr⟩ : ∃ r, r = decide (y ≤ 33554432) := ⟨_, rfl⟩
        rw [← hr] at HD
        have g4 := hr.symm
        clear h1 h2 h3 hr
        go_enter Try.func44, Try.ntmps44
        go_wp2_with fail
        go_ret
        exact ⟨by rw [HD.out]; rfl, HA.out⟩
      · have g3 : decide (-33554432 ≤ y) = false := decide_eq_false h3
        rw [g1, g2, g3] at HD
        clear h1 h2 h3
        go_enter Try.func44, Try.ntmps44
        go_wp2_with fail
        go_ret
        exact ⟨by rw [HD.out]; rfl, HA.out⟩
    · have g2 : decide (x ≤ 33554432) = false := decide_eq_false h2
      rw [g1, g2] at HD
      clear h1 h2
      go_enter Try.func44, Try.ntmps44
      go_wp2_with fail
      go_ret
      exact ⟨by rw [HD.out]; rfl, HA.out⟩
  · have g1 : decide (-33554432 ≤ x) = false := decide_eq_false h1
    rw [g1] at HD
    clear h1
    go_enter Try.func44, Try.ntmps44
    go_wp2_with fail
    go_ret
    exact ⟨by rw [HD.out]; rfl, HA.out⟩
set_option maxHeartbeats 4000000 in
set_option maxRecDepth 100000 in
theorem all_any (g n c : Nat) (l : List P2) (w : World) (h : Prow w g l) (hl : l.length = n) (hn : n ≤ 1000) : Calls Try.prog 36 #[.slice (some ⟨g, 0, none⟩) n c] w fun e w' => e = .returned (.bool (decide (AllP l))) ∧ Below w.heap.size w w' := by
  have H := Lib.hid h
  have HL := Lib.hid hl
  have HN := Lib.hid (show ∀ i, i < n → ¬ fiP (pp l i) → decide (AllP l) = false from fun i hi hf => decide_eq_false fun h2 => hf (h2 i (by omega)))
  have HY := Lib.hid (show (∀ i, i < n → fiP (pp l i)) → decide (AllP l) = true from fun h => decide_eq_true fun i hi => h i (by omega))
  clear h hl
  go_enter Try.func36, Try.ntmps36
  go_wp2_with fail
  go_loopw [3] (fun i wr => ∃ k : Nat, i = .int .i64 (k : Int) ∧ k ≤ n ∧ (∀ i, i < k → fiP (pp l i)) ∧ Below w.heap.size w wr) (fun i _ => n - (intOf i).toNat)
  case atStart => exact ⟨0, rfl, Nat.zero_le _, fun i hi => by omega, Below.refl _ _⟩
  case round =>
    obtain ⟨k, rfl, hk, hok, hb⟩ := hrel
    have HB := Lib.hid hb
    have HOk := Lib.hid hok
    by_cases hgo : k < n
    · obtain ⟨c0, c1⟩ := (H.out.bel hb).at_ (i := k) (by rw [HL.out]; exact hgo)
      obtain ⟨p, hp⟩ : ∃ p, p = pp l k := ⟨_, rfl⟩
      rw [← hp] at c0 c1
      have HP := Lib.hid hp
      obtain ⟨x, y⟩ := p
      dsimp only at c0 c1
      have CM := Lib.hid (may_any x y wr)
      clear hp hok hb
      by_cases ho : fiP (x, y)
      · rw [decide_eq_true ho] at CM
        have HX := Lib.hid (all_succ HOk.out (by rw [← HP.out]; exact ho))
        clear ho
        go_wp2_with (go_at_call 44; (with_reducible refine CM.out.mono ?_); rintro e w1 ⟨rfl, hb⟩; have HB1 := Lib.hid (HB.out.trans (hb.mono HB.out.size)); clear hb)
        exact ⟨⟨k + 1, by simp, by omega, HX.out, HB1.out⟩, by simp [intOf]; omega⟩
      · rw [decide_eq_false ho] at CM
        have HX := Lib.hid (HN.out k hgo (by rw [← HP.out]; exact ho))
        clear ho
        go_wp2_with (go_at_call 44; (with_reducible refine CM.out.mono ?_); rintro e w1 ⟨rfl, hb⟩; have HB1 := Lib.hid (HB.out.trans (hb.mono HB.out.size)); clear hb)
        go_ret
        exact ⟨by rw [HX.out]; rfl, HB1.out⟩
    · obtain rfl : k = n := by omega
      have HX := Lib.hid (HY.out hok)
      clear hok hb
      go_wp2_with fail
      go_ret
      exact ⟨by rw [HX.out]; rfl, HB.out⟩
/-- What Asked answers. -/
def askN (l : List P2) : Int := if AllP l then 0 else 1
theorem asked_any (g n c : Nat) (l : List P2) (w : World) (h : Prow w g l) (hl : l.length = n) (hn : n ≤ 1000) : Calls Try.prog 22 #[.slice (some ⟨g, 0, none⟩) n c] w fun e w' => e = .returned (.int .i64 (askN l)) ∧ Below w.heap.size w w' := by
  have CA := Lib.hid (all_any g n c l w h hl hn)
  by_cases ha : AllP l
  · rw [decide_eq_true ha] at CA
    have HX := Lib.hid (show askN l = 0 from if_pos ha)
    clear h hl ha
    go_enter Try.func22, Try.ntmps22
    go_wp2_with (go_at_call 36; (with_reducible refine CA.out.mono ?_); rintro e w1 ⟨rfl, hb⟩; have HB := Lib.hid hb; clear hb)
    go_ret
    exact ⟨by rw [HX.out]; rfl, HB.out⟩
  · rw [decide_eq_false ha] at CA
    have HX := Lib.hid (show askN l = 1 from if_neg ha)
    clear h hl ha
    go_enter Try.func22, Try.ntmps22
    go_wp2_with (go_at_call 36; (with_reducible refine CA.out.mono ?_); rintro e w1 ⟨rfl, hb⟩; have HB := Lib.hid hb; clear hb)
    go_ret
    exact ⟨by rw [HX.out]; rfl, HB.out⟩
set_option maxHeartbeats 4000000 in
set_option maxRecDepth 100000 in
theorem cross_any (ax ay bx by_ cx cy : Int) (w : World) (ha : fiP (ax, ay)) (hb : fiP (bx, by_)) (hc : fiP (cx, cy)) : Calls Try.prog 38 #[.agg #[.int .i64 ax, .int .i64 ay], .agg #[.int .i64 bx, .int .i64 by_], .agg #[.int .i64 cx, .int .i64 cy]] w fun e w' => e = .returned (.int .i64 (crs (ax, ay) (bx, by_) (cx, cy))) ∧ Below w.heap.size w w' := by
  obtain ⟨⟨ha1, ha2⟩, ha3, ha4⟩ := ha
  obtain ⟨⟨hb1, hb2⟩, hb3, hb4⟩ := hb
  obtain ⟨⟨hc1, hc2⟩, hc3, hc4⟩ := hc
  dsimp only at ha1 ha2 ha3 ha4 hb1 hb2 hb3 hb4 hc1 hc2 hc3 hc4
  have m1 := mul_in (x := bx - ax) (y := cy - ay) (by omega) (by omega) (by omega) (by omega)
  have m2 := mul_in (x := by_ - ay) (y := cx - ax) (by omega) (by omega) (by omega) (by omega)
  have v0 : IntKind.i64.wrap (bx - ax) = bx - ax := IntWalk.i64_in _ (by omega)
  have v1 : IntKind.i64.wrap (cy - ay) = cy - ay := IntWalk.i64_in _ (by omega)
  have v2 : IntKind.i64.wrap (by_ - ay) = by_ - ay := IntWalk.i64_in _ (by omega)
  have v3 : IntKind.i64.wrap (cx - ax) = cx - ax := IntWalk.i64_in _ (by omega)
  have v4 : IntKind.i64.wrap ((bx - ax) * (cy - ay)) = (bx - ax) * (cy - ay) := IntWalk.i64_in _ (by omega)
  have v5 : IntKind.i64.wrap ((by_ - ay) * (cx - ax)) = (by_ - ay) * (cx - ax) := IntWalk.i64_in _ (by omega)
  have v6 : IntKind.i64.wrap ((bx - ax) * (cy - ay) - (by_ - ay) * (cx - ax)) = (bx - ax) * (cy - ay) - (by_ - ay) * (cx - ax) := IntWalk.i64_in _ (by omega)
  obtain ⟨p0, p1, p2, hbw⟩ := box3 w ax ay bx by_ cx cy
  have HB := Lib.hid hbw
  obtain ⟨c0, c1, _, _⟩ := p0.cells
  obtain ⟨d0, d1, _, _⟩ := p1.cells
  obtain ⟨f0, f1, _, _⟩ := p2.cells
  dsimp only at c0 c1 d0 d1 f0 f1
  clear p0 p1 p2 hbw m1 m2
  go_enter Try.func38, Try.ntmps38
  go_wp2_with fail
  go_ret
  exact ⟨rfl, HB.out⟩
set_option maxHeartbeats 4000000 in
set_option maxRecDepth 100000 in
theorem dot_any (ax ay bx by_ cx cy : Int) (w : World) (ha : fiP (ax, ay)) (hb : fiP (bx, by_)) (hc : fiP (cx, cy)) : Calls Try.prog 25 #[.agg #[.int .i64 ax, .int .i64 ay], .agg #[.int .i64 bx, .int .i64 by_], .agg #[.int .i64 cx, .int .i64 cy]] w fun e w' => e = .returned (.int .i64 (dt (ax, ay) (bx, by_) (cx, cy))) ∧ Below w.heap.size w w' := by
  obtain ⟨⟨ha1, ha2⟩, ha3, ha4⟩ := ha
  obtain ⟨⟨hb1, hb2⟩, hb3, hb4⟩ := hb
  obtain ⟨⟨hc1, hc2⟩, hc3, hc4⟩ := hc
  dsimp only at ha1 ha2 ha3 ha4 hb1 hb2 hb3 hb4 hc1 hc2 hc3 hc4
  have m1 := mul_in (x := bx - ax) (y := cx - ax) (by omega) (by omega) (by omega) (by omega)
  have m2 := mul_in (x := by_ - ay) (y := cy - ay) (by omega) (by omega) (by omega) (by omega)
  have v0 : IntKind.i64.wrap (bx - ax) = bx - ax := IntWalk.i64_in _ (by omega)
  have v1 : IntKind.i64.wrap (cx - ax) = cx - ax := IntWalk.i64_in _ (by omega)
  have v2 : IntKind.i64.wrap (by_ - ay) = by_ - ay := IntWalk.i64_in _ (by omega)
  have v3 : IntKind.i64.wrap (cy - ay) = cy - ay := IntWalk.i64_in _ (by omega)
  have v4 : IntKind.i64.wrap ((bx - ax) * (cx - ax)) = (bx - ax) * (cx - ax) := IntWalk.i64_in _ (by omega)
  have v5 : IntKind.i64.wrap ((by_ - ay) * (cy - ay)) = (by_ - ay) * (cy - ay) := IntWalk.i64_in _ (by omega)
  have v6 : IntKind.i64.wrap ((bx - ax) * (cx - ax) + (by_ - ay) * (cy - ay)) = (bx - ax) * (cx - ax) + (by_ - ay) * (cy - ay) := IntWalk.i64_in _ (by omega)
  obtain ⟨p0, p1, p2, hbw⟩ := box3 w ax ay bx by_ cx cy
  have HB := Lib.hid hbw
  obtain ⟨c0, c1, _, _⟩ := p0.cells
  obtain ⟨d0, d1, _, _⟩ := p1.cells
  obtain ⟨f0, f1, _, _⟩ := p2.cells
  dsimp only at c0 c1 d0 d1 f0 f1
  clear p0 p1 p2 hbw m1 m2
  go_enter Try.func25, Try.ntmps25
  go_wp2_with fail
  go_ret
  exact ⟨rfl, HB.out⟩
end Go.Proofs.Ytmbpehhbfbmacaa
