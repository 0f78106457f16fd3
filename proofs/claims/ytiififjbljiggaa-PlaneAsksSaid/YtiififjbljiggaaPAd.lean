/- Proved here: which lines meet (the document's Meet). Condition: points that may be. -/
import Derived.Test.YtiififjbljiggaaPAc
import Derived.Test.YtiififjbljiggaaPTl
namespace Go.Proofs.Ytiififjbljiggaa
open Go.RowKit

/-- Four points in boxes, one after the other. -/
structure QdS (w W : World) (a b c d : P2) : Prop where
  bel : Below w.heap.size w W
  h0 : Pbx W w.heap.size a
  h1 : Pbx W (w.heap.size + 1) b
  h2 : Pbx W (w.heap.size + 1 + 1) c
  h3 : Pbx W (w.heap.size + 1 + 1 + 1) d
section
variable {w W W' : World} {a b c d : P2}
theorem QdS.next (h : QdS w W a b c d) (hb : Below W.heap.size W W') : QdS w W' a b c d := ⟨h.bel.trans (hb.mono h.bel.size), h.h0.bel hb, h.h1.bel hb, h.h2.bel hb, h.h3.bel hb⟩
theorem QdS.drew (h : QdS w W a b c d) : QdS w W.drew a b c d := h.next (Below.drew (Below.refl _ _))
theorem QdS.cells (h : QdS w W a b c d) : W.cell? ⟨w.heap.size, 0, none⟩ = some (.int .i64 a.1) ∧ W.cell? ⟨w.heap.size, 1, none⟩ = some (.int .i64 a.2) ∧ W.cell? ⟨w.heap.size + 1, 0, none⟩ = some (.int .i64 b.1) ∧ W.cell? ⟨w.heap.size + 1, 1, none⟩ = some (.int .i64 b.2)
    ∧ W.cell? ⟨w.heap.size + 1 + 1, 0, none⟩ = some (.int .i64 c.1) ∧ W.cell? ⟨w.heap.size + 1 + 1, 1, none⟩ = some (.int .i64 c.2) ∧ W.cell? ⟨w.heap.size + 1 + 1 + 1, 0, none⟩ = some (.int .i64 d.1) ∧ W.cell? ⟨w.heap.size + 1 + 1 + 1, 1, none⟩ = some (.int .i64 d.2) :=
  ⟨h.h0.cells.1, h.h0.cells.2.1, h.h1.cells.1, h.h1.cells.2.1, h.h2.cells.1, h.h2.cells.2.1, h.h3.cells.1, h.h3.cells.2.1⟩
end
theorem QdS.new (w : World) (ax ay bx by_ cx cy dx dy : Int) : QdS w ((((w.alloc (.cells #[.int .i64 ax, .int .i64 ay] 23)).alloc (.cells #[.int .i64 bx, .int .i64 by_] 23)).alloc (.cells #[.int .i64 cx, .int .i64 cy] 23)).alloc (.cells #[.int .i64 dx, .int .i64 dy] 23)) (ax, ay) (bx, by_) (cx, cy) (dx, dy) := by
  obtain ⟨p0, p1, p2, hb⟩ := box3 w ax ay bx by_ cx cy
  obtain ⟨W3, hW3⟩ : ∃ W, W = ((w.alloc (.cells #[.int .i64 ax, .int .i64 ay] 23)).alloc (.cells #[.int .i64 bx, .int .i64 by_] 23)).alloc (.cells #[.int .i64 cx, .int .i64 cy] 23) := ⟨_, rfl⟩
  have s3 : W3.heap.size = w.heap.size + 1 + 1 + 1 := by rw [hW3]; simp
  rw [← hW3] at p0 p1 p2 hb ⊢
  have ha : Below W3.heap.size W3 (W3.alloc (.cells #[.int .i64 dx, .int .i64 dy] 23)) := (Below.refl _ _).alloc (Nat.le_refl _) _
  exact ⟨hb.trans (ha.mono hb.size), p0.bel ha, p1.bel ha, p2.bel ha, by rw [← s3]; exact Pbx.new W3 (dx, dy)⟩
theorem sg_in (n : Int) : -1 ≤ sg n ∧ sg n ≤ 1 := by unfold sg; split <;> (try split) <;> omega
theorem sg_mul (m n : Int) : IntKind.i64.wrap (sg m * sg n) = sg m * sg n := by
  have h1 := sg_in m
  have h2 := sg_in n
  have h := mul_in (x := sg m) (y := sg n) (by omega) (by omega) (by omega) (by omega)
  exact IntWalk.i64_in _ (by omega)
set_option maxHeartbeats 8000000 in
set_option maxRecDepth 100000 in
theorem meet_any (ax ay bx by_ cx cy dx dy : Int) (w : World) (ha : fiP (ax, ay)) (hb : fiP (bx, by_)) (hc : fiP (cx, cy)) (hd : fiP (dx, dy)) : Calls Try.prog 20 #[.agg #[.int .i64 ax, .int .i64 ay], .agg #[.int .i64 bx, .int .i64 by_], .agg #[.int .i64 cx, .int .i64 cy], .agg #[.int .i64 dx, .int .i64 dy]] w fun e w' => e = .returned (.bool (decide (Mt (ax, ay) (bx, by_) (cx, cy) (dx, dy)))) ∧ Below w.heap.size w w' := by
  have Q0 := Lib.hid (QdS.new w ax ay bx by_ cx cy dx dy)
  have C1 := Lib.hid (fun W => btw_any ax ay bx by_ cx cy W ha hb hc)
  have C2 := Lib.hid (fun W => btw_any ax ay bx by_ dx dy W ha hb hd)
  have C3 := Lib.hid (fun W => btw_any cx cy dx dy ax ay W hc hd ha)
  have C4 := Lib.hid (fun W => btw_any cx cy dx dy bx by_ W hc hd hb)
  have K1 := Lib.hid (fun W => cross_any ax ay bx by_ cx cy W ha hb hc)
  have K2 := Lib.hid (fun W => cross_any ax ay bx by_ dx dy W ha hb hd)
  have K3 := Lib.hid (fun W => cross_any cx cy dx dy ax ay W hc hd ha)
  have K4 := Lib.hid (fun W => cross_any cx cy dx dy bx by_ W hc hd hb)
  have HY := Lib.hid (show Mt (ax, ay) (bx, by_) (cx, cy) (dx, dy) → decide (Mt (ax, ay) (bx, by_) (cx, cy) (dx, dy)) = true from fun h => decide_eq_true h)
  have HN := Lib.hid (show ¬ Mt (ax, ay) (bx, by_) (cx, cy) (dx, dy) → decide (Mt (ax, ay) (bx, by_) (cx, cy) (dx, dy)) = false from fun h => decide_eq_false h)
  obtain ⟨k0, k1, k2, k3, k4, k5, k6, k7⟩ := Q0.out.cells
  dsimp only at k0 k1 k2 k3 k4 k5 k6 k7
  clear ha hb hc hd
  by_cases h1 : Btw (ax, ay) (bx, by_) (cx, cy)
  · rw [decide_eq_true h1] at C1
    have HX := Lib.hid (HY.out (.inl (.inl (.inl h1))))
    clear h1 HN HY K1 K2 K3 K4
    go_enter Try.func20, Try.ntmps20
    go_wp2_with (first
      | (go_at_call 19; (with_reducible refine (C1.out _).mono ?_); rintro e w1 ⟨rfl, hb⟩; have Q1 := Lib.hid (Q0.out.next hb); clear hb C1; (try clear k0 k1 k2 k3 k4 k5 k6 k7); obtain ⟨k0, k1, k2, k3, k4, k5, k6, k7⟩ := Q1.out.cells; dsimp only at k0 k1 k2 k3 k4 k5 k6 k7))
    go_ret
    exact ⟨by rw [HX.out]; rfl, Q1.out.bel⟩
  · rw [decide_eq_false h1] at C1
    by_cases h2 : Btw (ax, ay) (bx, by_) (dx, dy)
    · rw [decide_eq_true h2] at C2
      have HX := Lib.hid (HY.out (.inl (.inl (.inr h2))))
      clear h1 h2 HN HY K1 K2 K3 K4
      go_enter Try.func20, Try.ntmps20
      go_wp2_with (first
        | (go_at_call 19; (with_reducible refine (C1.out _).mono ?_); rintro e w1 ⟨rfl, hb⟩; have Q1 := Lib.hid (Q0.out.next hb); clear hb C1; (try clear k0 k1 k2 k3 k4 k5 k6 k7); obtain ⟨k0, k1, k2, k3, k4, k5, k6, k7⟩ := Q1.out.cells; dsimp only at k0 k1 k2 k3 k4 k5 k6 k7)
        | (go_at_call 19; (with_reducible refine (C2.out _).mono ?_); rintro e w2 ⟨rfl, hb⟩; have Q2 := Lib.hid (Q1.out.next hb); clear hb C2; (try clear k0 k1 k2 k3 k4 k5 k6 k7); obtain ⟨k0, k1, k2, k3, k4, k5, k6, k7⟩ := Q2.out.cells; dsimp only at k0 k1 k2 k3 k4 k5 k6 k7))
      go_ret
      exact ⟨by rw [HX.out]; rfl, Q2.out.bel⟩
    · rw [decide_eq_false h2] at C2
      by_cases h3 : Btw (cx, cy) (dx, dy) (ax, ay)
      · rw [decide_eq_true h3] at C3
        have HX := Lib.hid (HY.out (.inl (.inr (.inl h3))))
        clear h1 h2 h3 HN HY K1 K2 K3 K4
        go_enter Try.func20, Try.ntmps20
        go_wp2_with (first
          | (go_at_call 19; (with_reducible refine (C1.out _).mono ?_); rintro e w1 ⟨rfl, hb⟩; have Q1 := Lib.hid (Q0.out.next hb); clear hb C1; (try clear k0 k1 k2 k3 k4 k5 k6 k7); obtain ⟨k0, k1, k2, k3, k4, k5, k6, k7⟩ := Q1.out.cells; dsimp only at k0 k1 k2 k3 k4 k5 k6 k7)
          | (go_at_call 19; (with_reducible refine (C2.out _).mono ?_); rintro e w2 ⟨rfl, hb⟩; have Q2 := Lib.hid (Q1.out.next hb); clear hb C2; (try clear k0 k1 k2 k3 k4 k5 k6 k7); obtain ⟨k0, k1, k2, k3, k4, k5, k6, k7⟩ := Q2.out.cells; dsimp only at k0 k1 k2 k3 k4 k5 k6 k7)
          | (go_at_call 19; (with_reducible refine (C3.out _).mono ?_); rintro e w3 ⟨rfl, hb⟩; have Q3 := Lib.hid (Q2.out.next hb); clear hb C3; (try clear k0 k1 k2 k3 k4 k5 k6 k7); obtain ⟨k0, k1, k2, k3, k4, k5, k6, k7⟩ := Q3.out.cells; dsimp only at k0 k1 k2 k3 k4 k5 k6 k7))
        go_ret
        exact ⟨by rw [HX.out]; rfl, Q3.out.bel⟩
      · rw [decide_eq_false h3] at C3
        by_cases h4 : Btw (cx, cy) (dx, dy) (bx, by_)
        · rw [decide_eq_true h4] at C4
          have HX := Lib.hid (HY.out (.inl (.inr (.inr h4))))
          clear h1 h2 h3 h4 HN HY K1 K2 K3 K4
          go_enter Try.func20, Try.ntmps20
          go_wp2_with (first
            | (go_at_call 19; (with_reducible refine (C1.out _).mono ?_); rintro e w1 ⟨rfl, hb⟩; have Q1 := Lib.hid (Q0.out.next hb); clear hb C1; (try clear k0 k1 k2 k3 k4 k5 k6 k7); obtain ⟨k0, k1, k2, k3, k4, k5, k6, k7⟩ := Q1.out.cells; dsimp only at k0 k1 k2 k3 k4 k5 k6 k7)
            | (go_at_call 19; (with_reducible refine (C2.out _).mono ?_); rintro e w2 ⟨rfl, hb⟩; have Q2 := Lib.hid (Q1.out.next hb); clear hb C2; (try clear k0 k1 k2 k3 k4 k5 k6 k7); obtain ⟨k0, k1, k2, k3, k4, k5, k6, k7⟩ := Q2.out.cells; dsimp only at k0 k1 k2 k3 k4 k5 k6 k7)
            | (go_at_call 19; (with_reducible refine (C3.out _).mono ?_); rintro e w3 ⟨rfl, hb⟩; have Q3 := Lib.hid (Q2.out.next hb); clear hb C3; (try clear k0 k1 k2 k3 k4 k5 k6 k7); obtain ⟨k0, k1, k2, k3, k4, k5, k6, k7⟩ := Q3.out.cells; dsimp only at k0 k1 k2 k3 k4 k5 k6 k7)
            | (go_at_call 19; (with_reducible refine (C4.out _).mono ?_); rintro e w4 ⟨rfl, hb⟩; have Q4 := Lib.hid (Q3.out.next hb); clear hb C4; (try clear k0 k1 k2 k3 k4 k5 k6 k7); obtain ⟨k0, k1, k2, k3, k4, k5, k6, k7⟩ := Q4.out.cells; dsimp only at k0 k1 k2 k3 k4 k5 k6 k7))
          go_ret
          exact ⟨by rw [HX.out]; rfl, Q4.out.bel⟩
        · rw [decide_eq_false h4] at C4
          go_enter Try.func20, Try.ntmps20
          go_upto_region 3 with (first
            | (go_at_call 19; (with_reducible refine (C1.out _).mono ?_); rintro e w1 ⟨rfl, hb⟩; have Q1 := Lib.hid (Q0.out.next hb); clear hb C1; (try clear k0 k1 k2 k3 k4 k5 k6 k7); obtain ⟨k0, k1, k2, k3, k4, k5, k6, k7⟩ := Q1.out.cells; dsimp only at k0 k1 k2 k3 k4 k5 k6 k7)
            | (go_at_call 19; (with_reducible refine (C2.out _).mono ?_); rintro e w2 ⟨rfl, hb⟩; have Q2 := Lib.hid (Q1.out.next hb); clear hb C2; (try clear k0 k1 k2 k3 k4 k5 k6 k7); obtain ⟨k0, k1, k2, k3, k4, k5, k6, k7⟩ := Q2.out.cells; dsimp only at k0 k1 k2 k3 k4 k5 k6 k7)
            | (go_at_call 19; (with_reducible refine (C3.out _).mono ?_); rintro e w3 ⟨rfl, hb⟩; have Q3 := Lib.hid (Q2.out.next hb); clear hb C3; (try clear k0 k1 k2 k3 k4 k5 k6 k7); obtain ⟨k0, k1, k2, k3, k4, k5, k6, k7⟩ := Q3.out.cells; dsimp only at k0 k1 k2 k3 k4 k5 k6 k7)
            | (go_at_call 19; (with_reducible refine (C4.out _).mono ?_); rintro e w4 ⟨rfl, hb⟩; have Q4 := Lib.hid (Q3.out.next hb); clear hb C4; (try clear k0 k1 k2 k3 k4 k5 k6 k7); obtain ⟨k0, k1, k2, k3, k4, k5, k6, k7⟩ := Q4.out.cells; dsimp only at k0 k1 k2 k3 k4 k5 k6 k7))
          have q1 := sg_mul (crs (ax, ay) (bx, by_) (cx, cy)) (crs (ax, ay) (bx, by_) (dx, dy))
          have q2 := sg_mul (crs (cx, cy) (dx, dy) (ax, ay)) (crs (cx, cy) (dx, dy) (bx, by_))
          have HC := Lib.hid (show decide (Mt (ax, ay) (bx, by_) (cx, cy) (dx, dy)) = decide (Crosses (ax, ay) (bx, by_) (cx, cy) (dx, dy)) from decide_eq_decide.2 ⟨fun h => by
            rcases h with (h | h) | h
            · rcases h with h | h
              · exact absurd h h1
              · exact absurd h h2
            · rcases h with h | h
              · exact absurd h h3
              · exact absurd h h4
            · exact h, fun h => .inr h⟩)
          have HCr := Lib.hid (show decide (Crosses (ax, ay) (bx, by_) (cx, cy) (dx, dy)) = decide (sg (crs (ax, ay) (bx, by_) (cx, cy)) * sg (crs (ax, ay) (bx, by_) (dx, dy)) < 0 ∧ sg (crs (cx, cy) (dx, dy) (ax, ay)) * sg (crs (cx, cy) (dx, dy) (bx, by_)) < 0) from rfl)
          obtain ⟨z1, hz1⟩ : ∃ z, z = crs (ax, ay) (bx, by_) (cx, cy) := ⟨_, rfl⟩
          rw [← hz1] at K1 HCr q1
          obtain ⟨z2, hz2⟩ : ∃ z, z = crs (ax, ay) (bx, by_) (dx, dy) := ⟨_, rfl⟩
          rw [← hz2] at K2 HCr q1
          obtain ⟨z3, hz3⟩ : ∃ z, z = crs (cx, cy) (dx, dy) (ax, ay) := ⟨_, rfl⟩
          rw [← hz3] at K3 HCr q2
          obtain ⟨z4, hz4⟩ : ∃ z, z = crs (cx, cy) (dx, dy) (bx, by_) := ⟨_, rfl⟩
          rw [← hz4] at K4 HCr q2
          clear h1 h2 h3 h4 hz1 hz2 hz3 hz4 HY HN
          have S1 := Lib.hid (fun W => sign_any z1 W)
          obtain ⟨s1, hs1⟩ : ∃ s, s = sg z1 := ⟨_, rfl⟩
          rw [← hs1] at S1 HCr q1
          have S2 := Lib.hid (fun W => sign_any z2 W)
          obtain ⟨s2, hs2⟩ : ∃ s, s = sg z2 := ⟨_, rfl⟩
          rw [← hs2] at S2 HCr q1
          have S3 := Lib.hid (fun W => sign_any z3 W)
          obtain ⟨s3, hs3⟩ : ∃ s, s = sg z3 := ⟨_, rfl⟩
          rw [← hs3] at S3 HCr q2
          have S4 := Lib.hid (fun W => sign_any z4 W)
          obtain ⟨s4, hs4⟩ : ∃ s, s = sg z4 := ⟨_, rfl⟩
          rw [← hs4] at S4 HCr q2
          clear hs1 hs2 hs3 hs4
          have R0 := Lib.hid Q4.out.drew
          by_cases g1 : s1 * s2 < 0
          · have e1 : decide (s1 * s2 < 0) = true := decide_eq_true g1
            by_cases g2 : s3 * s4 < 0
            · have e2 : decide (s3 * s4 < 0) = true := decide_eq_true g2
              have HX := Lib.hid (show decide (Mt (ax, ay) (bx, by_) (cx, cy) (dx, dy)) = true from by rw [HC.out, HCr.out]; exact decide_eq_true ⟨g1, g2⟩)
              clear g1 g2 HC HCr
              go_region_held3 (fun w' => w'.cell? ⟨w.heap.size, 0, none⟩ = some (.int .i64 ax) ∧ w'.cell? ⟨w.heap.size, 1, none⟩ = some (.int .i64 ay) ∧ w'.cell? ⟨w.heap.size + 1, 0, none⟩ = some (.int .i64 bx) ∧ w'.cell? ⟨w.heap.size + 1, 1, none⟩ = some (.int .i64 by_) ∧ w'.cell? ⟨w.heap.size + 1 + 1, 0, none⟩ = some (.int .i64 cx) ∧ w'.cell? ⟨w.heap.size + 1 + 1, 1, none⟩ = some (.int .i64 cy) ∧ w'.cell? ⟨w.heap.size + 1 + 1 + 1, 0, none⟩ = some (.int .i64 dx) ∧ w'.cell? ⟨w.heap.size + 1 + 1 + 1, 1, none⟩ = some (.int .i64 dy))
                (first | exact ⟨k0, k1, k2, k3, k4, k5, k6, k7⟩ | go_keep)
                (first
                  | (go_at_call 17; (with_reducible refine (K1.out _).mono ?_); rintro e v1 ⟨rfl, hb⟩; have R1 := Lib.hid (R0.out.next hb); clear hb K1; obtain ⟨k0, k1, k2, k3, k4, k5, k6, k7⟩ := R1.out.cells; dsimp only at k0 k1 k2 k3 k4 k5 k6 k7)
                  | (go_at_call 18; (with_reducible refine (S1.out _).mono ?_); rintro e y1 ⟨rfl, rfl⟩; clear S1)
                  | (go_at_call 17; (with_reducible refine (K2.out _).mono ?_); rintro e v2 ⟨rfl, hb⟩; have R2 := Lib.hid (R1.out.next hb); clear hb K2; obtain ⟨k0, k1, k2, k3, k4, k5, k6, k7⟩ := R2.out.cells; dsimp only at k0 k1 k2 k3 k4 k5 k6 k7)
                  | (go_at_call 18; (with_reducible refine (S2.out _).mono ?_); rintro e y2 ⟨rfl, rfl⟩; clear S2)
                  | (go_at_call 17; (with_reducible refine (K3.out _).mono ?_); rintro e v3 ⟨rfl, hb⟩; have R3 := Lib.hid (R2.out.next hb); clear hb K3; obtain ⟨k0, k1, k2, k3, k4, k5, k6, k7⟩ := R3.out.cells; dsimp only at k0 k1 k2 k3 k4 k5 k6 k7)
                  | (go_at_call 18; (with_reducible refine (S3.out _).mono ?_); rintro e y3 ⟨rfl, rfl⟩; clear S3)
                  | (go_at_call 17; (with_reducible refine (K4.out _).mono ?_); rintro e v4 ⟨rfl, hb⟩; have R4 := Lib.hid (R3.out.next hb); clear hb K4; obtain ⟨k0, k1, k2, k3, k4, k5, k6, k7⟩ := R4.out.cells; dsimp only at k0 k1 k2 k3 k4 k5 k6 k7)
                  | (go_at_call 18; (with_reducible refine (S4.out _).mono ?_); rintro e y4 ⟨rfl, rfl⟩; clear S4))
              go_wp2_with fail
              go_ret
              exact ⟨by rw [HX.out]; rfl, R4.out.bel⟩
            · have e2 : decide (s3 * s4 < 0) = false := decide_eq_false g2
              have HX := Lib.hid (show decide (Mt (ax, ay) (bx, by_) (cx, cy) (dx, dy)) = false from by rw [HC.out, HCr.out]; exact decide_eq_false (fun h => g2 h.2))
              clear g1 g2 HC HCr
              go_region_held3 (fun w' => w'.cell? ⟨w.heap.size, 0, none⟩ = some (.int .i64 ax) ∧ w'.cell? ⟨w.heap.size, 1, none⟩ = some (.int .i64 ay) ∧ w'.cell? ⟨w.heap.size + 1, 0, none⟩ = some (.int .i64 bx) ∧ w'.cell? ⟨w.heap.size + 1, 1, none⟩ = some (.int .i64 by_) ∧ w'.cell? ⟨w.heap.size + 1 + 1, 0, none⟩ = some (.int .i64 cx) ∧ w'.cell? ⟨w.heap.size + 1 + 1, 1, none⟩ = some (.int .i64 cy) ∧ w'.cell? ⟨w.heap.size + 1 + 1 + 1, 0, none⟩ = some (.int .i64 dx) ∧ w'.cell? ⟨w.heap.size + 1 + 1 + 1, 1, none⟩ = some (.int .i64 dy))
                (first | exact ⟨k0, k1, k2, k3, k4, k5, k6, k7⟩ | go_keep)
                (first
                  | (go_at_call 17; (with_reducible refine (K1.out _).mono ?_); rintro e v1 ⟨rfl, hb⟩; have R1 := Lib.hid (R0.out.next hb); clear hb K1; obtain ⟨k0, k1, k2, k3, k4, k5, k6, k7⟩ := R1.out.cells; dsimp only at k0 k1 k2 k3 k4 k5 k6 k7)
                  | (go_at_call 18; (with_reducible refine (S1.out _).mono ?_); rintro e y1 ⟨rfl, rfl⟩; clear S1)
                  | (go_at_call 17; (with_reducible refine (K2.out _).mono ?_); rintro e v2 ⟨rfl, hb⟩; have R2 := Lib.hid (R1.out.next hb); clear hb K2; obtain ⟨k0, k1, k2, k3, k4, k5, k6, k7⟩ := R2.out.cells; dsimp only at k0 k1 k2 k3 k4 k5 k6 k7)
                  | (go_at_call 18; (with_reducible refine (S2.out _).mono ?_); rintro e y2 ⟨rfl, rfl⟩; clear S2)
                  | (go_at_call 17; (with_reducible refine (K3.out _).mono ?_); rintro e v3 ⟨rfl, hb⟩; have R3 := Lib.hid (R2.out.next hb); clear hb K3; obtain ⟨k0, k1, k2, k3, k4, k5, k6, k7⟩ := R3.out.cells; dsimp only at k0 k1 k2 k3 k4 k5 k6 k7)
                  | (go_at_call 18; (with_reducible refine (S3.out _).mono ?_); rintro e y3 ⟨rfl, rfl⟩; clear S3)
                  | (go_at_call 17; (with_reducible refine (K4.out _).mono ?_); rintro e v4 ⟨rfl, hb⟩; have R4 := Lib.hid (R3.out.next hb); clear hb K4; obtain ⟨k0, k1, k2, k3, k4, k5, k6, k7⟩ := R4.out.cells; dsimp only at k0 k1 k2 k3 k4 k5 k6 k7)
                  | (go_at_call 18; (with_reducible refine (S4.out _).mono ?_); rintro e y4 ⟨rfl, rfl⟩; clear S4))
              go_wp2_with fail
              go_ret
              exact ⟨by rw [HX.out]; rfl, R4.out.bel⟩
          · have e1 : decide (s1 * s2 < 0) = false := decide_eq_false g1
            have HX := Lib.hid (show decide (Mt (ax, ay) (bx, by_) (cx, cy) (dx, dy)) = false from by rw [HC.out, HCr.out]; exact decide_eq_false (fun h => g1 h.1))
            clear g1 HC HCr
            refine wt_start (S := (fun w' => w'.cell? ⟨w.heap.size, 0, none⟩ = some (.int .i64 ax) ∧ w'.cell? ⟨w.heap.size, 1, none⟩ = some (.int .i64 ay) ∧ w'.cell? ⟨w.heap.size + 1, 0, none⟩ = some (.int .i64 bx) ∧ w'.cell? ⟨w.heap.size + 1, 1, none⟩ = some (.int .i64 by_) ∧ w'.cell? ⟨w.heap.size + 1 + 1, 0, none⟩ = some (.int .i64 cx) ∧ w'.cell? ⟨w.heap.size + 1 + 1, 1, none⟩ = some (.int .i64 cy) ∧ w'.cell? ⟨w.heap.size + 1 + 1 + 1, 0, none⟩ = some (.int .i64 dx) ∧ w'.cell? ⟨w.heap.size + 1 + 1 + 1, 1, none⟩ = some (.int .i64 dy))) 26 (by kernel_rfl) ?_ (fun hHeld => ?_)
            · exact ⟨k0, k1, k2, k3, k4, k5, k6, k7⟩
            refine wt_take (i := 0) (oi := { dst := some 31, op := Op.load 23 (Operand.tmp 4), type := 23, pos := "ref.go:52", after := #[], guard := none }) (v := ?_) [] (by kernel_rfl) rfl (by kernel_rfl) (by kernel_rfl) (by kernel_rfl) rfl (fun _ _ _ h => h) (Or.inl ⟨by rfl, ?_⟩) (by assumption) ?_
            rotate_left 1
            · (intro w0 hS0; (try dsimp only at hS0); go_simp; try with_reducible rfl)
            try simp only [Act.put, List.setIfInBounds_toArray, List.set_cons_zero, List.set_cons_succ]
            refine wt_take (i := 1) (oi := { dst := some 32, op := Op.load 23 (Operand.tmp 5), type := 23, pos := "ref.go:52", after := #[], guard := none }) (v := ?_) [] (by kernel_rfl) rfl (by kernel_rfl) (by kernel_rfl) (by kernel_rfl) rfl (fun _ _ _ h => h) (Or.inl ⟨by rfl, ?_⟩) (by assumption) ?_
            rotate_left 1
            · (intro w0 hS0; (try dsimp only at hS0); go_simp; try with_reducible rfl)
            try simp only [Act.put, List.setIfInBounds_toArray, List.set_cons_zero, List.set_cons_succ]
            refine wt_take (i := 2) (oi := { dst := some 33, op := Op.load 23 (Operand.tmp 6), type := 23, pos := "ref.go:52", after := #[], guard := none }) (v := ?_) [] (by kernel_rfl) rfl (by kernel_rfl) (by kernel_rfl) (by kernel_rfl) rfl (fun _ _ _ h => h) (Or.inl ⟨by rfl, ?_⟩) (by assumption) ?_
            rotate_left 1
            · (intro w0 hS0; (try dsimp only at hS0); go_simp; try with_reducible rfl)
            try simp only [Act.put, List.setIfInBounds_toArray, List.set_cons_zero, List.set_cons_succ]
            refine wt_take (i := 5) (oi := { dst := some 36, op := Op.load 23 (Operand.tmp 4), type := 23, pos := "ref.go:52", after := #[], guard := none }) (v := ?_) [] (by kernel_rfl) rfl (by kernel_rfl) (by kernel_rfl) (by kernel_rfl) rfl (fun _ _ _ h => h) (Or.inl ⟨by rfl, ?_⟩) (by assumption) ?_
            rotate_left 1
            · (intro w0 hS0; (try dsimp only at hS0); go_simp; try with_reducible rfl)
            try simp only [Act.put, List.setIfInBounds_toArray, List.set_cons_zero, List.set_cons_succ]
            refine wt_take (i := 6) (oi := { dst := some 37, op := Op.load 23 (Operand.tmp 5), type := 23, pos := "ref.go:52", after := #[], guard := none }) (v := ?_) [] (by kernel_rfl) rfl (by kernel_rfl) (by kernel_rfl) (by kernel_rfl) rfl (fun _ _ _ h => h) (Or.inl ⟨by rfl, ?_⟩) (by assumption) ?_
            rotate_left 1
            · (intro w0 hS0; (try dsimp only at hS0); go_simp; try with_reducible rfl)
            try simp only [Act.put, List.setIfInBounds_toArray, List.set_cons_zero, List.set_cons_succ]
            refine wt_take (i := 7) (oi := { dst := some 38, op := Op.load 23 (Operand.tmp 7), type := 23, pos := "ref.go:52", after := #[], guard := none }) (v := ?_) [] (by kernel_rfl) rfl (by kernel_rfl) (by kernel_rfl) (by kernel_rfl) rfl (fun _ _ _ h => h) (Or.inl ⟨by rfl, ?_⟩) (by assumption) ?_
            rotate_left 1
            · (intro w0 hS0; (try dsimp only at hS0); go_simp; try with_reducible rfl)
            try simp only [Act.put, List.setIfInBounds_toArray, List.set_cons_zero, List.set_cons_succ]
            refine wt_next (i := 3) (o := { dst := some 34, op := Op.call { callee := Callee.value (Operand.func 17), args := #[Operand.tmp 31, Operand.tmp 32, Operand.tmp 33], argTypes := #[23, 23, 23] }, type := 2, pos := "ref.go:52", after := #[{ on := 0, ground := Ground.data }, { on := 1, ground := Ground.data }, { on := 2, ground := Ground.data }], guard := none }) (by kernel_rfl) rfl (fun K hK => ?_)
            go_simp
            (go_at_call 17; (with_reducible refine (K1.out _).mono ?_); rintro e v1 ⟨rfl, hb⟩; have R1 := Lib.hid (R0.out.next hb); clear hb K1; obtain ⟨k0, k1, k2, k3, k4, k5, k6, k7⟩ := R1.out.cells; dsimp only at k0 k1 k2 k3 k4 k5 k6 k7)
            refine hK.out _ _ ⟨k0, k1, k2, k3, k4, k5, k6, k7⟩ (fun hHeld => ?_)
            clear hK K
            try simp only [Act.put, List.setIfInBounds_toArray, List.set_cons_zero, List.set_cons_succ]
            refine wt_next (i := 4) (o := { dst := some 35, op := Op.call { callee := Callee.value (Operand.func 18), args := #[Operand.tmp 34], argTypes := #[2] }, type := 3, pos := "ref.go:52", after := #[{ on := 3, ground := Ground.data }, { on := 3, ground := Ground.chain }], guard := none }) (by kernel_rfl) rfl (fun K hK => ?_)
            go_simp
            (go_at_call 18; (with_reducible refine (S1.out _).mono ?_); rintro e y1 ⟨rfl, rfl⟩; clear S1)
            refine hK.out _ _ ⟨k0, k1, k2, k3, k4, k5, k6, k7⟩ (fun hHeld => ?_)
            clear hK K
            try simp only [Act.put, List.setIfInBounds_toArray, List.set_cons_zero, List.set_cons_succ]
            refine wt_next (i := 8) (o := { dst := some 39, op := Op.call { callee := Callee.value (Operand.func 17), args := #[Operand.tmp 36, Operand.tmp 37, Operand.tmp 38], argTypes := #[23, 23, 23] }, type := 2, pos := "ref.go:52", after := #[{ on := 5, ground := Ground.data }, { on := 6, ground := Ground.data }, { on := 7, ground := Ground.data }, { on := 4, ground := Ground.chain }], guard := none }) (by kernel_rfl) rfl (fun K hK => ?_)
            go_simp
            (go_at_call 17; (with_reducible refine (K2.out _).mono ?_); rintro e v2 ⟨rfl, hb⟩; have R2 := Lib.hid (R1.out.next hb); clear hb K2; obtain ⟨k0, k1, k2, k3, k4, k5, k6, k7⟩ := R2.out.cells; dsimp only at k0 k1 k2 k3 k4 k5 k6 k7)
            refine hK.out _ _ ⟨k0, k1, k2, k3, k4, k5, k6, k7⟩ (fun hHeld => ?_)
            clear hK K
            try simp only [Act.put, List.setIfInBounds_toArray, List.set_cons_zero, List.set_cons_succ]
            refine wt_next (i := 9) (o := { dst := some 40, op := Op.call { callee := Callee.value (Operand.func 18), args := #[Operand.tmp 39], argTypes := #[2] }, type := 3, pos := "ref.go:52", after := #[{ on := 8, ground := Ground.data }, { on := 8, ground := Ground.chain }], guard := none }) (by kernel_rfl) rfl (fun K hK => ?_)
            go_simp
            (go_at_call 18; (with_reducible refine (S2.out _).mono ?_); rintro e y2 ⟨rfl, rfl⟩; clear S2)
            refine hK.out _ _ ⟨k0, k1, k2, k3, k4, k5, k6, k7⟩ (fun hHeld => ?_)
            clear hK K
            try simp only [Act.put, List.setIfInBounds_toArray, List.set_cons_zero, List.set_cons_succ]
            refine wt_take (i := 10) (oi := { dst := some 41, op := Op.binOp BinOp.mul 3 (Operand.tmp 35) (Operand.tmp 40) 3, type := 3, pos := "ref.go:52", after := #[{ on := 4, ground := Ground.data }, { on := 9, ground := Ground.data }], guard := none }) (v := ?_) [] (by kernel_rfl) rfl (by kernel_rfl) (by kernel_rfl) (by kernel_rfl) rfl (fun _ _ _ h => h) (Or.inl ⟨by rfl, ?_⟩) (by assumption) ?_
            rotate_left 1
            · (intro w0 hS0; (try dsimp only at hS0); go_simp; try with_reducible rfl)
            try simp only [Act.put, List.setIfInBounds_toArray, List.set_cons_zero, List.set_cons_succ]
            refine wt_take (i := 11) (oi := { dst := some 42, op := Op.binOp BinOp.lss 3 (Operand.tmp 41) (Operand.const (Value.int IntKind.i64 0)) 3, type := 4, pos := "ref.go:52", after := #[{ on := 10, ground := Ground.data }], guard := none }) (v := ?_) [] (by kernel_rfl) rfl (by kernel_rfl) (by kernel_rfl) (by kernel_rfl) rfl (fun _ _ _ h => h) (Or.inl ⟨by rfl, ?_⟩) (by assumption) ?_
            rotate_left 1
            · (intro w0 hS0; (try dsimp only at hS0); go_simp; try with_reducible rfl)
            try simp only [Act.put, List.setIfInBounds_toArray, List.set_cons_zero, List.set_cons_succ]
            refine wt_take (i := 12) (oi := { dst := some 43, op := Op.move (Operand.tmp 42), type := 4, pos := "ref.go:52", after := #[{ on := 11, ground := Ground.data }, { on := 9, ground := Ground.chain }], guard := none }) (v := ?_) [] (by kernel_rfl) rfl (by kernel_rfl) (by kernel_rfl) (by kernel_rfl) rfl (fun _ _ _ h => h) (Or.inl ⟨by rfl, ?_⟩) (by assumption) ?_
            rotate_left 1
            · (intro w0 hS0; (try dsimp only at hS0); go_simp; try with_reducible rfl)
            try simp only [Act.put, List.setIfInBounds_toArray, List.set_cons_zero, List.set_cons_succ]
            refine wt_take (i := 13) (oi := { dst := some 44, op := Op.load 23 (Operand.tmp 6), type := 23, pos := "ref.go:52", after := #[{ on := 12, ground := Ground.guard }], guard := some (12, true) }) (v := undef) [] (by kernel_rfl) rfl (by kernel_rfl) (by kernel_rfl) (by kernel_rfl) rfl (fun _ _ _ h => h) (Or.inr ⟨by rfl, rfl⟩) (by assumption) ?_
            try simp only [Act.put, List.setIfInBounds_toArray, List.set_cons_zero, List.set_cons_succ]
            refine wt_take (i := 14) (oi := { dst := some 45, op := Op.load 23 (Operand.tmp 7), type := 23, pos := "ref.go:52", after := #[{ on := 12, ground := Ground.guard }], guard := some (12, true) }) (v := undef) [] (by kernel_rfl) rfl (by kernel_rfl) (by kernel_rfl) (by kernel_rfl) rfl (fun _ _ _ h => h) (Or.inr ⟨by rfl, rfl⟩) (by assumption) ?_
            try simp only [Act.put, List.setIfInBounds_toArray, List.set_cons_zero, List.set_cons_succ]
            refine wt_take (i := 15) (oi := { dst := some 46, op := Op.load 23 (Operand.tmp 4), type := 23, pos := "ref.go:52", after := #[{ on := 12, ground := Ground.guard }], guard := some (12, true) }) (v := undef) [] (by kernel_rfl) rfl (by kernel_rfl) (by kernel_rfl) (by kernel_rfl) rfl (fun _ _ _ h => h) (Or.inr ⟨by rfl, rfl⟩) (by assumption) ?_
            try simp only [Act.put, List.setIfInBounds_toArray, List.set_cons_zero, List.set_cons_succ]
            refine wt_take (i := 16) (oi := { dst := some 47, op := Op.call { callee := Callee.value (Operand.func 17), args := #[Operand.tmp 44, Operand.tmp 45, Operand.tmp 46], argTypes := #[23, 23, 23] }, type := 2, pos := "ref.go:52", after := #[{ on := 13, ground := Ground.data }, { on := 14, ground := Ground.data }, { on := 15, ground := Ground.data }, { on := 12, ground := Ground.chain }, { on := 12, ground := Ground.guard }], guard := some (12, true) }) (v := undef) [] (by kernel_rfl) rfl (by kernel_rfl) (by kernel_rfl) (by kernel_rfl) rfl (fun _ _ _ h => h) (Or.inr ⟨by rfl, rfl⟩) (by assumption) ?_
            try simp only [Act.put, List.setIfInBounds_toArray, List.set_cons_zero, List.set_cons_succ]
            refine wt_take (i := 17) (oi := { dst := some 48, op := Op.call { callee := Callee.value (Operand.func 18), args := #[Operand.tmp 47], argTypes := #[2] }, type := 3, pos := "ref.go:52", after := #[{ on := 16, ground := Ground.data }, { on := 16, ground := Ground.chain }, { on := 12, ground := Ground.guard }], guard := some (12, true) }) (v := undef) [] (by kernel_rfl) rfl (by kernel_rfl) (by kernel_rfl) (by kernel_rfl) rfl (fun _ _ _ h => h) (Or.inr ⟨by rfl, rfl⟩) (by assumption) ?_
            try simp only [Act.put, List.setIfInBounds_toArray, List.set_cons_zero, List.set_cons_succ]
            refine wt_take (i := 18) (oi := { dst := some 49, op := Op.load 23 (Operand.tmp 6), type := 23, pos := "ref.go:52", after := #[{ on := 12, ground := Ground.guard }], guard := some (12, true) }) (v := undef) [] (by kernel_rfl) rfl (by kernel_rfl) (by kernel_rfl) (by kernel_rfl) rfl (fun _ _ _ h => h) (Or.inr ⟨by rfl, rfl⟩) (by assumption) ?_
            try simp only [Act.put, List.setIfInBounds_toArray, List.set_cons_zero, List.set_cons_succ]
            refine wt_take (i := 19) (oi := { dst := some 50, op := Op.load 23 (Operand.tmp 7), type := 23, pos := "ref.go:52", after := #[{ on := 12, ground := Ground.guard }], guard := some (12, true) }) (v := undef) [] (by kernel_rfl) rfl (by kernel_rfl) (by kernel_rfl) (by kernel_rfl) rfl (fun _ _ _ h => h) (Or.inr ⟨by rfl, rfl⟩) (by assumption) ?_
            try simp only [Act.put, List.setIfInBounds_toArray, List.set_cons_zero, List.set_cons_succ]
            refine wt_take (i := 20) (oi := { dst := some 51, op := Op.load 23 (Operand.tmp 5), type := 23, pos := "ref.go:52", after := #[{ on := 12, ground := Ground.guard }], guard := some (12, true) }) (v := undef) [] (by kernel_rfl) rfl (by kernel_rfl) (by kernel_rfl) (by kernel_rfl) rfl (fun _ _ _ h => h) (Or.inr ⟨by rfl, rfl⟩) (by assumption) ?_
            try simp only [Act.put, List.setIfInBounds_toArray, List.set_cons_zero, List.set_cons_succ]
            refine wt_take (i := 21) (oi := { dst := some 52, op := Op.call { callee := Callee.value (Operand.func 17), args := #[Operand.tmp 49, Operand.tmp 50, Operand.tmp 51], argTypes := #[23, 23, 23] }, type := 2, pos := "ref.go:52", after := #[{ on := 18, ground := Ground.data }, { on := 19, ground := Ground.data }, { on := 20, ground := Ground.data }, { on := 17, ground := Ground.chain }, { on := 12, ground := Ground.guard }], guard := some (12, true) }) (v := undef) [] (by kernel_rfl) rfl (by kernel_rfl) (by kernel_rfl) (by kernel_rfl) rfl (fun _ _ _ h => h) (Or.inr ⟨by rfl, rfl⟩) (by assumption) ?_
            try simp only [Act.put, List.setIfInBounds_toArray, List.set_cons_zero, List.set_cons_succ]
            refine wt_take (i := 22) (oi := { dst := some 53, op := Op.call { callee := Callee.value (Operand.func 18), args := #[Operand.tmp 52], argTypes := #[2] }, type := 3, pos := "ref.go:52", after := #[{ on := 21, ground := Ground.data }, { on := 21, ground := Ground.chain }, { on := 12, ground := Ground.guard }], guard := some (12, true) }) (v := undef) [] (by kernel_rfl) rfl (by kernel_rfl) (by kernel_rfl) (by kernel_rfl) rfl (fun _ _ _ h => h) (Or.inr ⟨by rfl, rfl⟩) (by assumption) ?_
            try simp only [Act.put, List.setIfInBounds_toArray, List.set_cons_zero, List.set_cons_succ]
            refine wt_take (i := 23) (oi := { dst := some 54, op := Op.binOp BinOp.mul 3 (Operand.tmp 48) (Operand.tmp 53) 3, type := 3, pos := "ref.go:52", after := #[{ on := 17, ground := Ground.data }, { on := 22, ground := Ground.data }, { on := 12, ground := Ground.guard }], guard := some (12, true) }) (v := undef) [] (by kernel_rfl) rfl (by kernel_rfl) (by kernel_rfl) (by kernel_rfl) rfl (fun _ _ _ h => h) (Or.inr ⟨by rfl, rfl⟩) (by assumption) ?_
            try simp only [Act.put, List.setIfInBounds_toArray, List.set_cons_zero, List.set_cons_succ]
            refine wt_take (i := 24) (oi := { dst := some 55, op := Op.binOp BinOp.lss 3 (Operand.tmp 54) (Operand.const (Value.int IntKind.i64 0)) 3, type := 4, pos := "ref.go:52", after := #[{ on := 23, ground := Ground.data }, { on := 12, ground := Ground.guard }], guard := some (12, true) }) (v := undef) [] (by kernel_rfl) rfl (by kernel_rfl) (by kernel_rfl) (by kernel_rfl) rfl (fun _ _ _ h => h) (Or.inr ⟨by rfl, rfl⟩) (by assumption) ?_
            try simp only [Act.put, List.setIfInBounds_toArray, List.set_cons_zero, List.set_cons_succ]
            refine wt_take (i := 25) (oi := { dst := some 56, op := Op.pick (Operand.tmp 43) (Operand.tmp 55) (Operand.const (Value.bool false)), type := 4, pos := "ref.go:52", after := #[{ on := 12, ground := Ground.data }, { on := 24, ground := Ground.data }], guard := none }) (v := ?_) [] (by kernel_rfl) rfl (by kernel_rfl) (by kernel_rfl) (by kernel_rfl) rfl (fun _ _ _ h => h) (Or.inl ⟨by rfl, ?_⟩) (by assumption) ?_
            rotate_left 1
            · (intro w0 hS0; (try dsimp only at hS0); go_simp; try with_reducible rfl)
            try simp only [Act.put, List.setIfInBounds_toArray, List.set_cons_zero, List.set_cons_succ]
            refine wt_last (o := { dst := some 8, op := Op.assign (Operand.tmp 56), type := 4, pos := "ref.go:52", after := #[{ on := 25, ground := Ground.data }, { on := 22, ground := Ground.chain }, { on := 0, ground := Ground.phase }, { on := 1, ground := Ground.phase }, { on := 2, ground := Ground.phase }, { on := 3, ground := Ground.phase }, { on := 4, ground := Ground.phase }, { on := 5, ground := Ground.phase }, { on := 6, ground := Ground.phase }, { on := 7, ground := Ground.phase }, { on := 8, ground := Ground.phase }, { on := 9, ground := Ground.phase }, { on := 10, ground := Ground.phase }, { on := 11, ground := Ground.phase }, { on := 12, ground := Ground.phase }, { on := 13, ground := Ground.phase }, { on := 14, ground := Ground.phase }, { on := 15, ground := Ground.phase }, { on := 16, ground := Ground.phase }, { on := 17, ground := Ground.phase }, { on := 18, ground := Ground.phase }, { on := 19, ground := Ground.phase }, { on := 20, ground := Ground.phase }, { on := 21, ground := Ground.phase }, { on := 22, ground := Ground.phase }, { on := 23, ground := Ground.phase }, { on := 24, ground := Ground.phase }, { on := 25, ground := Ground.phase }], guard := none }) (by kernel_rfl) (by kernel_rfl) rfl (fun K hK => ?_)
            go_simp
            refine hK.out _ _ ?_
            clear hK K hHeld
            try simp only [Act.put, List.setIfInBounds_toArray, List.set_cons_zero, List.set_cons_succ]
            all_goals
              go_wp2_with fail
              go_ret
              exact ⟨by rw [HX.out]; rfl, R2.out.bel⟩
end Go.Proofs.Ytiififjbljiggaa
