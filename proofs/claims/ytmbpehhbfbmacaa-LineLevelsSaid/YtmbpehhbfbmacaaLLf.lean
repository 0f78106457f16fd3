/- Proved here: the level of a point and a line (the document's Segment). Condition: points that may be; a reach and steps that may be. -/
import Derived.Test.YtmbpehhbfbmacaaLLe
namespace Go.Proofs.Ytmbpehhbfbmacaa
open Go.RowKit

/-- The level of a point and a line. -/
def segN (p a b : P2) (r n : Nat) : Nat := if a = b ∨ dt a b p ≤ 0 then nearN p a r n else if dt b a p ≤ 0 then nearN p b r n else besN p a b r n
theorem seg_one {p a b : P2} {r n : Nat} (h : a = b ∨ dt a b p ≤ 0) : segN p a b r n = nearN p a r n := if_pos h
theorem seg_two {p a b : P2} {r n : Nat} (h : a ≠ b) (h2 : ¬ dt a b p ≤ 0) (h3 : dt b a p ≤ 0) : segN p a b r n = nearN p b r n := by
  unfold segN; rw [if_neg (fun h4 => h4.elim h h2), if_pos h3]
theorem seg_bes {p a b : P2} {r n : Nat} (h : a ≠ b) (h2 : ¬ dt a b p ≤ 0) (h3 : ¬ dt b a p ≤ 0) : segN p a b r n = besN p a b r n := by
  unfold segN; rw [if_neg (fun h4 => h4.elim h h2), if_neg h3]
set_option maxHeartbeats 8000000 in
set_option maxRecDepth 100000 in
theorem segment_any (px py ax ay bx by_ : Int) (r n : Nat) (w : World) (hp : fiP (px, py)) (ha : fiP (ax, ay)) (hb : fiP (bx, by_)) (hr : r ≤ 1048576) (hn : n ≤ 255) : Calls Try.prog 12 #[.agg #[.int .i64 px, .int .i64 py], .agg #[.int .i64 ax, .int .i64 ay], .agg #[.int .i64 bx, .int .i64 by_], .int .i64 (r : Int), .int .i64 (n : Int)] w fun e w' => e = .returned (.int .i64 (segN (px, py) (ax, ay) (bx, by_) r n : Int)) ∧ Below w.heap.size w w' := by
  have HD := Lib.hid (fun W => dot_any ax ay bx by_ px py W ha hb hp)
  have HD2 := Lib.hid (fun W => dot_any bx by_ ax ay px py W hb ha hp)
  have HE := Lib.hid (fun W => near_any px py ax ay r n W hp ha hr hn)
  have HE2 := Lib.hid (fun W => near_any px py bx by_ r n W hp hb hr hn)
  have HF := Lib.hid (fun W => beside_any px py ax ay bx by_ r n W hp ha hb hr hn)
  have Q0 := Lib.hid (TrS.new w px py ax ay bx by_)
  obtain ⟨k0, k1, k2, k3, k4, k5⟩ := Q0.out.cells
  dsimp only at k0 k1 k2 k3 k4 k5
  clear hp ha hb
  by_cases hab : ((ax, ay) : P2) = (bx, by_)
  · rw [← seg_one (b := (bx, by_)) (.inl hab)] at HE
    obtain ⟨N, hN⟩ : ∃ N, N = segN (px, py) (ax, ay) (bx, by_) r n := ⟨_, rfl⟩
    rw [← hN] at HE ⊢
    obtain ⟨rfl, rfl⟩ : ax = bx ∧ ay = by_ := by simpa using hab
    clear hab hN HD HF HD2 HE2
    go_enter Try.func12, Try.ntmps12
    go_wp2_with (go_at_call 11; (with_reducible refine (HE.out _).mono ?_); rintro e w1 ⟨rfl, hb⟩; have Q1 := Lib.hid (Q0.out.next hb); clear hb)
    go_ret
    exact ⟨rfl, Q1.out.bel⟩
  · have hs : ¬ ax = bx ∨ (ax = bx ∧ ¬ ay = by_) := by
      by_cases h1 : ax = bx
      · exact .inr ⟨h1, fun h2 => hab (by rw [h1, h2])⟩
      · exact .inl h1
    by_cases hle : dt (ax, ay) (bx, by_) (px, py) ≤ 0
    · rw [← seg_one (b := (bx, by_)) (.inr hle)] at HE
      obtain ⟨N, hN⟩ : ∃ N, N = segN (px, py) (ax, ay) (bx, by_) r n := ⟨_, rfl⟩
      rw [← hN] at HE ⊢
      obtain ⟨d, hd⟩ : ∃ d, d = dt (ax, ay) (bx, by_) (px, py) := ⟨_, rfl⟩
      rw [← hd] at HD hle
      have g1 : decide (d ≤ 0) = true := decide_eq_true hle
      clear hle hN hd HF hab HD2 HE2
      rcases hs with g0 | ⟨rfl, g0⟩
      all_goals
        go_enter Try.func12, Try.ntmps12
        go_wp2_with (first
          | (go_at_call 25; (with_reducible refine (HD.out _).mono ?_); rintro e w1 ⟨rfl, hb⟩; have Q1 := Lib.hid (Q0.out.next hb); clear hb HD; (try clear k0 k1 k2 k3 k4 k5); obtain ⟨k0, k1, k2, k3, k4, k5⟩ := Q1.out.cells; dsimp only at k0 k1 k2 k3 k4 k5)
          | (go_at_call 11; (with_reducible refine (HE.out _).mono ?_); rintro e w2 ⟨rfl, hb⟩; have Q2 := Lib.hid (Q1.out.next hb); clear hb))
        go_ret
        exact ⟨rfl, Q2.out.bel⟩
    · by_cases hle2 : dt (bx, by_) (ax, ay) (px, py) ≤ 0
      · rw [← seg_two hab hle hle2] at HE2
        obtain ⟨N, hN⟩ : ∃ N, N = segN (px, py) (ax, ay) (bx, by_) r n := ⟨_, rfl⟩
        rw [← hN] at HE2 ⊢
        obtain ⟨d, hd⟩ : ∃ d, d = dt (ax, ay) (bx, by_) (px, py) := ⟨_, rfl⟩
        rw [← hd] at HD hle
        obtain ⟨d2, hd2⟩ : ∃ d, d = dt (bx, by_) (ax, ay) (px, py) := ⟨_, rfl⟩
        rw [← hd2] at HD2 hle2
        have g1 : decide (d ≤ 0) = false := decide_eq_false hle
        have g2 : decide (d2 ≤ 0) = true := decide_eq_true hle2
        clear hle hle2 hN hd hd2 HE hab HF
        rcases hs with g0 | ⟨rfl, g0⟩
        all_goals
          go_enter Try.func12, Try.ntmps12
          go_wp2_with (first
            | (go_at_call 25; (with_reducible refine (HD.out _).mono ?_); rintro e w1 ⟨rfl, hb⟩; have Q1 := Lib.hid (Q0.out.next hb); clear hb HD; (try clear k0 k1 k2 k3 k4 k5); obtain ⟨k0, k1, k2, k3, k4, k5⟩ := Q1.out.cells; dsimp only at k0 k1 k2 k3 k4 k5)
            | (go_at_call 25; (with_reducible refine (HD2.out _).mono ?_); rintro e w1 ⟨rfl, hb⟩; have Q2 := Lib.hid (Q1.out.next hb); clear hb HD2; (try clear k0 k1 k2 k3 k4 k5); obtain ⟨k0, k1, k2, k3, k4, k5⟩ := Q2.out.cells; dsimp only at k0 k1 k2 k3 k4 k5)
            | (go_at_call 11; (with_reducible refine (HE2.out _).mono ?_); rintro e w2 ⟨rfl, hb⟩; have Q3 := Lib.hid (Q2.out.next hb); clear hb))
          go_ret
          exact ⟨rfl, Q3.out.bel⟩
      · rw [← seg_bes hab hle hle2] at HF
        obtain ⟨N, hN⟩ : ∃ N, N = segN (px, py) (ax, ay) (bx, by_) r n := ⟨_, rfl⟩
        rw [← hN] at HF ⊢
        obtain ⟨d, hd⟩ : ∃ d, d = dt (ax, ay) (bx, by_) (px, py) := ⟨_, rfl⟩
        rw [← hd] at HD hle
        obtain ⟨d2, hd2⟩ : ∃ d, d = dt (bx, by_) (ax, ay) (px, py) := ⟨_, rfl⟩
        rw [← hd2] at HD2 hle2
        have g1 : decide (d ≤ 0) = false := decide_eq_false hle
        have g2 : decide (d2 ≤ 0) = false := decide_eq_false hle2
        clear hle hle2 hN hd hd2 HE hab HE2
        rcases hs with g0 | ⟨rfl, g0⟩
        all_goals
          go_enter Try.func12, Try.ntmps12
          go_wp2_with (first
            | (go_at_call 25; (with_reducible refine (HD.out _).mono ?_); rintro e w1 ⟨rfl, hb⟩; have Q1 := Lib.hid (Q0.out.next hb); clear hb HD; (try clear k0 k1 k2 k3 k4 k5); obtain ⟨k0, k1, k2, k3, k4, k5⟩ := Q1.out.cells; dsimp only at k0 k1 k2 k3 k4 k5)
            | (go_at_call 25; (with_reducible refine (HD2.out _).mono ?_); rintro e w1 ⟨rfl, hb⟩; have Q2 := Lib.hid (Q1.out.next hb); clear hb HD2; (try clear k0 k1 k2 k3 k4 k5); obtain ⟨k0, k1, k2, k3, k4, k5⟩ := Q2.out.cells; dsimp only at k0 k1 k2 k3 k4 k5)
            | (go_at_call 26; (with_reducible refine (HF.out _).mono ?_); rintro e w2 ⟨rfl, hb⟩; have Q3 := Lib.hid (Q2.out.next hb); clear hb))
          go_ret
          exact ⟨rfl, Q3.out.bel⟩
end Go.Proofs.Ytmbpehhbfbmacaa
