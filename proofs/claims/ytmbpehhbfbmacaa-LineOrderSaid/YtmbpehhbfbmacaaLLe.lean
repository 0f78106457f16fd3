/- Proved here: the level of a point and a line without an end (the document's Ray). Condition: points that may be; a reach and steps that may be. -/
import Derived.Test.YtmbpehhbfbmacaaLLd
namespace Go.Proofs.Ytmbpehhbfbmacaa
open Go.RowKit

/-- The level of a point and a line without an end. -/
def rayN (p a b : P2) (r n : Nat) : Nat := if a = b ∨ dt a b p ≤ 0 then nearN p a r n else besN p a b r n
theorem ray_near {p a b : P2} {r n : Nat} (h : a = b ∨ dt a b p ≤ 0) : rayN p a b r n = nearN p a r n := if_pos h
theorem ray_bes {p a b : P2} {r n : Nat} (h : a ≠ b) (h2 : ¬ dt a b p ≤ 0) : rayN p a b r n = besN p a b r n := if_neg (fun h3 => h3.elim h h2)
set_option maxHeartbeats 8000000 in
set_option maxRecDepth 100000 in
theorem ray_any (px py ax ay bx by_ : Int) (r n : Nat) (w : World) (hp : fiP (px, py)) (ha : fiP (ax, ay)) (hb : fiP (bx, by_)) (hr : r ≤ 1048576) (hn : n ≤ 255) : Calls Try.prog 13 #[.agg #[.int .i64 px, .int .i64 py], .agg #[.int .i64 ax, .int .i64 ay], .agg #[.int .i64 bx, .int .i64 by_], .int .i64 (r : Int), .int .i64 (n : Int)] w fun e w' => e = .returned (.int .i64 (rayN (px, py) (ax, ay) (bx, by_) r n : Int)) ∧ Below w.heap.size w w' := by
  have HD := Lib.hid (fun W => dot_any ax ay bx by_ px py W ha hb hp)
  have HE := Lib.hid (fun W => near_any px py ax ay r n W hp ha hr hn)
  have HF := Lib.hid (fun W => beside_any px py ax ay bx by_ r n W hp ha hb hr hn)
  have Q0 := Lib.hid (TrS.new w px py ax ay bx by_)
  obtain ⟨k0, k1, k2, k3, k4, k5⟩ := Q0.out.cells
  dsimp only at k0 k1 k2 k3 k4 k5
  clear hp ha hb
  by_cases hab : ((ax, ay) : P2) = (bx, by_)
  · rw [← ray_near (b := (bx, by_)) (.inl hab)] at HE
    obtain ⟨N, hN⟩ : ∃ N, N = rayN (px, py) (ax, ay) (bx, by_) r n := ⟨_, rfl⟩
    rw [← hN] at HE ⊢
    obtain ⟨rfl, rfl⟩ : ax = bx ∧ ay = by_ := by simpa using hab
    clear hab hN HD HF
    go_enter Try.func13, Try.ntmps13
    go_wp2_with (go_at_call 11; (with_reducible refine (HE.out _).mono ?_); rintro e w1 ⟨rfl, hb⟩; have Q1 := Lib.hid (Q0.out.next hb); clear hb)
    go_ret
    exact ⟨rfl, Q1.out.bel⟩
  · have hs : ¬ ax = bx ∨ (ax = bx ∧ ¬ ay = by_) := by
      by_cases h1 : ax = bx
      · exact .inr ⟨h1, fun h2 => hab (by rw [h1, h2])⟩
      · exact .inl h1
    by_cases hle : dt (ax, ay) (bx, by_) (px, py) ≤ 0
    · rw [← ray_near (b := (bx, by_)) (.inr hle)] at HE
      obtain ⟨N, hN⟩ : ∃ N, N = rayN (px, py) (ax, ay) (bx, by_) r n := ⟨_, rfl⟩
      rw [← hN] at HE ⊢
      obtain ⟨d, hd⟩ : ∃ d, d = dt (ax, ay) (bx, by_) (px, py) := ⟨_, rfl⟩
      rw [← hd] at HD hle
      have g1 : decide (d ≤ 0) = true := decide_eq_true hle
      clear hle hN hd HF hab
      rcases hs with g0 | ⟨rfl, g0⟩
      all_goals
        go_enter Try.func13, Try.ntmps13
        go_wp2_with (first
          | (go_at_call 25; (with_reducible refine (HD.out _).mono ?_); rintro e w1 ⟨rfl, hb⟩; have Q1 := Lib.hid (Q0.out.next hb); clear hb; (try clear k0 k1 k2 k3 k4 k5); obtain ⟨k0, k1, k2, k3, k4, k5⟩ := Q1.out.cells; dsimp only at k0 k1 k2 k3 k4 k5)
          | (go_at_call 11; (with_reducible refine (HE.out _).mono ?_); rintro e w2 ⟨rfl, hb⟩; have Q2 := Lib.hid (Q1.out.next hb); clear hb))
        go_ret
        exact ⟨rfl, Q2.out.bel⟩
    · rw [← ray_bes hab hle] at HF
      obtain ⟨N, hN⟩ : ∃ N, N = rayN (px, py) (ax, ay) (bx, by_) r n := ⟨_, rfl⟩
      rw [← hN] at HF ⊢
      obtain ⟨d, hd⟩ : ∃ d, d = dt (ax, ay) (bx, by_) (px, py) := ⟨_, rfl⟩
      rw [← hd] at HD hle
      have g1 : decide (d ≤ 0) = false := decide_eq_false hle
      clear hle hN hd HE hab
      rcases hs with g0 | ⟨rfl, g0⟩
      all_goals
        go_enter Try.func13, Try.ntmps13
        go_wp2_with (first
          | (go_at_call 25; (with_reducible refine (HD.out _).mono ?_); rintro e w1 ⟨rfl, hb⟩; have Q1 := Lib.hid (Q0.out.next hb); clear hb; (try clear k0 k1 k2 k3 k4 k5); obtain ⟨k0, k1, k2, k3, k4, k5⟩ := Q1.out.cells; dsimp only at k0 k1 k2 k3 k4 k5)
          | (go_at_call 26; (with_reducible refine (HF.out _).mono ?_); rintro e w2 ⟨rfl, hb⟩; have Q2 := Lib.hid (Q1.out.next hb); clear hb))
        go_ret
        exact ⟨rfl, Q2.out.bel⟩
end Go.Proofs.Ytmbpehhbfbmacaa
