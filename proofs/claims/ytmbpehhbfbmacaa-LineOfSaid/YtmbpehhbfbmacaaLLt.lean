/- Proved here: what the law LineLevels answers, over memory. No condition. -/
import Derived.Test.YtmbpehhbfbmacaaLLs
namespace Go.Proofs.Ytmbpehhbfbmacaa
open Go.RowKit

theorem askL2 (a b : P2) (r n : Int) : askL [a, b] r n = if riP r n ∧ ok2 a b then 0 else 1 := by
  unfold askL
  rw [ask2]
  by_cases h : riP r n
  · rw [if_pos h]
    by_cases h2 : ok2 a b
    · rw [if_pos h2, if_pos ⟨h, h2⟩]
    · rw [if_neg h2, if_neg (fun h3 => h2 h3.2)]
  · rw [if_neg h, if_neg (fun h3 => h h3.1)]
theorem askL3 (a b c : P2) (r n : Int) : askL [a, b, c] r n = if riP r n ∧ ok3 a b c then 0 else 1 := by
  unfold askL
  rw [ask3]
  by_cases h : riP r n
  · rw [if_pos h]
    by_cases h2 : ok3 a b c
    · rw [if_pos h2, if_pos ⟨h, h2⟩]
    · rw [if_neg h2, if_neg (fun h3 => h2 h3.2)]
  · rw [if_neg h, if_neg (fun h3 => h h3.1)]
theorem law_levels (px py ax ay bx by_ r n : Int) (w : World) : Calls Try.prog 3 #[.agg #[.int .i64 px, .int .i64 py, .int .i64 ax, .int .i64 ay, .int .i64 bx, .int .i64 by_], .int .i64 r, .int .i64 n] w fun e w' => e = .returned (.bool true) ∧ Below w.heap.size w w' := by
  by_cases hr : riP r n
  · obtain ⟨R, rfl⟩ : ∃ R : Nat, r = (R : Int) := ⟨r.toNat, by have := hr.1.1; omega⟩
    obtain ⟨N, rfl⟩ : ∃ N : Nat, n = (N : Int) := ⟨n.toNat, by have := hr.2.1; omega⟩
    have hR : R ≤ 1048576 := by have := hr.1.2; omega
    have hN : N ≤ 255 := by have := hr.2.2; omega
    by_cases h2 : ok2 (px, py) (ax, ay)
    · by_cases h3 : ok3 (px, py) (ax, ay) (bx, by_)
      · exact levels_core px py ax ay bx by_ (R : Int) (N : Int) (nearN (px, py) (ax, ay) R N : Int) (segN (px, py) (ax, ay) (bx, by_) R N : Int) (rayN (px, py) (ax, ay) (bx, by_) R N : Int) 0 0 w
            (fun W => by
              have h := ppoint_any px py ax ay (R : Int) (N : Int) W
              rw [show ptA (px, py) (ax, ay) (R : Int) (N : Int) = ((nearN (px, py) (ax, ay) R N : Int), 0) from if_pos ⟨hr, h2⟩] at h
              exact h)
            (fun W => by
              have h := pseg_any px py ax ay bx by_ (R : Int) (N : Int) W
              rw [show sgA (px, py) (ax, ay) (bx, by_) (R : Int) (N : Int) = ((segN (px, py) (ax, ay) (bx, by_) R N : Int), 0) from if_pos ⟨hr, h3⟩] at h
              exact h)
            (fun W => by
              have h := pray_any px py ax ay bx by_ (R : Int) (N : Int) W
              rw [show ryA (px, py) (ax, ay) (bx, by_) (R : Int) (N : Int) = ((rayN (px, py) (ax, ay) (bx, by_) R N : Int), 0) from if_pos ⟨hr, h3⟩] at h
              exact h)
            (fun W g hg => by
              have h := asked19_any g 2 2 [(px, py), (ax, ay)] (R : Int) (N : Int) W hg rfl (by omega)
              rw [show askL [(px, py), (ax, ay)] (R : Int) (N : Int) = 0 from by rw [askL2, if_pos ⟨hr, h2⟩]] at h
              exact h)
            (fun W g hg => by
              have h := asked19_any g 3 3 [(px, py), (ax, ay), (bx, by_)] (R : Int) (N : Int) W hg rfl (by omega)
              rw [show askL [(px, py), (ax, ay), (bx, by_)] (R : Int) (N : Int) = 0 from by rw [askL3, if_pos ⟨hr, h3⟩]] at h
              exact h)
            (.inl ⟨rfl, rfl⟩)
            (fun _ W => near_any px py ax ay R N W h2.1 h2.2 hR hN) (fun _ W => segment_any px py ax ay bx by_ R N W h3.1 h3.2.1 h3.2.2 hR hN) (fun _ W => ray_any px py ax ay bx by_ R N W h3.1 h3.2.1 h3.2.2 hR hN)
      · exact levels_core px py ax ay bx by_ (R : Int) (N : Int) (nearN (px, py) (ax, ay) R N : Int) 0 0 0 1 w
            (fun W => by
              have h := ppoint_any px py ax ay (R : Int) (N : Int) W
              rw [show ptA (px, py) (ax, ay) (R : Int) (N : Int) = ((nearN (px, py) (ax, ay) R N : Int), 0) from if_pos ⟨hr, h2⟩] at h
              exact h)
            (fun W => by
              have h := pseg_any px py ax ay bx by_ (R : Int) (N : Int) W
              rw [show sgA (px, py) (ax, ay) (bx, by_) (R : Int) (N : Int) = (0, 1) from if_neg (fun h => h3 h.2)] at h
              exact h)
            (fun W => by
              have h := pray_any px py ax ay bx by_ (R : Int) (N : Int) W
              rw [show ryA (px, py) (ax, ay) (bx, by_) (R : Int) (N : Int) = (0, 1) from if_neg (fun h => h3 h.2)] at h
              exact h)
            (fun W g hg => by
              have h := asked19_any g 2 2 [(px, py), (ax, ay)] (R : Int) (N : Int) W hg rfl (by omega)
              rw [show askL [(px, py), (ax, ay)] (R : Int) (N : Int) = 0 from by rw [askL2, if_pos ⟨hr, h2⟩]] at h
              exact h)
            (fun W g hg => by
              have h := asked19_any g 3 3 [(px, py), (ax, ay), (bx, by_)] (R : Int) (N : Int) W hg rfl (by omega)
              rw [show askL [(px, py), (ax, ay), (bx, by_)] (R : Int) (N : Int) = 1 from by rw [askL3, if_neg (fun h => h3 h.2)]] at h
              exact h)
            (.inr (.inl ⟨rfl, rfl, rfl, rfl⟩))
            (fun _ W => near_any px py ax ay R N W h2.1 h2.2 hR hN) (fun h => absurd h (by decide)) (fun h => absurd h (by decide))
    · have h3 : ¬ ok3 (px, py) (ax, ay) (bx, by_) := fun h => h2 ⟨h.1, h.2.1⟩
      exact levels_core px py ax ay bx by_ (R : Int) (N : Int) 0 0 0 1 1 w
            (fun W => by
              have h := ppoint_any px py ax ay (R : Int) (N : Int) W
              rw [show ptA (px, py) (ax, ay) (R : Int) (N : Int) = (0, 1) from if_neg (fun h => h2 h.2)] at h
              exact h)
            (fun W => by
              have h := pseg_any px py ax ay bx by_ (R : Int) (N : Int) W
              rw [show sgA (px, py) (ax, ay) (bx, by_) (R : Int) (N : Int) = (0, 1) from if_neg (fun h => h3 h.2)] at h
              exact h)
            (fun W => by
              have h := pray_any px py ax ay bx by_ (R : Int) (N : Int) W
              rw [show ryA (px, py) (ax, ay) (bx, by_) (R : Int) (N : Int) = (0, 1) from if_neg (fun h => h3 h.2)] at h
              exact h)
            (fun W g hg => by
              have h := asked19_any g 2 2 [(px, py), (ax, ay)] (R : Int) (N : Int) W hg rfl (by omega)
              rw [show askL [(px, py), (ax, ay)] (R : Int) (N : Int) = 1 from by rw [askL2, if_neg (fun h => h2 h.2)]] at h
              exact h)
            (fun W g hg => by
              have h := asked19_any g 3 3 [(px, py), (ax, ay), (bx, by_)] (R : Int) (N : Int) W hg rfl (by omega)
              rw [show askL [(px, py), (ax, ay), (bx, by_)] (R : Int) (N : Int) = 1 from by rw [askL3, if_neg (fun h => h3 h.2)]] at h
              exact h)
            (.inr (.inr ⟨rfl, rfl, rfl, rfl, rfl⟩))
            (fun h => absurd h (by decide)) (fun h => absurd h (by decide)) (fun h => absurd h (by decide))
  · exact levels_core px py ax ay bx by_ r n 0 0 0 1 1 w
            (fun W => by
              have h := ppoint_any px py ax ay r n W
              rw [show ptA (px, py) (ax, ay) r n = (0, 1) from if_neg (fun h => hr h.1)] at h
              exact h)
            (fun W => by
              have h := pseg_any px py ax ay bx by_ r n W
              rw [show sgA (px, py) (ax, ay) (bx, by_) r n = (0, 1) from if_neg (fun h => hr h.1)] at h
              exact h)
            (fun W => by
              have h := pray_any px py ax ay bx by_ r n W
              rw [show ryA (px, py) (ax, ay) (bx, by_) r n = (0, 1) from if_neg (fun h => hr h.1)] at h
              exact h)
            (fun W g hg => by
              have h := asked19_any g 2 2 [(px, py), (ax, ay)] r n W hg rfl (by omega)
              rw [show askL [(px, py), (ax, ay)] r n = 1 from by rw [askL2, if_neg (fun h => hr h.1)]] at h
              exact h)
            (fun W g hg => by
              have h := asked19_any g 3 3 [(px, py), (ax, ay), (bx, by_)] r n W hg rfl (by omega)
              rw [show askL [(px, py), (ax, ay), (bx, by_)] r n = 1 from by rw [askL3, if_neg (fun h => hr h.1)]] at h
              exact h)
            (.inr (.inr ⟨rfl, rfl, rfl, rfl, rfl⟩))
            (fun h => absurd h (by decide)) (fun h => absurd h (by decide)) (fun h => absurd h (by decide))
end Go.Proofs.Ytmbpehhbfbmacaa
