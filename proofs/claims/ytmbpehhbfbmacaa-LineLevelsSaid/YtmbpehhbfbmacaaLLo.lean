/- Proved here (plain): how the levels of a point and a point, a line, and a line without an end are ordered. No condition. -/
import Derived.Test.YtmbpehhbfbmacaaLLf
namespace Go.Proofs.Ytmbpehhbfbmacaa
theorem sq_nat (x : Int) : x * x = ((x.natAbs * x.natAbs : Nat) : Int) := (Int.natAbs_mul_self).symm
theorem dt_sq (a p : P2) : dt a p p = ((((p.1 - a.1).natAbs * (p.1 - a.1).natAbs + (p.2 - a.2).natAbs * (p.2 - a.2).natAbs : Nat)) : Int) := by
  have e : dt a p p = (p.1 - a.1) * (p.1 - a.1) + (p.2 - a.2) * (p.2 - a.2) := rfl
  rw [e, sq_nat, sq_nat (p.2 - a.2)]; omega
theorem dsq_int (a p : P2) : (dsq a p : Int) = dt a p p := by
  have h := dt_sq a p
  unfold dsq; omega
theorem dt_flip (a b : P2) : dt a b b = dt b a a := by unfold dt; grind
theorem dsq_flip (a b : P2) : dsq a b = dsq b a := by unfold dsq; rw [dt_flip]
theorem dsq_pos {a b : P2} (h : a ≠ b) : 0 < dsq a b := by
  have e := dsq_int a b
  rw [dt_sq] at e
  rcases Nat.eq_zero_or_pos (dsq a b) with h0 | h0
  · exfalso
    apply h
    have h1 : (b.1 - a.1).natAbs * (b.1 - a.1).natAbs = 0 := by omega
    have h2 : (b.2 - a.2).natAbs * (b.2 - a.2).natAbs = 0 := by omega
    have h3 : (b.1 - a.1).natAbs = 0 := (Nat.mul_eq_zero.1 h1).elim id id
    have h4 : (b.2 - a.2).natAbs = 0 := (Nat.mul_eq_zero.1 h2).elim id id
    exact Prod.ext (by omega) (by omega)
  · exact h0
theorem cab_int (a b p : P2) : ((cab a b p * cab a b p : Nat) : Int) = crs a b p * crs a b p := (sq_nat _).symm
theorem cab_rev (a b p : P2) : cab b a p = cab a b p := by unfold cab; rw [crs_rev, Int.natAbs_neg]
/-- The square of the turn is no more than a product of two squares. -/
theorem cab_le (a b p : P2) : cab a b p * cab a b p * 1 ≤ dsq p a * dsq a b := by
  have h := lagrange a b p
  have e1 := cab_int a b p
  have e2 := sq_nat (dt a b p)
  have e3 := dsq_int a b
  have e4 := dsq_int a p
  have e5 : ((dsq p a * dsq a b : Nat) : Int) = dt a b b * dt a p p := by
    rw [dsq_flip p a, ← e3, ← e4, Int.mul_comm]; simp
  omega
theorem bes_near (p a b : P2) (r n : Nat) (h : a ≠ b) : besN p a b r n ≤ nearN p a r n := lev_le (dsq_pos h) (cab_le a b p)
theorem bes_rev (p a b : P2) (r n : Nat) : besN p b a r n = besN p a b r n := by unfold besN; rw [cab_rev, dsq_flip]
theorem near_le {p a b : P2} (r n : Nat) (h : dt a p p ≤ dt b p p) : nearN p a r n ≤ nearN p b r n := by
  refine lev_le (by decide) ?_
  have e1 := dsq_int a p
  have e2 := dsq_int b p
  rw [dsq_flip p a, dsq_flip p b]
  omega
theorem near_two {p a b : P2} (r n : Nat) (h : dt b a p ≤ 0) (h2 : 0 < dt a b p) : nearN p b r n ≤ nearN p a r n := by
  have e1 := dt_behind a b p
  have e2 := dt_sum a b p
  exact near_le r n (by omega)
theorem seg_a (p a b : P2) (r n : Nat) : segN p a b r n ≤ nearN p a r n := by
  unfold segN
  split
  · exact Nat.le_refl _
  · next h1 =>
    split
    · next h2 => exact near_two r n h2 (by have : ¬ dt a b p ≤ 0 := fun h => h1 (.inr h); omega)
    · exact bes_near p a b r n (fun h => h1 (.inl h))
theorem seg_rev (p a b : P2) (r n : Nat) : segN p b a r n = segN p a b r n := by
  by_cases h0 : a = b
  · rw [h0]
  · have hD := dsq_pos h0
    have e1 := dsq_int a b
    have e2 := dt_sum a b p
    by_cases h1 : dt a b p ≤ 0
    · rw [seg_one (.inr h1), seg_two (fun h => h0 h.symm) (by omega) h1]
    · by_cases h2 : dt b a p ≤ 0
      · rw [seg_one (a := b) (.inr h2), seg_two h0 h1 h2]
      · rw [seg_bes h0 h1 h2, seg_bes (fun h => h0 h.symm) h2 h1, bes_rev]
theorem seg_b (p a b : P2) (r n : Nat) : segN p a b r n ≤ nearN p b r n := by
  rw [← seg_rev]; exact seg_a p b a r n
theorem ray_seg (p a b : P2) (r n : Nat) : rayN p a b r n ≤ segN p a b r n := by
  by_cases h0 : a = b ∨ dt a b p ≤ 0
  · rw [ray_near h0, seg_one h0]; exact Nat.le_refl _
  · have h1 : a ≠ b := fun h => h0 (.inl h)
    have h2 : ¬ dt a b p ≤ 0 := fun h => h0 (.inr h)
    rw [ray_bes h1 h2]
    by_cases h3 : dt b a p ≤ 0
    · rw [seg_two h1 h2 h3, ← bes_rev]; exact bes_near p b a r n (fun h => h1 h.symm)
    · rw [seg_bes h1 h2 h3]; exact Nat.le_refl _
theorem seg_twice (p a b : P2) (r n : Nat) : segN p a b r (2 * n) / 2 = segN p a b r n := by
  unfold segN nearN besN
  split
  · exact lev_twice _ _ _ _
  · split <;> exact lev_twice _ _ _ _
theorem lev_top (s b r n : Nat) : lev s b r n ≤ n := (lev_hol s b r n).2.1
theorem near_top (p a : P2) (r n : Nat) : nearN p a r n ≤ n := lev_top _ _ _ _
theorem bes_top (p a b : P2) (r n : Nat) : besN p a b r n ≤ n := lev_top _ _ _ _
theorem seg_top (p a b : P2) (r n : Nat) : segN p a b r n ≤ n := by
  unfold segN; split
  · exact near_top _ _ _ _
  · split
    · exact near_top _ _ _ _
    · exact bes_top _ _ _ _ _
end Go.Proofs.Ytmbpehhbfbmacaa
