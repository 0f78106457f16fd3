/- Proved here: plain facts on levels: what they are, and how they are ordered. No condition. -/
import Derived.Test.YtmbpehhbfbmacaaLPAa
namespace Go.Proofs.Ytmbpehhbfbmacaa
/-- Is the square of k r, times by, at most the square of n, times square? -/
def Hol (s b r n k : Nat) : Prop := (k * r) * (k * r) * b ≤ n * n * s
instance (s b r n k : Nat) : Decidable (Hol s b r n k) := inferInstanceAs (Decidable (_ ≤ _))
/-- The greatest one, up to m, from k on. -/
def levG (s b r n : Nat) : Nat → Nat → Nat
  | 0, k => k
  | f + 1, k => if Hol s b r n (k + 1) then levG s b r n f (k + 1) else k
def lev (s b r n : Nat) : Nat := levG s b r n n 0
theorem hol_mono {s b r n k j : Nat} (h : Hol s b r n k) (hj : j ≤ k) : Hol s b r n j := by
  unfold Hol at h ⊢
  have h1 : j * r ≤ k * r := Nat.mul_le_mul_right r hj
  exact Nat.le_trans (Nat.mul_le_mul_right b (Nat.mul_le_mul h1 h1)) h
theorem hol_zero (s b r n : Nat) : Hol s b r n 0 := by unfold Hol; simp
theorem levG_spec (s b r n : Nat) : ∀ (f k : Nat), Hol s b r n k → Hol s b r n (levG s b r n f k) ∧ k ≤ levG s b r n f k ∧ levG s b r n f k ≤ k + f ∧ (levG s b r n f k < k + f → ¬ Hol s b r n (levG s b r n f k + 1))
  | 0, k, h => ⟨h, Nat.le_refl _, Nat.le_refl _, fun h2 => absurd h2 (Nat.lt_irrefl _)⟩
  | f + 1, k, h => by
    unfold levG
    by_cases h1 : Hol s b r n (k + 1)
    · rw [if_pos h1]
      obtain ⟨g1, g2, g3, g4⟩ := levG_spec s b r n f (k + 1) h1
      exact ⟨g1, by omega, by omega, fun h2 => g4 (by omega)⟩
    · rw [if_neg h1]
      exact ⟨h, Nat.le_refl _, by omega, fun _ => h1⟩
theorem lev_hol (s b r n : Nat) : Hol s b r n (lev s b r n) ∧ lev s b r n ≤ n ∧ (lev s b r n < n → ¬ Hol s b r n (lev s b r n + 1)) := by
  obtain ⟨h1, _, h3, h4⟩ := levG_spec s b r n n 0 (hol_zero s b r n)
  exact ⟨h1, by unfold lev; omega, fun h => h4 (by unfold lev at h; omega)⟩
/-- A number is at most the level just if it is at most n and holds. -/
theorem le_lev {s b r n k : Nat} : k ≤ lev s b r n ↔ k ≤ n ∧ Hol s b r n k := by
  obtain ⟨h1, h2, h3⟩ := lev_hol s b r n
  constructor
  · intro h; exact ⟨Nat.le_trans h h2, hol_mono h1 h⟩
  · rintro ⟨h4, h5⟩
    rcases Nat.lt_or_ge (lev s b r n) k with h | h
    · exact absurd (hol_mono h5 h) (h3 (by omega))
    · exact h
/-- What is no farther has no greater level: s by b at most s' by b'. -/
theorem lev_le {s b r n s' b' : Nat} (hb : 0 < b) (h : s * b' ≤ s' * b) : lev s b r n ≤ lev s' b' r n := by
  obtain ⟨h1, h2, _⟩ := lev_hol s b r n
  refine le_lev.2 ⟨h2, ?_⟩
  unfold Hol at h1 ⊢
  generalize lev s b r n * r * (lev s b r n * r) = q at h1 ⊢
  have e1 : q * b' * b ≤ n * n * s' * b := by
    calc q * b' * b = (q * b) * b' := by rw [Nat.mul_assoc, Nat.mul_comm b' b, ← Nat.mul_assoc]
      _ ≤ (n * n * s) * b' := Nat.mul_le_mul_right b' h1
      _ = n * n * (s * b') := Nat.mul_assoc _ _ _
      _ ≤ n * n * (s' * b) := Nat.mul_le_mul_left _ h
      _ = n * n * s' * b := (Nat.mul_assoc _ _ _).symm
  exact Nat.le_of_mul_le_mul_right e1 hb
theorem lev_twice (s b r n : Nat) : lev s b r (2 * n) / 2 = lev s b r n := by
  have key : ∀ k, Hol s b r (2 * n) (2 * k) ↔ Hol s b r n k := fun k => by
    unfold Hol
    have e1 : 2 * k * r * (2 * k * r) * b = 4 * (k * r * (k * r) * b) := by grind
    have e2 : 2 * n * (2 * n) * s = 4 * (n * n * s) := by grind
    rw [e1, e2]; omega
  apply Nat.le_antisymm
  · refine le_lev.2 ⟨by have := (lev_hol s b r (2 * n)).2.1; omega, (key _).1 (hol_mono (lev_hol s b r (2 * n)).1 (by omega))⟩
  · have h : 2 * lev s b r n ≤ lev s b r (2 * n) := le_lev.2 ⟨by have := (lev_hol s b r n).2.1; omega, (key _).2 (lev_hol s b r n).1⟩
    omega
theorem lagrange (a b p : P2) : crs a b p * crs a b p + dt a b p * dt a b p = dt a b b * dt a p p := by unfold crs dt; grind
theorem dt_behind (a b p : P2) : dt b p p = dt a p p - 2 * dt a b p + dt a b b := by unfold dt; grind
theorem dt_sum (a b p : P2) : dt a b p + dt b a p = dt a b b := by unfold dt; grind
end Go.Proofs.Ytmbpehhbfbmacaa
