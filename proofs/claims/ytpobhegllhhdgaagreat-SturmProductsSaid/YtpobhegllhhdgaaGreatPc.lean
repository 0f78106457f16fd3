/- Proved here: a product with d x - n has a root at n by d, and without that it is the other factor. Conditions: d above 0, no common divisor, a factor that isn't 0. -/
import Derived.Test.YtpobhegllhhdgaaGreatPa
namespace Go.Proofs.YtpobhegllhhdgaaGreat

theorem lin_beyond (a b : Int) (j : Nat) : co [a, b] (j + 2) = 0 := by rw [co_cons, co_cons, co_nil]
theorem lin_conv (P : List Int) (a b : Int) (k : Nat) : ∀ m, m + 1 ≤ k → conv P [a, b] k m = 0
  | 0, _ => rfl
  | m + 1, h => by
    simp only [conv]
    rw [lin_conv P a b k m (by omega), if_pos (by omega), show k - m = (k - m - 2) + 2 by omega, lin_beyond]
    simp
theorem lin_co0 (P : List Int) (a b : Int) : co (mulP P [a, b]) 0 = co P 0 * a := by
  rw [co_mulP]
  simp only [conv]
  rw [if_pos (Nat.le_refl _), co_cons0]
  omega
theorem lin_co (P : List Int) (a b : Int) (k : Nat) : co (mulP P [a, b]) (k + 1) = co P k * b + co P (k + 1) * a := by
  rw [co_mulP]
  simp only [conv]
  rw [lin_conv P a b (k + 1) k (by omega), if_pos (by omega), if_pos (by omega), Nat.sub_self, co_cons0, show k + 1 - k = 0 + 1 by omega, co_cons, co_cons0]
  omega
theorem lin_len {P : List Int} (hP : Cf P) (h0 : 0 < P.length) (a b : Int) (hb : b ≠ 0) : (mulP P [a, b]).length = P.length + 1 := by
  have h1 : pl (mulP P [a, b]) = (mulP P [a, b]).length := pl_cf (cf_trz _)
  rw [← h1]
  symm
  refine pl_uniq (fun j hj => ?_) (.inr ?_)
  · obtain ⟨i, rfl⟩ : ∃ i, j = i + 1 := ⟨j - 1, by omega⟩
    rw [lin_co, co_beyond (L := P) (by omega), co_beyond (L := P) (by omega)]
    simp
  · obtain ⟨i, hi⟩ : ∃ i, P.length = i + 1 := ⟨P.length - 1, by omega⟩
    rw [hi, Nat.add_sub_cancel, lin_co, co_beyond (L := P) (i := i + 1) (by omega)]
    have := cf_top hP h0
    rw [hi, Nat.add_sub_cancel] at this
    simp
    exact ⟨this, hb⟩
theorem lin_syn {P : List Int} (hP : Cf P) (h0 : 0 < P.length) (n d : Int) (hd : 0 < d) : ∀ (j k : Nat), k + j = P.length →
    exq n d ((mulP P [-n, d]).drop (k + 1)) ∧ syn n d ((mulP P [-n, d]).drop (k + 1)) = P.drop k
  | 0, k, h => by
    have hl := lin_len hP h0 (-n) d (by omega)
    rw [List.drop_eq_nil_of_le (by omega), List.drop_eq_nil_of_le (by omega)]
    exact ⟨trivial, rfl⟩
  | j + 1, k, h => by
    have hl := lin_len hP h0 (-n) d (by omega)
    obtain ⟨h1, h2⟩ := lin_syn hP h0 n d hd j (k + 1) (by omega)
    have e : co (mulP P [-n, d]) (k + 1) + hd0 (P.drop (k + 1)) * n = d * co P k := by
      rw [hd0_drop, lin_co, Int.mul_neg, Int.mul_comm d]
      omega
    rw [drop_cons (by omega), drop_cons (show k < P.length by omega)]
    simp only [exq, syn]
    rw [h2, e]
    exact ⟨⟨h1, Int.dvd_mul_right _ _⟩, by rw [Int.mul_tdiv_cancel_left _ (by omega)]⟩
theorem lin_root {P : List Int} (hP : Cf P) (h0 : 0 < P.length) {n d : Int} (hd : 0 < d) (hg : n.natAbs.gcd d.natAbs = 1) :
    hor n d (mulP P [-n, d]) = 0 ∧ woP n d (mulP P [-n, d]) = ((woP n d P).1, (woP n d P).2 + 1) := by
  have hl := lin_len hP h0 (-n) d (by omega)
  obtain ⟨h1, h2⟩ := lin_syn hP h0 n d hd P.length 0 (by omega)
  have hr : hor n d (mulP P [-n, d]) = 0 := by
    have e := drop_cons (T := mulP P [-n, d]) (k := 0) (by omega)
    rw [List.drop_zero] at e
    rw [e]
    refine (root_iff hd hg _ _).2 ⟨h1, ?_⟩
    rw [h2, hd0_drop, lin_co0, Int.mul_neg]
    omega
  refine ⟨hr, ?_⟩
  rw [woP_step hr (by omega)]
  rw [Nat.zero_add] at h2
  rw [h2, List.drop_zero]
theorem lin_cf {n d : Int} (hd : 0 < d) : trz [-n, d] = [-n, d] := trz_cf (.inr (by
  rw [show [-n, d].length - 1 = 0 + 1 from rfl, co_cons, co_cons0]; omega))
end Go.Proofs.YtpobhegllhhdgaaGreat
