/- Proved here: plain facts on the greatest number r such that r times r times d isn't above n, found digit by digit in base 2. No condition. -/
namespace Go.Proofs.Ytbkoeiofofhinaa

/-- r times r times d. -/
def sq (r d : Nat) : Nat := r * r * d
theorem sq_le {r s d : Nat} (h : r ≤ s) : sq r d ≤ sq s d := Nat.mul_le_mul_right d (Nat.mul_le_mul h h)
/-- r is the greatest number such that r times r times d isn't above n. -/
structure Gr (n d r : Nat) : Prop where
  le : sq r d ≤ n
  lt : n < sq (r + 1) d
theorem Gr.same {n d r s : Nat} (h : Gr n d r) (k : Gr n d s) : r = s := by
  rcases Nat.lt_trichotomy r s with h1 | h1 | h1
  · have := sq_le (d := d) (show r + 1 ≤ s by omega)
    have h2 := h.lt
    have h3 := k.le
    omega
  · exact h1
  · have := sq_le (d := d) (show s + 1 ≤ r by omega)
    have h2 := k.lt
    have h3 := h.le
    omega
theorem Gr.below {n d r b : Nat} (h : Gr n d r) (hb : n < sq b d) : r < b := by
  rcases Nat.lt_or_ge r b with h1 | h1
  · exact h1
  · have := sq_le (d := d) h1
    have h2 := h.le
    omega
/-- What holds when m digits in base 2 are yet to be found: r ends in m zeros. -/
structure Bt (n d t m r : Nat) : Prop where
  le : sq r d ≤ n
  lt : n < sq (r + 2 ^ m) d
  dvd : ∃ k, r = k * 2 ^ m
  top : r + 2 ^ m ≤ 2 ^ t
theorem Bt.start {n d t : Nat} (h : n < sq (2 ^ t) d) : Bt n d t t 0 := ⟨by simp [sq], by simpa using h, ⟨0, by simp⟩, by simp⟩
theorem Bt.hit {n d t m r : Nat} (h : Bt n d t (m + 1) r) (hc : sq (r + 2 ^ m) d ≤ n) : Bt n d t m (r + 2 ^ m) := by
  obtain ⟨k, hk⟩ := h.dvd
  have e : 2 ^ (m + 1) = 2 ^ m + 2 ^ m := by rw [Nat.pow_succ]; omega
  have h2 := h.lt
  have h3 := h.top
  rw [e] at h2 h3 hk
  refine ⟨hc, by rw [Nat.add_assoc]; exact h2, ⟨2 * k + 1, ?_⟩, by omega⟩
  rw [hk]
  generalize 2 ^ m = P
  grind
theorem Bt.miss {n d t m r : Nat} (h : Bt n d t (m + 1) r) (hc : ¬ sq (r + 2 ^ m) d ≤ n) : Bt n d t m r := by
  obtain ⟨k, hk⟩ := h.dvd
  have e : 2 ^ (m + 1) = 2 ^ m + 2 ^ m := by rw [Nat.pow_succ]; omega
  have h3 := h.top
  rw [e] at h3 hk
  have hc2 := Nat.two_pow_pos m
  refine ⟨h.le, Nat.lt_of_not_le hc, ⟨2 * k, ?_⟩, by clear hk; omega⟩
  rw [hk]
  generalize 2 ^ m = P
  grind
theorem Bt.gr {n d t r : Nat} (h : Bt n d t 0 r) : Gr n d r := ⟨h.le, by simpa using h.lt⟩
theorem Bt.small {n d t r : Nat} (h : Bt n d t 0 r) : r < 2 ^ t := by
  have := h.top
  simp at this
  omega
/-- The digit that is tried isn't there yet. -/
theorem Bt.or {n d t m r : Nat} (h : Bt n d t (m + 1) r) : r ||| 2 ^ m = r + 2 ^ m := by
  obtain ⟨k, hk⟩ := h.dvd
  have e : r = 2 ^ (m + 1) * k := by rw [hk, Nat.mul_comm]
  rw [e, ← Nat.two_pow_add_eq_or_of_lt (Nat.pow_lt_pow_right (by decide) (Nat.lt_succ_self m))]
theorem Bt.room {n d m r : Nat} (h : Bt n d 64 (m + 1) r) : r + 2 ^ m < 18446744073709551616 := by
  have h3 := h.top
  have e : 2 ^ (m + 1) = 2 ^ m + 2 ^ m := by rw [Nat.pow_succ]; omega
  have := Nat.two_pow_pos m
  rw [e] at h3
  omega
theorem Bt.room32 {n d m r : Nat} (h : Bt n d 32 (m + 1) r) : r + 2 ^ m < 4294967296 := by
  have h3 := h.top
  have e : 2 ^ (m + 1) = 2 ^ m + 2 ^ m := by rw [Nat.pow_succ]; omega
  have := Nat.two_pow_pos m
  rw [e] at h3
  omega
end Go.Proofs.Ytbkoeiofofhinaa
