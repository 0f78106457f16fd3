/- Proved here: plain facts on the division of a number of 128 bits by one of 64 bits, as math/bits does it. No condition beyond those named. -/
namespace Go.Proofs.YthmpkejdficmgaaDoor

/-- One digit of the division: q isn't less than the true one, and what is left over is known. -/
structure KnuthR (u y1 y0 d q r : Nat) : Prop where
  ge : (u * 4294967296 + d) / (y1 * 4294967296 + y0) ≤ q
  eq : q * y1 + r = u
  le : q ≤ 4294967297
  rl : r < 4294967296
theorem knuth_start {u y1 y0 d : Nat} (h1 : 2147483648 ≤ y1) (h1' : y1 < 4294967296) (h0 : y0 < 4294967296) (hd : d < 4294967296) (hu : u < y1 * 4294967296 + y0) :
    KnuthR u y1 y0 d (u / y1) (u % y1) := by
  have hm := Nat.div_add_mod u y1
  have hr := Nat.mod_lt u (show 0 < y1 by omega)
  refine ⟨?_, Nat.div_add_mod' u y1, ?_, Nat.lt_trans hr h1'⟩
  · rw [Nat.le_div_iff_mul_le (by omega)]
    have h2 := Nat.div_mul_le_self (u * 4294967296 + d) (y1 * 4294967296 + y0)
    generalize (u * 4294967296 + d) / (y1 * 4294967296 + y0) = Q at *
    have h3 : Q * (y1 * 4294967296 + y0) = Q * y1 * 4294967296 + Q * y0 := by grind
    rw [h3] at h2
    have h5 : Q * y1 * 4294967296 ≤ u * 4294967296 + d := Nat.le_trans (Nat.le_add_right _ _) h2
    generalize Q * y1 = T at h5 ⊢
    clear h2 h3
    omega
  · have : u / y1 < 4294967298 := by
      rw [Nat.div_lt_iff_lt_mul (by omega)]
      omega
    omega
/-- The true digit is below 2^32. -/
theorem knuth_small {u y d : Nat} (hd : d < 4294967296) (hu : u < y) : (u * 4294967296 + d) / y < 4294967296 := by
  rw [Nat.div_lt_iff_lt_mul (by omega)]
  omega
/-- The digit that is too great is lowered. -/
theorem knuth_step {u y1 y0 d q r : Nat} (hd : d < 4294967296) (hu : u < y1 * 4294967296 + y0) (h : KnuthR u y1 y0 d q r) (hc : 4294967296 ≤ q ∨ 4294967296 * r + d < q * y0) :
    1 ≤ q ∧ (u * 4294967296 + d) / (y1 * 4294967296 + y0) ≤ q - 1 ∧ (q - 1) * y1 + (r + y1) = u ∧ q - 1 ≤ 4294967296 := by
  obtain ⟨h1, h2, h3, h4⟩ := h
  have hs := knuth_small hd hu
  have hq : 1 ≤ q := by
    rcases hc with hc | hc
    · omega
    · rcases Nat.eq_zero_or_pos q with h0 | h0
      · subst h0; omega
      · exact h0
  obtain ⟨p, rfl⟩ : ∃ p, q = p + 1 := ⟨q - 1, by omega⟩
  refine ⟨hq, ?_, ?_, by omega⟩
  · show _ ≤ p
    rcases hc with hc | hc
    · omega
    · have h5 : (u * 4294967296 + d) / (y1 * 4294967296 + y0) < p + 1 := by
        rw [Nat.div_lt_iff_lt_mul (by omega)]
        have h6 : (p + 1) * (y1 * 4294967296 + y0) = (p + 1) * y1 * 4294967296 + (p + 1) * y0 := by grind
        rw [h6]
        omega
      omega
  · have h6 : (p + 1) * y1 = p * y1 + y1 := by grind
    show p * y1 + (r + y1) = u
    omega
/-- A digit that isn't too great is the true one. -/
theorem knuth_end {u y1 y0 d q r : Nat} (hy : 0 < y1) (h1 : (u * 4294967296 + d) / (y1 * 4294967296 + y0) ≤ q) (h2 : q * y1 + r = u) (hc : q * y0 ≤ 4294967296 * r + d) :
    q = (u * 4294967296 + d) / (y1 * 4294967296 + y0) := by
  refine Nat.le_antisymm ?_ h1
  rw [Nat.le_div_iff_mul_le (by omega)]
  have h6 : q * (y1 * 4294967296 + y0) = q * y1 * 4294967296 + q * y0 := by grind
  rw [h6]
  omega
/-- What is left over is so great that the digit isn't too great. -/
theorem knuth_break {y0 d q r : Nat} (h0 : y0 < 4294967296) (hq : q ≤ 4294967296) (hr : 4294967296 ≤ r) : q * y0 ≤ 4294967296 * r + d := by
  have h1 := Nat.mul_le_mul hq (show y0 ≤ 4294967295 by omega)
  omega
theorem knuth_one {A y d0 : Nat} (hy : 0 < y) :
    (A * 4294967296 + d0) / y = A / y * 4294967296 + (A % y * 4294967296 + d0) / y ∧ (A * 4294967296 + d0) % y = (A % y * 4294967296 + d0) % y := by
  have hA := Nat.div_add_mod A y
  have e2 : A * 4294967296 + d0 = A % y * 4294967296 + d0 + y * (A / y * 4294967296) := by
    generalize A / y = Q at *
    generalize A % y = R at *
    subst hA
    grind
  constructor
  · have h := Nat.add_mul_div_left (A % y * 4294967296 + d0) (A / y * 4294967296) hy
    rw [← e2] at h
    rw [h, Nat.add_comm]
  · have h := Nat.add_mul_mod_self_left (A % y * 4294967296 + d0) y (A / y * 4294967296)
    rw [← e2] at h
    exact h
/-- Two digits make the quotient. -/
theorem knuth_two {u y d1 d0 : Nat} (hy : 0 < y) :
    (u * 18446744073709551616 + (d1 * 4294967296 + d0)) / y = (u * 4294967296 + d1) / y * 4294967296 + ((u * 4294967296 + d1) % y * 4294967296 + d0) / y ∧
    (u * 18446744073709551616 + (d1 * 4294967296 + d0)) % y = ((u * 4294967296 + d1) % y * 4294967296 + d0) % y := by
  have e : u * 18446744073709551616 + (d1 * 4294967296 + d0) = (u * 4294967296 + d1) * 4294967296 + d0 := by omega
  rw [e]
  exact knuth_one hy
/-- What is left over, reckoned in 64 bits that go round. -/
theorem knuth_rest {u y d q : Nat} (hy : 0 < y) (hy' : y < 18446744073709551616) (hq : q = (u * 4294967296 + d) / y) :
    (((u : Int) * 4294967296 + d - q * y) % 18446744073709551616) = (((u * 4294967296 + d) % y : Nat) : Int) := by
  have h := Nat.div_add_mod (u * 4294967296 + d) y
  have hlt := Nat.mod_lt (u * 4294967296 + d) hy
  rw [← hq] at h
  have e : (u : Int) * 4294967296 + d - q * y = (((u * 4294967296 + d) % y : Nat) : Int) := by
    have h' : ((y * q + (u * 4294967296 + d) % y : Nat) : Int) = ((u * 4294967296 + d : Nat) : Int) := by rw [h]
    simp only [Int.natCast_add, Int.natCast_mul] at h'
    have hc : (q : Int) * y = y * q := Int.mul_comm _ _
    rw [hc]
    have h4 : ((4294967296 : Nat) : Int) = 4294967296 := rfl
    omega
  rw [e]
  omega
end Go.Proofs.YthmpkejdficmgaaDoor
