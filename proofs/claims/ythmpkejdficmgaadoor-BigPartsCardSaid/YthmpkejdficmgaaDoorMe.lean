/- Proved here: plain facts on numerals in base ten, and how they part into pieces. No condition. -/
import Derived.Lib.ItoaNum
import Derived.Lib.Repeat
namespace Go.Proofs.YthmpkejdficmgaaDoor
open Go.Lib

/-- The low m decimal digits. -/
def padL : Nat → Nat → List UInt8
  | 0, _ => []
  | m + 1, x => padL m (x / 10) ++ [UInt8.ofNat (48 + x % 10)]
theorem dec_big {x : Nat} (h : 10 ≤ x) : decDigits x = decDigits (x / 10) ++ [UInt8.ofNat (48 + x % 10)] := by rw [decDigits, dif_neg (by omega)]
theorem nd_big {x : Nat} (h : 10 ≤ x) : nDigits x = nDigits (x / 10) + 1 := by rw [nDigits, dif_neg (by omega)]
theorem nd_one {x : Nat} (h : x < 10) : nDigits x = 1 := by rw [nDigits, dif_pos h]
theorem dec_part (m : Nat) : ∀ x, 10 ^ m ≤ x → decDigits x = decDigits (x / 10 ^ m) ++ padL m x := by
  induction m with
  | zero => intro x _; simp [padL]
  | succ m ih =>
    intro x hx
    have hp : 10 ^ (m + 1) = 10 ^ m * 10 := Nat.pow_succ ..
    have h1 : 1 ≤ 10 ^ m := Nat.pos_of_ne_zero (by simp)
    have h2 : 10 ^ m ≤ x / 10 := by rw [Nat.le_div_iff_mul_le (by decide)]; omega
    rw [dec_big (by omega), ih (x / 10) h2, padL, List.append_assoc, Nat.div_div_eq_div_mul, hp, Nat.mul_comm 10]
theorem padL_mod (m : Nat) : ∀ x, padL m (x % 10 ^ m) = padL m x := by
  induction m with
  | zero => intro x; rfl
  | succ m ih =>
    intro x
    have hp : 10 ^ (m + 1) = 10 * 10 ^ m := by rw [Nat.pow_succ, Nat.mul_comm]
    have h1 : x % 10 ^ (m + 1) / 10 = x / 10 % 10 ^ m := by rw [hp, Nat.mod_mul_right_div_self]
    have h2 : x % 10 ^ (m + 1) % 10 = x % 10 := Nat.mod_mod_of_dvd _ (by rw [hp]; exact Nat.dvd_mul_right _ _)
    rw [padL, padL, h1, h2, ih]
theorem padL_zero (m : Nat) : padL m 0 = repeatL [48] m := by
  have hs : ∀ m, repeatL [48] m ++ [(48 : UInt8)] = repeatL [48] (m + 1) := by
    intro m
    induction m with
    | zero => rfl
    | succ m ih =>
      show (48 :: repeatL [48] m) ++ [48] = 48 :: repeatL [48] (m + 1)
      rw [List.cons_append, ih]
  induction m with
  | zero => rfl
  | succ m ih =>
    rw [padL, Nat.zero_div, ih, ← hs]
    rfl
theorem pad_dec (m : Nat) : ∀ r, r < 10 ^ m → 0 < m → repeatL [48] (m - nDigits r) ++ decDigits r = padL m r ∧ nDigits r ≤ m := by
  induction m with
  | zero => intro r _ h; omega
  | succ m ih =>
    intro r hr _
    rcases Nat.lt_or_ge r 10 with h | h
    · rw [nd_one h, decDigits_one h, padL, Nat.div_eq_of_lt h, padL_zero, Nat.mod_eq_of_lt h]
      exact ⟨rfl, by omega⟩
    · have hp : 10 ^ (m + 1) = 10 ^ m * 10 := Nat.pow_succ ..
      have hm : 0 < m := by
        rcases Nat.eq_zero_or_pos m with h0 | h0
        · subst h0; simp at hr; omega
        · exact h0
      obtain ⟨i1, i2⟩ := ih (r / 10) (by omega) hm
      rw [nd_big h, dec_big h, padL, ← i1, List.append_assoc]
      exact ⟨by rw [Nat.add_sub_add_right], by omega⟩
/-- A numeral in two pieces. -/
theorem dec_pieces {m x : Nat} (hm : 0 < m) (hx : 10 ^ m ≤ x) : decDigits x = decDigits (x / 10 ^ m) ++ (repeatL [48] (m - nDigits (x % 10 ^ m)) ++ decDigits (x % 10 ^ m)) ∧ nDigits (x % 10 ^ m) ≤ m := by
  obtain ⟨h1, h2⟩ := pad_dec m (x % 10 ^ m) (Nat.mod_lt _ (Nat.pos_of_ne_zero (by simp))) hm
  rw [h1, padL_mod]
  exact ⟨dec_part m x hx, h2⟩
end Go.Proofs.YthmpkejdficmgaaDoor
