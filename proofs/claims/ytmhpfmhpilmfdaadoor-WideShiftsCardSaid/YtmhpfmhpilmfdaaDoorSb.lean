/- Proved here: what package wide's down, up and Shift answer. Condition: halves of 64 bits. -/
import Derived.Test.YtmhpfmhpilmfdaaDoorSa
namespace Go.Proofs.YtmhpfmhpilmfdaaDoor
open Go.RowKit

theorem hiW_of {h l : Nat} (hl : l < 18446744073709551616) : hiW (numW h l) = h ∧ loW (numW h l) = l := by unfold hiW loW numW; omega
theorem down_any (a b n : Nat) (w : World) (ha : a < 18446744073709551616) (hb : b < 18446744073709551616) (hn : n < 18446744073709551616) :
    Calls Tryd.prog 37 #[.agg #[.int .u64 (a : Int), .int .u64 (b : Int)], .int .u64 (n : Int)] w fun e w' => e = .returned (.agg #[.int .u64 (hiW (numW a b / 2 ^ n) : Int), .int .u64 (loW (numW a b / 2 ^ n) : Int)]) ∧ Below w.heap.size w w' := by
  rcases Nat.lt_trichotomy n 64 with h | h | h
  · obtain ⟨hv, hlt⟩ := down_val (a := a) h hb
    obtain ⟨e1, e2⟩ := hiW_of (h := a / 2 ^ n) hlt
    have hv' : numW (a / 2 ^ n) (b / 2 ^ n ||| a * 2 ^ (64 - n) % 18446744073709551616) = numW a b / 2 ^ n := hv
    rw [hv'] at e1 e2
    rw [e1, e2]
    have l1 : b / 2 ^ n < 18446744073709551616 := Nat.lt_of_le_of_lt (Nat.div_le_self _ _) hb
    exact down_lo a b n _ _ _ _ w h (divM a n) (divM b n) (by rw [minlo h]; exact div64_zero ha) (wrapM a (64 - n)) (or0' l1) (bits_or_u64_nat _ _ l1 (Nat.mod_lt _ (by decide)))
  · subst h
    have hv : numW a b / 2 ^ 64 = numW 0 a := by
      rw [show (2 ^ 64 : Nat) = 18446744073709551616 by decide]
      unfold numW
      omega
    obtain ⟨e1, e2⟩ := hiW_of (h := 0) ha
    rw [hv, e1, e2]
    exact down_64 a b w (by omega) (by omega) (by rw [IntKind.wrap_u64]; omega) (or0 ha) (orS ha)
  · obtain ⟨m1, m2, m3⟩ := minhi h hn
    have hv : numW a b / 2 ^ n = numW 0 (a / 2 ^ min (n - 64) 64) := by
      have e : (2 : Nat) ^ n = 18446744073709551616 * 2 ^ (n - 64) := by
        rw [show (18446744073709551616 : Nat) = 2 ^ 64 by decide, ← Nat.pow_add]
        congr 1
        omega
      rw [e, ← Nat.div_div_eq_div_mul]
      have e2 : numW a b / 18446744073709551616 = a := by unfold numW; omega
      rw [e2]
      unfold numW
      rw [Nat.zero_mul, Nat.zero_add]
      rcases Nat.lt_or_ge (n - 64) 64 with h1 | h1
      · rw [Nat.min_eq_left (by omega)]
      · rw [Nat.min_eq_right h1, Nat.div_eq_of_lt, Nat.div_eq_of_lt]
        · rw [show (2 ^ 64 : Nat) = 18446744073709551616 by decide]; exact ha
        · have := Nat.pow_le_pow_right (show 0 < 2 by decide) h1
          rw [show (2 ^ 64 : Nat) = 18446744073709551616 by decide] at this
          omega
    have hl : a / 2 ^ min (n - 64) 64 < 18446744073709551616 := Nat.lt_of_le_of_lt (Nat.div_le_self _ _) ha
    obtain ⟨e1, e2⟩ := hiW_of (h := 0) hl
    rw [hv, e1, e2]
    exact down_hi a b n _ w h (by rw [m3]; exact div64_zero ha) (by rw [m3]; exact div64_zero hb) (by rw [m1]; exact divM _ _) (by rw [m2]; exact mul64_zero a) (or0 hl) (or0' hl)
/-- The halves of a number that is multiplied by a power of two, as far as they fit. -/
theorem up_val {a b n : Nat} (hn : n < 64) (hb : b < 18446744073709551616) :
    numW (a * 2 ^ n % 18446744073709551616 ||| b / 2 ^ (64 - n)) (b * 2 ^ n % 18446744073709551616) = numW a b * 2 ^ n % (18446744073709551616 * 18446744073709551616) ∧ (a * 2 ^ n % 18446744073709551616 ||| b / 2 ^ (64 - n)) < 18446744073709551616 := by
  have hp : 0 < 2 ^ n := Nat.two_pow_pos n
  have hq : 0 < 2 ^ (64 - n) := Nat.two_pow_pos _
  have e := p64 n (by omega)
  have hbl : b / 2 ^ (64 - n) < 2 ^ n := by
    rw [Nat.div_lt_iff_lt_mul hq, Nat.mul_comm, e]
    exact hb
  have hm : a * 2 ^ n % 18446744073709551616 = a % 2 ^ (64 - n) * 2 ^ n := by
    rw [← e, Nat.mul_mod_mul_right]
  have hlt : a % 2 ^ (64 - n) * 2 ^ n + 2 ^ n ≤ 18446744073709551616 := by
    rw [← Nat.succ_mul, ← e]
    exact Nat.mul_le_mul_right _ (Nat.mod_lt _ hq)
  have ho : (a * 2 ^ n % 18446744073709551616 ||| b / 2 ^ (64 - n)) = a % 2 ^ (64 - n) * 2 ^ n + b / 2 ^ (64 - n) := by
    rw [hm, Nat.mul_comm (a % 2 ^ (64 - n)), ← Nat.two_pow_add_eq_or_of_lt hbl]
  rw [ho]
  refine ⟨?_, by omega⟩
  have hb2 : b * 2 ^ n / 18446744073709551616 = b / 2 ^ (64 - n) := by rw [← e, Nat.mul_div_mul_right _ _ hp]
  have hbd := Nat.div_add_mod (b * 2 ^ n) 18446744073709551616
  have had := Nat.div_add_mod (a * 2 ^ n) 18446744073709551616
  rw [hb2] at hbd
  rw [hm] at had
  have e4 : numW a b * 2 ^ n = a * 2 ^ n * 18446744073709551616 + b * 2 ^ n := by unfold numW; grind
  rw [e4]
  unfold numW
  generalize a * 2 ^ n = A at *
  generalize b * 2 ^ n = C at *
  generalize a % 2 ^ (64 - n) * 2 ^ n = D at *
  generalize b / 2 ^ (64 - n) = E at *
  generalize A / 18446744073709551616 = F at *
  have hr := Nat.mod_lt C (show 0 < 18446744073709551616 by decide)
  generalize C % 18446744073709551616 = G at *
  clear hb2 hm ho e
  omega
theorem up_any (a b n : Nat) (w : World) (_ha : a < 18446744073709551616) (hb : b < 18446744073709551616) (hn : n < 18446744073709551616) :
    Calls Tryd.prog 38 #[.agg #[.int .u64 (a : Int), .int .u64 (b : Int)], .int .u64 (n : Int)] w fun e w' => e = .returned (.agg #[.int .u64 (hiW (numW a b * 2 ^ n % (18446744073709551616 * 18446744073709551616)) : Int), .int .u64 (loW (numW a b * 2 ^ n % (18446744073709551616 * 18446744073709551616)) : Int)]) ∧ Below w.heap.size w w' := by
  rcases Nat.lt_trichotomy n 64 with h | h | h
  · obtain ⟨hv, hlt⟩ := up_val (a := a) h hb
    obtain ⟨e1, e2⟩ := hiW_of (h := (a * 2 ^ n % 18446744073709551616 ||| b / 2 ^ (64 - n))) (Nat.mod_lt (b * 2 ^ n) (show 0 < 18446744073709551616 by decide))
    rw [hv] at e1 e2
    rw [e1, e2]
    have l1 : a * 2 ^ n % 18446744073709551616 < 18446744073709551616 := Nat.mod_lt _ (by decide)
    have l2 : b / 2 ^ (64 - n) < 18446744073709551616 := Nat.lt_of_le_of_lt (Nat.div_le_self _ _) hb
    exact up_lo a b n _ _ _ _ w h (wrapM a n) (wrapM b n) (by rw [minlo h]; exact mul64_zero b) (divM b (64 - n)) (or0' l1) (bits_or_u64_nat _ _ l1 l2)
  · subst h
    have hv : numW a b * 2 ^ 64 % (18446744073709551616 * 18446744073709551616) = numW b 0 := by
      rw [show (2 ^ 64 : Nat) = 18446744073709551616 by decide]
      unfold numW
      omega
    obtain ⟨e1, e2⟩ := hiW_of (h := b) (show 0 < 18446744073709551616 by decide)
    rw [hv, e1, e2]
    exact up_64 a b w (by rw [IntKind.wrap_u64]; omega) (by rw [IntKind.wrap_u64]; omega) (by rw [IntKind.wrap_u64]; omega) (or0 hb) (orS hb)
  · obtain ⟨m1, m2, m3⟩ := minhi h hn
    have hv : numW a b * 2 ^ n % (18446744073709551616 * 18446744073709551616) = numW (b * 2 ^ min (n - 64) 64 % 18446744073709551616) 0 := by
      have e : (2 : Nat) ^ n = 2 ^ (n - 64) * 18446744073709551616 := by
        rw [show (18446744073709551616 : Nat) = 2 ^ 64 by decide, ← Nat.pow_add]
        congr 1
        omega
      rw [e, ← Nat.mul_assoc, Nat.mul_mod_mul_right]
      have e2 : numW a b * 2 ^ (n - 64) % 18446744073709551616 = b * 2 ^ (n - 64) % 18446744073709551616 := by
        have : numW a b * 2 ^ (n - 64) = b * 2 ^ (n - 64) + 18446744073709551616 * (a * 2 ^ (n - 64)) := by unfold numW; grind
        rw [this, Nat.add_mul_mod_self_left]
      rw [e2]
      have e3 : b * 2 ^ (n - 64) % 18446744073709551616 = b * 2 ^ min (n - 64) 64 % 18446744073709551616 := by
        rcases Nat.lt_or_ge (n - 64) 64 with h1 | h1
        · rw [Nat.min_eq_left (by omega)]
        · have e5 : (2 : Nat) ^ (n - 64) = 2 ^ (n - 64 - 64) * 18446744073709551616 := by
            rw [show (18446744073709551616 : Nat) = 2 ^ 64 by decide, ← Nat.pow_add]
            congr 1
            omega
          rw [Nat.min_eq_right h1, e5, ← Nat.mul_assoc, Nat.mul_mod_left, show (2 ^ 64 : Nat) = 18446744073709551616 by decide, Nat.mul_mod_left]
      rw [e3]
      unfold numW
      rw [Nat.add_zero]
    obtain ⟨e1, e2⟩ := hiW_of (h := b * 2 ^ min (n - 64) 64 % 18446744073709551616) (show 0 < 18446744073709551616 by decide)
    rw [hv, e1, e2]
    have hl : b * 2 ^ min (n - 64) 64 % 18446744073709551616 < 18446744073709551616 := Nat.mod_lt _ (by decide)
    exact up_hi a b n _ w h (by rw [m3]; exact mul64_zero a) (by rw [m3]; exact mul64_zero b) (by rw [m1]; exact wrapM _ _) (by rw [m2]; exact div64_zero hb) (or0 hl) (or0' hl)
end Go.Proofs.YtmhpfmhpilmfdaaDoor
