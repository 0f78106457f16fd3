/- Proved here: what package wide's Shift answers, for all numbers and all n. -/
import Derived.Test.YtmhpfmhpilmfdaaDoorSd
namespace Go.Proofs.YtmhpfmhpilmfdaaDoor
open Go.RowKit

theorem shift_up (a b m : Nat) (w : World) (ha : a < 18446744073709551616) (hb : b < 18446744073709551616) (hm : m < 9223372036854775808) :
    Calls Tryd.prog 18 #[.agg #[.int .u64 (a : Int), .int .u64 (b : Int)], .int .i64 (m : Int)] w (FitE (numW a b * 2 ^ m) w) := by
  have hp : 0 < 2 ^ m := Nat.two_pow_pos m
  obtain ⟨x1, x2⟩ := hiW_of (h := a) hb
  have ku := fun W => up_any a b m W ha hb (by omega)
  have hU : numW a b * 2 ^ m % (18446744073709551616 * 18446744073709551616) < 18446744073709551616 * 18446744073709551616 := Nat.mod_lt _ (by decide)
  have hUle : numW a b * 2 ^ m % (18446744073709551616 * 18446744073709551616) ≤ numW a b * 2 ^ m := Nat.mod_le _ _
  have hUeq : numW a b * 2 ^ m < 18446744073709551616 * 18446744073709551616 → numW a b * 2 ^ m % (18446744073709551616 * 18446744073709551616) = numW a b * 2 ^ m := Nat.mod_eq_of_lt
  generalize numW a b * 2 ^ m % (18446744073709551616 * 18446744073709551616) = U at *
  have kd := fun W => down_any (hiW U) (loW U) m W (hw_lt hU) (lw_lt _) (by omega)
  rw [num_hl] at kd
  rcases Nat.lt_or_ge (numW a b * 2 ^ m) (18446744073709551616 * 18446744073709551616) with hf | hf
  · have hD : U / 2 ^ m = numW a b := by rw [hUeq hf, Nat.mul_div_cancel _ hp]
    rw [hD, x1, x2] at kd
    refine (shift_pos_fit a b m _ _ w ku kd hm).mono fun e w' ⟨he, hbl⟩ => ⟨_, _, _, he, .inl ⟨by rw [e8b]; exact hf, ?_, ?_, rfl⟩, hbl⟩
    · rw [hUeq hf]
    · rw [hUeq hf]
  · have hD : U / 2 ^ m < numW a b := by
      rw [Nat.div_lt_iff_lt_mul hp]
      omega
    have hne : ¬ (hiW (U / 2 ^ m) = a ∧ loW (U / 2 ^ m) = b) := by
      rintro ⟨h1, h2⟩
      have := num_hl (U / 2 ^ m)
      rw [h1, h2] at this
      omega
    by_cases h1 : hiW (U / 2 ^ m) = a
    · rw [h1] at kd
      exact (shift_pos_ne2 a b m _ _ _ w ku kd hm (by omega)).mono fun e w' ⟨he, hbl⟩ => ⟨_, _, _, he, .inr ⟨by rw [e8b]; omega, rfl, rfl, rfl⟩, hbl⟩
    · exact (shift_pos_ne1 a b m _ _ _ _ w ku kd hm (by omega)).mono fun e w' ⟨he, hbl⟩ => ⟨_, _, _, he, .inr ⟨by rw [e8b]; omega, rfl, rfl, rfl⟩, hbl⟩
end Go.Proofs.YtmhpfmhpilmfdaaDoor
