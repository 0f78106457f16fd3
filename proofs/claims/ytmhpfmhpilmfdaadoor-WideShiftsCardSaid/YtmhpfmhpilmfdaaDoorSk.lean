/- Proved here: the law of WideShifts, for all numbers and all n. -/
import Derived.Test.YtmhpfmhpilmfdaaDoorSj
namespace Go.Proofs.YtmhpfmhpilmfdaaDoor
open Go.RowKit

theorem bl_len (lo : Nat) (h : lo < 18446744073709551616) : BL lo (Lib.bitLen lo) := by
  rcases Nat.eq_zero_or_pos lo with rfl | h0
  · have e : Lib.bitLen 0 = 0 := by decide
    rw [e]
    exact ⟨by decide, fun h => absurd h (by decide)⟩
  · obtain ⟨h1, h2, _, _⟩ := bl_spec lo h0 (by simpa using h)
    exact ⟨h2, fun _ => h1⟩
theorem bl_bitsW (hi lo : Nat) (hh : hi < 18446744073709551616) (hl : lo < 18446744073709551616) : BL (numW hi lo) (bitsW hi lo) := by
  unfold bitsW
  split
  · rename_i h
    subst h
    have e : numW 0 lo = lo := by simp [numW]
    rw [e]
    exact bl_len lo hl
  · rename_i h
    obtain ⟨h1, h2, h3, _⟩ := bl_spec hi (by omega) (by simpa using hh)
    have e : (2 : Nat) ^ 64 = 18446744073709551616 := by decide
    constructor
    · rw [Nat.pow_add, e]
      have := Nat.mul_le_mul_left 18446744073709551616 (show hi + 1 ≤ 2 ^ Lib.bitLen hi from h2)
      unfold numW
      omega
    · intro _
      rw [show 64 + Lib.bitLen hi - 1 = 64 + (Lib.bitLen hi - 1) by omega, Nat.pow_add, e]
      have := Nat.mul_le_mul_left 18446744073709551616 h1
      unfold numW
      omega
theorem fit_yes {n : Nat} {w w' : World} {e : Ending} (hf : n < 65536 ^ 8) (h : FitE n w e w') : e = .returned (.tuple #[.agg #[.int .u64 (hiW n : Int), .int .u64 (loW n : Int)], .int .i64 0]) ∧ Below w.heap.size w w' := by
  obtain ⟨x, y, z, he, hr, hb⟩ := h
  rcases hr with ⟨_, rfl, rfl, rfl⟩ | ⟨h1, _⟩
  · exact ⟨he, hb⟩
  · exact absurd hf h1
theorem fit_no {n : Nat} {w w' : World} {e : Ending} (hf : ¬ n < 65536 ^ 8) (h : FitE n w e w') : e = .returned (.tuple #[.agg #[.int .u64 ((0 : Nat) : Int), .int .u64 ((0 : Nat) : Int)], .int .i64 2]) ∧ Below w.heap.size w w' := by
  obtain ⟨x, y, z, he, hr, hb⟩ := h
  rcases hr with ⟨h1, _⟩ | ⟨_, rfl, rfl, rfl⟩
  · exact absurd h1 hf
  · exact ⟨he, hb⟩
theorem rshift_up (a b m : Nat) (w : World) (ha : a < 18446744073709551616) (hb : b < 18446744073709551616) (hm : m ≤ 200) :
    Calls Tryd.prog 19 #[.agg #[.int .u64 (a : Int), .int .u64 (b : Int)], .int .i64 (m : Int)] w (FitE (numW a b * 2 ^ m) w) := by
  by_cases h : a = 0
  · subst h
    by_cases h' : b = 0
    · subst h'
      have e : numW 0 0 * 2 ^ m = 0 := by simp [numW]
      rw [e]
      exact (rshift_zero m w).mono fun _ _ ⟨he, hbl⟩ => ⟨0, 0, 0, he, .inl ⟨by decide, by decide, by decide, rfl⟩, hbl⟩
    · exact rshift_upB b m w hb hm (by omega)
  · exact rshift_upA a b m w ha hb hm (by omega)
theorem rshift_dn (a b m : Nat) (w : World) (ha : a < 18446744073709551616) (hb : b < 18446744073709551616) (hm : m ≤ 200) (h0 : 0 < m) :
    Calls Tryd.prog 19 #[.agg #[.int .u64 (a : Int), .int .u64 (b : Int)], .int .i64 (-(m : Int))] w fun e w' => e = .returned (.tuple #[.agg #[.int .u64 (hiW (numW a b / 2 ^ m) : Int), .int .u64 (loW (numW a b / 2 ^ m) : Int)], .int .i64 0]) ∧ Below w.heap.size w w' := by
  by_cases h : a = 0
  · subst h
    by_cases h' : b = 0
    · subst h'
      have e : numW 0 0 / 2 ^ m = 0 := by simp [numW]
      rw [e]
      exact rshift_zero _ w
    · exact rshift_dnB b m w hb hm h0 (by omega)
  · exact rshift_dnA a b m w ha hb hm h0 (by omega)
theorem law_shifts (a b c d : Nat) (n : Int) (w : World) (ht : Tab w) (ha : a < 18446744073709551616) (hb : b < 18446744073709551616) (hc : c < 18446744073709551616) (hd : d < 18446744073709551616) (hn : -9223372036854775808 ≤ n ∧ n ≤ 9223372036854775807) :
    Calls Tryd.prog 5 #[.agg #[.int .u64 (a : Int), .int .u64 (b : Int)], .agg #[.int .u64 (c : Int), .int .u64 (d : Int)], .int .i64 n] w fun e w' => e = .returned (.bool true) ∧ Below w.heap.size w w' := by
  have hx : numW a b < 65536 ^ 8 := by rw [e8b]; unfold numW; omega
  by_cases h1 : n > 200
  · obtain ⟨m, rfl⟩ := Int.eq_ofNat_of_zero_le (show 0 ≤ n by omega)
    have hp : 65536 ^ 8 ≤ 2 ^ m := by
      have := Nat.pow_le_pow_right (show 0 < 2 by decide) (show 128 ≤ m by omega)
      exact Nat.le_trans (by decide) this
    have kU := fun W => shift_up a b m W ha hb (by omega)
    by_cases h0 : numW a b = 0
    · obtain rfl : a = 0 := by unfold numW at h0; omega
      obtain rfl : b = 0 := by unfold numW at h0; omega
      exact law_far3 c d m w ht h1 (fun W => (kU W).mono fun _ _ h => by
        have e : numW 0 0 * 2 ^ m = 0 := by simp [numW]
        rw [e] at h
        exact fit_yes (by decide) h)
    · have hf : ¬ numW a b * 2 ^ m < 65536 ^ 8 := by
        have := Nat.mul_le_mul_right (2 ^ m) (show 1 ≤ numW a b by omega)
        omega
      by_cases ha0 : a = 0
      · subst ha0
        exact law_far2 b c d m w ht h1 (by unfold numW at h0; omega) (fun W => (kU W).mono fun _ _ h => fit_no hf h)
      · exact law_far1 a b c d m w ht h1 (by omega) (fun W => (kU W).mono fun _ _ h => fit_no hf h)
  · by_cases h2 : n < -200
    · obtain ⟨m, rfl⟩ : ∃ m : Nat, n = -(m : Int) := ⟨(-n).toNat, by omega⟩
      have hp : 65536 ^ 8 ≤ 2 ^ m := by
        have := Nat.pow_le_pow_right (show 0 < 2 by decide) (show 128 ≤ m by omega)
        exact Nat.le_trans (by decide) this
      have h0 : numW a b / 2 ^ m = 0 := Nat.div_eq_of_lt (Nat.lt_of_lt_of_le hx hp)
      exact law_far4 a b c d _ w ht h2 (fun W => (shift_neg a b m W ha hb (by omega) (by omega)).mono fun _ _ h => by
        rw [h0] at h
        exact h)
    · have hx2 : numW a b < 2 ^ 128 := Nat.lt_of_lt_of_le hx (by decide)
      have near := fun (x y : Nat) (e : Int) k1 k2 => law_near a b c d x y n e (bitsW a b) (cmpI (numW a b) (numW c d)) w ht h1 h2 k1 k2 (fun W => bits_any a b W ha hb)
        (fun W => (rbits_any a b W ha hb hx2).mono fun _ _ ⟨⟨m, he, hm⟩, hbl⟩ => by
          have := hm.same (bl_bitsW a b ha hb)
          subst this
          exact ⟨he, hbl⟩)
        (fun W => cmp_any a b c d W hb hd) (fun W => by
          have := cmp_any a b a b W hb hb
          rw [cmpI_eq rfl] at this
          exact this) (fun W => digits_num a b W ha hb) (fun W => digits_num c d W hc hd) (fun v u W hv hu => less_num v u _ _ 8 8 W hv hu (by decide) (by decide))
      by_cases h3 : 0 ≤ n
      · obtain ⟨m, rfl⟩ := Int.eq_ofNat_of_zero_le h3
        by_cases hf : numW a b * 2 ^ m < 65536 ^ 8
        · exact near _ _ _ (fun W => (shift_up a b m W ha hb (by omega)).mono fun _ _ h => fit_yes hf h) (fun W => (rshift_up a b m W ha hb (by omega)).mono fun _ _ h => fit_yes hf h)
        · exact near _ _ _ (fun W => (shift_up a b m W ha hb (by omega)).mono fun _ _ h => fit_no hf h) (fun W => (rshift_up a b m W ha hb (by omega)).mono fun _ _ h => fit_no hf h)
      · obtain ⟨m, rfl⟩ : ∃ m : Nat, n = -(m : Int) := ⟨(-n).toNat, by omega⟩
        exact near _ _ _ (fun W => shift_neg a b m W ha hb (by omega) (by omega)) (fun W => rshift_dn a b m W ha hb (by omega) (by omega))
end Go.Proofs.YtmhpfmhpilmfdaaDoor
