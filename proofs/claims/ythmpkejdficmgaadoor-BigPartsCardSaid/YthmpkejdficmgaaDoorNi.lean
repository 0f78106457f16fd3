/- Proved here: what math/bits.Div64 answers. Condition: numbers of 64 bits, the high one below the divisor. -/
import Derived.Test.YthmpkejdficmgaaDoorNh
namespace Go.Proofs.YthmpkejdficmgaaDoor
open Go.RowKit

theorem bl_spec : ∀ (y : Nat), 0 < y → y < 2 ^ 64 → 2 ^ (Lib.bitLen y - 1) ≤ y ∧ y < 2 ^ Lib.bitLen y ∧ 1 ≤ Lib.bitLen y ∧ Lib.bitLen y ≤ 64 := by
  intro y
  induction y using Nat.strongRecOn with
  | _ y ih =>
    intro h0 h
    have hh := Lib.bitLen_half y (by omega) h
    have hle := Lib.bitLen_le y 64 (by decide) h
    rcases Nat.lt_or_ge y 2 with h2 | h2
    · obtain rfl : y = 1 := by omega
      have e : Lib.bitLen 1 = 1 := by decide
      rw [e]
      decide
    · obtain ⟨i1, i2, i3, i4⟩ := ih (y / 2) (by omega) (by omega) (by omega)
      rw [hh] at hle ⊢
      refine ⟨?_, ?_, by omega, hle⟩
      · have e : 2 ^ (1 + Lib.bitLen (y / 2) - 1) = 2 ^ (Lib.bitLen (y / 2) - 1) * 2 := by
          rw [← Nat.pow_succ]
          congr 1
          omega
        rw [e]
        omega
      · rw [Nat.add_comm, Nat.pow_succ]
        omega
theorem wrap_u64m (x : Int) : IntKind.u64.wrap x = x % 18446744073709551616 := IntKind.wrap_u64 x
theorem rest_wrap {u d Q Y R : Nat} (h : ((u : Int) * 4294967296 + d - Q * Y) % 18446744073709551616 = (R : Int)) :
    IntKind.u64.wrap (IntKind.u64.wrap (IntKind.u64.wrap ((u : Int) * 4294967296) + (d : Int)) - IntKind.u64.wrap ((Q : Int) * (Y : Int))) = (R : Int) := by
  rw [wrap_u64m, wrap_u64m, wrap_u64m, wrap_u64m]
  generalize (Q : Int) * (Y : Int) = T at *
  omega
theorem quo_wrap {u y : Nat} (hu : u < 18446744073709551616) : IntKind.u64.wrap ((u : Int) / (y : Int)) = ((u / y : Nat) : Int) :=
  wrapN (by simp) (Nat.lt_of_le_of_lt (Nat.div_le_self _ _) hu)
theorem rem_wrap {u y : Nat} (hu : u < 18446744073709551616) : IntKind.u64.wrap ((u : Int) - IntKind.u64.wrap (((u / y : Nat) : Int) * (y : Int))) = ((u % y : Nat) : Int) := by
  have h := Nat.div_add_mod' u y
  have e : ((u / y : Nat) : Int) * (y : Int) = ((u / y * y : Nat) : Int) := by simp
  rw [e, wrapN rfl (by omega)]
  exact wrapN (by omega) (by omega)
theorem and32 {x : Nat} (h : x < 18446744073709551616) : bits .and .u64 (x : Int) 4294967295 = ((x % 4294967296 : Nat) : Int) := by
  rw [and_low32 _ (by omega) (by omega)]
  simp
theorem quo2 {A C Q : Nat} (h : Q = A * 4294967296 + C) (hq : Q < 18446744073709551616) : IntKind.u64.wrap (IntKind.u64.wrap ((A : Int) * 4294967296) + (C : Int)) = (Q : Int) := by
  rw [wrapN (x := (A : Int) * 4294967296) (n := A * 4294967296) (by simp) (by omega)]
  exact wrapN (n := Q) (by omega) hq
set_option maxRecDepth 100000 in
theorem div64_any (hi lo y : Nat) (w : World) (hy : hi < y) (hl : lo < 18446744073709551616) (hy' : y < 18446744073709551616) :
    Calls Tryd.prog 66 #[.int .u64 (hi : Int), .int .u64 (lo : Int), .int .u64 (y : Int)] w fun e w' => e = .returned (.tuple #[.int .u64 (((hi * 18446744073709551616 + lo) / y : Nat) : Int), .int .u64 (((hi * 18446744073709551616 + lo) % y : Nat) : Int)]) ∧ ∃ n, w' = w.drewN n := by
  rcases Nat.eq_zero_or_pos hi with h0 | h0
  · subst h0
    have := div64_small lo y w hl hy hy'
    simpa using this
  · obtain ⟨b1, b2, b3, b4⟩ := bl_spec y (by omega) (by simpa using hy')
    obtain ⟨L, hL⟩ : ∃ L, L = Lib.bitLen y := ⟨_, rfl⟩
    rw [← hL] at b1 b2 b3 b4
    obtain ⟨s, hs⟩ : ∃ s, s = 64 - L := ⟨_, rfl⟩
    have hlz := fun w : World => lz_any y s w hy' (by rw [hs, hL]) (by omega)
    have hp : 0 < 2 ^ s := Nat.two_pow_pos s
    have e64 : (2 ^ 64 : Nat) = 18446744073709551616 := by decide
    have eLs : 2 ^ L * 2 ^ s = 18446744073709551616 := by rw [← Nat.pow_add, ← e64]; congr 1; omega
    have eLs1 : 2 ^ (L - 1) * 2 ^ s = 9223372036854775808 := by
      rw [← Nat.pow_add, show (9223372036854775808 : Nat) = 2 ^ 63 by decide]; congr 1; omega
    have e64s : 2 ^ (64 - s) * 2 ^ s = 18446744073709551616 := by rw [← Nat.pow_add, ← e64]; congr 1; omega
    have hYu : y * 2 ^ s < 18446744073709551616 := by rw [← eLs]; exact Nat.mul_lt_mul_of_pos_right b2 hp
    have hYl : 9223372036854775808 ≤ y * 2 ^ s := by rw [← eLs1]; exact Nat.mul_le_mul_right _ b1
    have hhi : hi * 2 ^ s + 2 ^ s ≤ y * 2 ^ s := by rw [← Nat.succ_mul]; exact Nat.mul_le_mul_right _ hy
    have hlo2 : lo / 2 ^ (64 - s) < 2 ^ s := by
      rw [Nat.div_lt_iff_lt_mul (Nat.two_pow_pos _), Nat.mul_comm, e64s]
      exact hl
    obtain ⟨Y, hY⟩ : ∃ Y, Y = y * 2 ^ s := ⟨_, rfl⟩
    obtain ⟨u, hu⟩ : ∃ u, u = hi * 2 ^ s + lo / 2 ^ (64 - s) := ⟨_, rfl⟩
    obtain ⟨v, hv⟩ : ∃ v, v = lo * 2 ^ s % 18446744073709551616 := ⟨_, rfl⟩
    have hdm := Nat.div_add_mod (lo * 2 ^ s) 18446744073709551616
    have hq2 : lo * 2 ^ s / 18446744073709551616 = lo / 2 ^ (64 - s) := by rw [← e64s, Nat.mul_div_mul_right _ _ hp]
    rw [hq2] at hdm
    have hfull : u * 18446744073709551616 + v = (hi * 18446744073709551616 + lo) * 2 ^ s := by
      rw [hu, hv]
      have e : (hi * 18446744073709551616 + lo) * 2 ^ s = hi * 2 ^ s * 18446744073709551616 + lo * 2 ^ s := by grind
      rw [e, ← hdm]
      generalize lo / 2 ^ (64 - s) = A at *
      generalize hi * 2 ^ s = Bq at *
      generalize lo * 2 ^ s % 18446744073709551616 = C at *
      omega
    have huY : u < Y := by rw [hu, hY]; omega
    have hvl : v < 18446744073709551616 := by rw [hv]; exact Nat.mod_lt _ (by decide)
    have hYY : Y = Y / 4294967296 * 4294967296 + Y % 4294967296 := by omega
    have huYY : u < Y / 4294967296 * 4294967296 + Y % 4294967296 := by omega
    have hvv : v = v / 4294967296 * 4294967296 + v % 4294967296 := by omega
    have hY0 : 0 < Y := by omega
    have hR1 : (u * 4294967296 + v / 4294967296) % Y < Y := Nat.mod_lt _ hY0
    obtain ⟨R1, hR1e⟩ : ∃ R1, R1 = (u * 4294967296 + v / 4294967296) % Y := ⟨_, rfl⟩
    have two := knuth_two (u := u) (y := Y) (d1 := v / 4294967296) (d0 := v % 4294967296) hY0
    rw [← hvv, hfull, ← hR1e] at two
    rw [← hR1e] at hR1
    have E4 : bits .or .u64 (IntKind.u64.wrap ((hi : Int) * 2 ^ s)) ((lo : Int) / 2 ^ (64 - s)) = (u : Int) := by
      rw [wrapN (n := hi * 2 ^ s) (by simp) (by omega)]
      have e : (lo : Int) / 2 ^ (64 - s) = ((lo / 2 ^ (64 - s) : Nat) : Int) := by simp
      rw [e, bits_or_u64_nat _ _ (by omega) (by omega), hu, Nat.mul_comm hi, ← Nat.two_pow_add_eq_or_of_lt hlo2]
    have core := div64_core hi lo y s Y (Y / 4294967296) (Y % 4294967296) u v (v / 4294967296) (v % 4294967296) (u / (Y / 4294967296)) (u % (Y / 4294967296)) ((u * 4294967296 + v / 4294967296) / Y) R1
      (R1 / (Y / 4294967296)) (R1 % (Y / 4294967296)) ((R1 * 4294967296 + v % 4294967296) / Y) ((R1 * 4294967296 + v % 4294967296) % Y) w h0 hy (by omega) (hlz w)
      (wrapN (by rw [hY]; simp) (by omega)) (by simp) (by omega) (by omega) (by omega) (and32 (by omega)) E4
      (by rw [wrap_u64m, hv]; simp) (by simp) (and32 hvl) (by omega) (by omega) (quo_wrap (by omega)) (rem_wrap (by omega)) (knuth_start (by omega) (by omega) (by omega) (by omega) huYY) huYY (by rw [← hYY])
      (rest_wrap (by rw [hR1e]; exact knuth_rest hY0 (by omega) rfl)) (quo_wrap (by omega)) (rem_wrap (by omega)) (knuth_start (by omega) (by omega) (by omega) (by omega) (by omega)) (by omega) (by rw [← hYY])
      (rest_wrap (knuth_rest hY0 (by omega) rfl))
    refine core.mono fun e w' ⟨he, hw⟩ => ⟨?_, 0, hw.symm⟩
    have hQ : (hi * 18446744073709551616 + lo) * 2 ^ s / Y = (hi * 18446744073709551616 + lo) / y := by rw [hY, Nat.mul_div_mul_right _ _ hp]
    have hM : (hi * 18446744073709551616 + lo) * 2 ^ s % Y = (hi * 18446744073709551616 + lo) % y * 2 ^ s := by rw [hY, Nat.mul_mod_mul_right]
    have hQl : (hi * 18446744073709551616 + lo) / y < 18446744073709551616 := by
      rw [Nat.div_lt_iff_lt_mul (by omega)]
      have := Nat.mul_le_mul_left 18446744073709551616 hy
      omega
    rw [hQ] at two
    rw [hM] at two
    rw [he]
    have q1 : IntKind.u64.wrap (IntKind.u64.wrap ((((u * 4294967296 + v / 4294967296) / Y : Nat) : Int) * 4294967296) + (((R1 * 4294967296 + v % 4294967296) / Y : Nat) : Int)) = (((hi * 18446744073709551616 + lo) / y : Nat) : Int) := by
      exact quo2 two.1 hQl
    have q2 : (((R1 * 4294967296 + v % 4294967296) % Y : Nat) : Int) / 2 ^ s = (((hi * 18446744073709551616 + lo) % y : Nat) : Int) := by
      rw [← two.2]
      have : (((hi * 18446744073709551616 + lo) % y * 2 ^ s : Nat) : Int) / 2 ^ s = (((hi * 18446744073709551616 + lo) % y * 2 ^ s / 2 ^ s : Nat) : Int) := by simp
      rw [this, Nat.mul_div_cancel _ hp]
    rw [q1, q2]
end Go.Proofs.YthmpkejdficmgaaDoor
