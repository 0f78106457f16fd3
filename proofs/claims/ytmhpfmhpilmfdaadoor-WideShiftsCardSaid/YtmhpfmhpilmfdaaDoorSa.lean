/- Proved here: what package wide's down and up answer, and the reference package's Bits. Condition: halves of 64 bits. -/
import Derived.Test.YtmhpfmhpilmfdaaDoorRk
namespace Go.Proofs.YtmhpfmhpilmfdaaDoor
open Go.RowKit

set_option maxHeartbeats 1000000 in
set_option maxRecDepth 100000 in
theorem down_lo (a b n h l1 l2 l : Nat) (w : World) (hn : n < 64)
    (E1 : (a : Int) / 2 ^ n = (h : Int)) (E2 : (b : Int) / 2 ^ n = (l1 : Int)) (E3 : (a : Int) / 2 ^ min (IntKind.u64.wrap ((n : Int) - 64)).toNat 64 = 0) (E4 : IntKind.u64.wrap ((a : Int) * 2 ^ (64 - n)) = (l2 : Int))
    (E5 : bits .or .u64 (l1 : Int) 0 = (l1 : Int)) (E6 : bits .or .u64 (l1 : Int) (l2 : Int) = (l : Int)) :
    Calls Tryd.prog 37 #[.agg #[.int .u64 (a : Int), .int .u64 (b : Int)], .int .u64 (n : Int)] w fun e w' => e = .returned (.agg #[.int .u64 (h : Int), .int .u64 (l : Int)]) ∧ Below w.heap.size w w' := by
  go_enter Tryd.func37, Tryd.ntmps37
  go_wp2_with fail
  exact bodyPost_ret (ret_box1 rfl rfl (by simpa using Box.new (w.alloc (.cells #[.int .u64 (a : Int), .int .u64 (b : Int)] 24)) h l)) rfl ⟨rfl, ((Below.refl _ _).alloc (Nat.le_refl _) _).alloc (by simp) _⟩
set_option maxHeartbeats 1000000 in
set_option maxRecDepth 100000 in
theorem down_hi (a b n l : Nat) (w : World) (hn : 64 < n)
    (E1 : (a : Int) / 2 ^ min n 64 = 0) (E2 : (b : Int) / 2 ^ min n 64 = 0) (E3 : (a : Int) / 2 ^ min (IntKind.u64.wrap ((n : Int) - 64)).toNat 64 = (l : Int)) (E4 : IntKind.u64.wrap ((a : Int) * 2 ^ min (IntKind.u64.wrap (64 - (n : Int))).toNat 64) = 0)
    (E5 : bits .or .u64 0 (l : Int) = (l : Int)) (E6 : bits .or .u64 (l : Int) 0 = (l : Int)) :
    Calls Tryd.prog 37 #[.agg #[.int .u64 (a : Int), .int .u64 (b : Int)], .int .u64 (n : Int)] w fun e w' => e = .returned (.agg #[.int .u64 ((0 : Nat) : Int), .int .u64 (l : Int)]) ∧ Below w.heap.size w w' := by
  go_enter Tryd.func37, Tryd.ntmps37
  go_wp2_with fail
  exact bodyPost_ret (ret_box1 rfl rfl (by simpa using Box.new (w.alloc (.cells #[.int .u64 (a : Int), .int .u64 (b : Int)] 24)) 0 l)) rfl ⟨rfl, ((Below.refl _ _).alloc (Nat.le_refl _) _).alloc (by simp) _⟩
set_option maxHeartbeats 1000000 in
set_option maxRecDepth 100000 in
theorem down_64 (a b : Nat) (w : World) (E2 : (b : Int) / 18446744073709551616 = 0) (E1 : (a : Int) / 18446744073709551616 = 0) (E4 : IntKind.u64.wrap (a : Int) = (a : Int))
    (E5 : bits .or .u64 0 (a : Int) = (a : Int)) (E6 : bits .or .u64 (a : Int) (a : Int) = (a : Int)) :
    Calls Tryd.prog 37 #[.agg #[.int .u64 (a : Int), .int .u64 (b : Int)], .int .u64 64] w fun e w' => e = .returned (.agg #[.int .u64 ((0 : Nat) : Int), .int .u64 (a : Int)]) ∧ Below w.heap.size w w' := by
  go_enter Tryd.func37, Tryd.ntmps37
  go_wp2_with fail
  exact bodyPost_ret (ret_box1 rfl rfl (by simpa using Box.new (w.alloc (.cells #[.int .u64 (a : Int), .int .u64 (b : Int)] 24)) 0 a)) rfl ⟨rfl, ((Below.refl _ _).alloc (Nat.le_refl _) _).alloc (by simp) _⟩
set_option maxHeartbeats 1000000 in
set_option maxRecDepth 100000 in
theorem up_lo (a b n h1 h2 h l : Nat) (w : World) (hn : n < 64)
    (E1 : IntKind.u64.wrap ((a : Int) * 2 ^ n) = (h1 : Int)) (E2 : IntKind.u64.wrap ((b : Int) * 2 ^ n) = (l : Int)) (E3 : IntKind.u64.wrap ((b : Int) * 2 ^ min (IntKind.u64.wrap ((n : Int) - 64)).toNat 64) = 0) (E4 : (b : Int) / 2 ^ (64 - n) = (h2 : Int))
    (E5 : bits .or .u64 (h1 : Int) 0 = (h1 : Int)) (E6 : bits .or .u64 (h1 : Int) (h2 : Int) = (h : Int)) :
    Calls Tryd.prog 38 #[.agg #[.int .u64 (a : Int), .int .u64 (b : Int)], .int .u64 (n : Int)] w fun e w' => e = .returned (.agg #[.int .u64 (h : Int), .int .u64 (l : Int)]) ∧ Below w.heap.size w w' := by
  go_enter Tryd.func38, Tryd.ntmps38
  go_wp2_with fail
  exact bodyPost_ret (ret_box1 rfl rfl (by simpa using Box.new (w.alloc (.cells #[.int .u64 (a : Int), .int .u64 (b : Int)] 24)) h l)) rfl ⟨rfl, ((Below.refl _ _).alloc (Nat.le_refl _) _).alloc (by simp) _⟩
set_option maxHeartbeats 1000000 in
set_option maxRecDepth 100000 in
theorem up_hi (a b n h : Nat) (w : World) (_hn : 64 < n)
    (E1 : IntKind.u64.wrap ((a : Int) * 2 ^ min n 64) = 0) (E2 : IntKind.u64.wrap ((b : Int) * 2 ^ min n 64) = 0) (E3 : IntKind.u64.wrap ((b : Int) * 2 ^ min (IntKind.u64.wrap ((n : Int) - 64)).toNat 64) = (h : Int)) (E4 : (b : Int) / 2 ^ min (IntKind.u64.wrap (64 - (n : Int))).toNat 64 = 0)
    (E5 : bits .or .u64 0 (h : Int) = (h : Int)) (E6 : bits .or .u64 (h : Int) 0 = (h : Int)) :
    Calls Tryd.prog 38 #[.agg #[.int .u64 (a : Int), .int .u64 (b : Int)], .int .u64 (n : Int)] w fun e w' => e = .returned (.agg #[.int .u64 (h : Int), .int .u64 ((0 : Nat) : Int)]) ∧ Below w.heap.size w w' := by
  go_enter Tryd.func38, Tryd.ntmps38
  go_wp2_with fail
  exact bodyPost_ret (ret_box1 rfl rfl (by simpa using Box.new (w.alloc (.cells #[.int .u64 (a : Int), .int .u64 (b : Int)] 24)) h 0)) rfl ⟨rfl, ((Below.refl _ _).alloc (Nat.le_refl _) _).alloc (by simp) _⟩
set_option maxHeartbeats 1000000 in
set_option maxRecDepth 100000 in
theorem up_64 (a b : Nat) (w : World) (E1 : IntKind.u64.wrap ((a : Int) * 18446744073709551616) = 0) (E2 : IntKind.u64.wrap ((b : Int) * 18446744073709551616) = 0) (E4 : IntKind.u64.wrap (b : Int) = (b : Int))
    (E5 : bits .or .u64 0 (b : Int) = (b : Int)) (E6 : bits .or .u64 (b : Int) (b : Int) = (b : Int)) :
    Calls Tryd.prog 38 #[.agg #[.int .u64 (a : Int), .int .u64 (b : Int)], .int .u64 64] w fun e w' => e = .returned (.agg #[.int .u64 (b : Int), .int .u64 ((0 : Nat) : Int)]) ∧ Below w.heap.size w w' := by
  go_enter Tryd.func38, Tryd.ntmps38
  go_wp2_with fail
  exact bodyPost_ret (ret_box1 rfl rfl (by simpa using Box.new (w.alloc (.cells #[.int .u64 (a : Int), .int .u64 (b : Int)] 24)) b 0)) rfl ⟨rfl, ((Below.refl _ _).alloc (Nat.le_refl _) _).alloc (by simp) _⟩
theorem or0 {l : Nat} (h : l < 18446744073709551616) : bits .or .u64 0 (l : Int) = (l : Int) := by
  have := bits_or_u64_nat 0 l (by decide) h
  simpa using this
theorem or0' {l : Nat} (h : l < 18446744073709551616) : bits .or .u64 (l : Int) 0 = (l : Int) := by
  have := bits_or_u64_nat l 0 h (by decide)
  simpa using this
theorem orS {l : Nat} (h : l < 18446744073709551616) : bits .or .u64 (l : Int) (l : Int) = (l : Int) := by
  have := bits_or_u64_nat l l h h
  simpa using this
theorem minlo {n : Nat} (hn : n < 64) : min (IntKind.u64.wrap ((n : Int) - 64)).toNat 64 = 64 := by
  rw [IntKind.wrap_u64]
  omega
theorem minhi {n : Nat} (hn : 64 < n) (h : n < 18446744073709551616) : min (IntKind.u64.wrap ((n : Int) - 64)).toNat 64 = min (n - 64) 64 ∧ min (IntKind.u64.wrap (64 - (n : Int))).toNat 64 = 64 ∧ min n 64 = 64 := by
  rw [IntKind.wrap_u64, IntKind.wrap_u64]
  omega
theorem div64_zero {a : Nat} (h : a < 18446744073709551616) : (a : Int) / 2 ^ 64 = 0 := by
  have e : (2 : Int) ^ 64 = 18446744073709551616 := by decide
  rw [e]
  omega
theorem mul64_zero (a : Nat) : IntKind.u64.wrap ((a : Int) * 2 ^ 64) = 0 := by
  have e : (2 : Int) ^ 64 = 18446744073709551616 := by decide
  rw [e, IntKind.wrap_u64]
  omega
theorem p64 (n : Nat) (h : n ≤ 64) : 2 ^ (64 - n) * 2 ^ n = 18446744073709551616 := by
  rw [← Nat.pow_add, show (18446744073709551616 : Nat) = 2 ^ 64 by decide]
  congr 1
  omega
theorem wrapM (a k : Nat) : IntKind.u64.wrap ((a : Int) * 2 ^ k) = ((a * 2 ^ k % 18446744073709551616 : Nat) : Int) := by
  rw [IntKind.wrap_u64]
  simp
theorem divM (a k : Nat) : (a : Int) / 2 ^ k = ((a / 2 ^ k : Nat) : Int) := by simp
/-- The low half of a number that is divided by a power of two. -/
theorem down_val {a b n : Nat} (hn : n < 64) (hb : b < 18446744073709551616) : a / 2 ^ n * 18446744073709551616 + (b / 2 ^ n ||| a * 2 ^ (64 - n) % 18446744073709551616) = numW a b / 2 ^ n ∧ (b / 2 ^ n ||| a * 2 ^ (64 - n) % 18446744073709551616) < 18446744073709551616 := by
  have hp : 0 < 2 ^ n := Nat.two_pow_pos n
  have hq : 0 < 2 ^ (64 - n) := Nat.two_pow_pos _
  have e := p64 n (by omega)
  have hdm := Nat.div_add_mod a (2 ^ n)
  have hal := Nat.mod_lt a hp
  have hbl : b / 2 ^ n < 2 ^ (64 - n) := by
    rw [Nat.div_lt_iff_lt_mul hp, e]
    exact hb
  have e1 : a * 2 ^ (64 - n) = a % 2 ^ n * 2 ^ (64 - n) + 18446744073709551616 * (a / 2 ^ n) := by
    rw [← e]
    generalize a / 2 ^ n = A at *
    generalize a % 2 ^ n = C at *
    generalize 2 ^ n = P at *
    generalize 2 ^ (64 - n) = Q at *
    subst hdm
    grind
  have hlt : a % 2 ^ n * 2 ^ (64 - n) + 2 ^ (64 - n) ≤ 18446744073709551616 := by
    rw [← Nat.succ_mul, ← e, Nat.mul_comm (2 ^ (64 - n))]
    exact Nat.mul_le_mul_right _ hal
  have e2 : a * 2 ^ (64 - n) % 18446744073709551616 = a % 2 ^ n * 2 ^ (64 - n) := by
    rw [e1, Nat.add_mul_mod_self_left, Nat.mod_eq_of_lt (by omega)]
  have e3 : (b / 2 ^ n ||| a * 2 ^ (64 - n) % 18446744073709551616) = a % 2 ^ n * 2 ^ (64 - n) + b / 2 ^ n := by
    rw [e2, Nat.or_comm, Nat.mul_comm (a % 2 ^ n), ← Nat.two_pow_add_eq_or_of_lt hbl]
  rw [e3]
  refine ⟨?_, by omega⟩
  have e4 : numW a b = b + 2 ^ n * (a / 2 ^ n * 18446744073709551616 + a % 2 ^ n * 2 ^ (64 - n)) := by
    unfold numW
    have h2 : 2 ^ n * (a / 2 ^ n * 18446744073709551616 + a % 2 ^ n * 2 ^ (64 - n)) = (2 ^ n * (a / 2 ^ n)) * 18446744073709551616 + a % 2 ^ n * (2 ^ (64 - n) * 2 ^ n) := by grind
    rw [h2, e, ← Nat.add_mul, hdm, Nat.add_comm]
  rw [e4, Nat.add_mul_div_left _ _ hp]
  omega
/-- n is how many digits x has in base 2. -/
def BL (x n : Nat) : Prop := x < 2 ^ n ∧ (0 < n → 2 ^ (n - 1) ≤ x)
theorem BL.same {x n m : Nat} (h : BL x n) (k : BL x m) : n = m := by
  rcases Nat.lt_trichotomy n m with h1 | h1 | h1
  · have := Nat.pow_le_pow_right (show 0 < 2 by decide) (show n ≤ m - 1 by omega)
    have h2 := k.2 (by omega)
    have h3 := h.1
    omega
  · exact h1
  · have := Nat.pow_le_pow_right (show 0 < 2 by decide) (show m ≤ n - 1 by omega)
    have h2 := h.2 (by omega)
    have h3 := k.1
    omega
theorem bt_top {x k : Nat} (h : x < 2 ^ (k + 1)) : (bt x k = 0 → x < 2 ^ k) ∧ (bt x k ≠ 0 → 2 ^ k ≤ x) := by
  have hp : 0 < 2 ^ k := Nat.two_pow_pos k
  have hd : x / 2 ^ k < 2 := by
    rw [Nat.div_lt_iff_lt_mul hp, Nat.mul_comm, ← Nat.pow_succ]
    exact h
  unfold bt
  rw [Nat.mod_eq_of_lt hd]
  constructor
  · intro h0
    rcases Nat.lt_or_ge x (2 ^ k) with h1 | h1
    · exact h1
    · have := Nat.div_pos h1 hp
      omega
  · intro h0
    rcases Nat.lt_or_ge x (2 ^ k) with h1 | h1
    · exact absurd (Nat.div_eq_of_lt h1) h0
    · exact h1
set_option maxHeartbeats 2000000 in
set_option maxRecDepth 100000 in
theorem rbits_any (hi lo : Nat) (w : World) (hh : hi < 18446744073709551616) (hl : lo < 18446744073709551616) (hx : numW hi lo < 2 ^ 128) :
    Calls Tryd.prog 21 #[.agg #[.int .u64 (hi : Int), .int .u64 (lo : Int)]] w fun e w' => (∃ m : Nat, e = .returned (.int .i64 (m : Int)) ∧ BL (numW hi lo) m) ∧ Below w.heap.size w w' := by
  have HA := Lib.hid (And.intro hh hl)
  have HX := Lib.hid hx
  clear hh hl hx
  go_enter Tryd.func21, Tryd.ntmps21
  go_wp2_with (go_at_call 24; (with_reducible refine (digits_num hi lo _ HA.out.1 HA.out.2).mono ?_); rintro e wa ⟨za, rfl, hna, hba⟩; have HNa := Lib.hid hna; have HBa := Lib.hid (bel1 hba); clear hna hba)
  go_loop [4] (fun i => ∃ m : Nat, i = .int .i64 (m : Int) ∧ m ≤ 128 ∧ numW hi lo < 2 ^ m) (fun i => (intOf i).toNat)
  case atStart => exact ⟨128, rfl, by omega, HX.out⟩
  case round =>
    obtain ⟨m, rfl, hm, hv⟩ := hrel
    have HV := Lib.hid hv
    clear hv
    rcases m with _ | k
    · go_wp2_with fail
      go_ret
      exact ⟨⟨0, rfl, HV.out, by omega⟩, HBa.out⟩
    · have hk : IntKind.i64.wrap (((k + 1 : Nat) : Int) - 1) = (k : Int) := by rw [IntWalk.i64_in _ (by omega)]; omega
      obtain ⟨t1, t2⟩ := bt_top HV.out
      have T1 := Lib.hid t1
      have T2 := Lib.hid t2
      clear t1 t2
      by_cases hb : bt (numW hi lo) k = 0
      · have hq : ((bt (numW hi lo) k : Int) == 0) = true := by simp [hb]
        have HB := Lib.hid hb
        clear hb
        go_wp2_with (go_at_call 40; refine (bit_num za (numW hi lo) 8 k _ HNa.out (by omega)).mono ?_; rintro e w' ⟨rfl, rfl⟩)
        go_round
        case rel => exact ⟨k, rfl, by omega, T1.out HB.out⟩
        case measure => simp [intOf]
      · have hq : ((bt (numW hi lo) k : Int) == 0) = false := by simp [hb]
        have HB := Lib.hid hb
        clear hb
        go_wp2_with (go_at_call 40; refine (bit_num za (numW hi lo) 8 k _ HNa.out (by omega)).mono ?_; rintro e w' ⟨rfl, rfl⟩)
        go_ret
        exact ⟨⟨k + 1, ret_int (by simp), HV.out, fun _ => by simpa using T2.out HB.out⟩, HBa.out⟩
end Go.Proofs.YtmhpfmhpilmfdaaDoor
