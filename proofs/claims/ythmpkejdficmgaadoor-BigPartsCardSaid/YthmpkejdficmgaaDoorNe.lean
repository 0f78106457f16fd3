/- Proved here: what math/bits.Add32 and Sub32 answer. Condition: numbers of 32 bits, a carry up to 1. -/
import Derived.Test.YthmpkejdficmgaaDoorNc
import Derived.Laws.BitsAllLaws
namespace Go.Proofs.YthmpkejdficmgaaDoor
open Go.RowKit

theorem top31 {a : Nat} (h : a < 4294967296) : a.testBit 31 = decide (2147483648 ≤ a) := by
  rw [Nat.testBit_eq_decide_div_mod_eq]
  congr 1
  simp only [eq_iff_iff]
  omega
theorem shr31 {a : Nat} (h : a < 4294967296) : a / 2147483648 = if a.testBit 31 = true then 1 else 0 := by
  rw [top31 h]
  by_cases h2 : 2147483648 ≤ a
  · simp [h2]; omega
  · simp [h2]; omega
theorem not31 {a : Nat} (h : a < 4294967296) : (4294967295 - a).testBit 31 = !a.testBit 31 := by
  rw [top31 (by omega), top31 h]
  by_cases h2 : 2147483648 ≤ a
  · simp [h2]; omega
  · simp [h2]; omega
theorem sub32_borrow {x y b d : Nat} (hx : x < 4294967296) (hy : y < 4294967296) (hb : b ≤ 1) (hd : d = (x + 4294967296 - y - b) % 4294967296) :
    (((4294967295 - x) &&& y) ||| ((4294967295 - (x ^^^ y)) &&& d)) / 2147483648 = if x < y + b then 1 else 0 := by
  have hd2 : d < 4294967296 := by omega
  have hxy : x ^^^ y < 4294967296 := Nat.xor_lt_two_pow (n := 32) hx hy
  have h1 : (4294967295 - x) &&& y < 4294967296 := Nat.lt_of_le_of_lt Nat.and_le_right hy
  have h2 : (4294967295 - (x ^^^ y)) &&& d < 4294967296 := Nat.lt_of_le_of_lt Nat.and_le_right hd2
  have h3 : ((4294967295 - x) &&& y) ||| ((4294967295 - (x ^^^ y)) &&& d) < 4294967296 := Nat.or_lt_two_pow (n := 32) h1 h2
  rw [shr31 h3, Nat.testBit_or, Nat.testBit_and, Nat.testBit_and, not31 hx, not31 hxy, Nat.testBit_xor, top31 hx, top31 hy, top31 hd2]
  by_cases c1 : 2147483648 ≤ x <;> by_cases c2 : 2147483648 ≤ y <;> by_cases c3 : 2147483648 ≤ d <;> by_cases c4 : x < y + b <;> simp [c1, c2, c3, c4] <;> omega
/-- A digit of a sum, and the carry; of a difference. -/
def sLo (x y c : Nat) : Nat := (x + y + c) % 4294967296
def sCa (x y c : Nat) : Nat := (x + y + c) / 4294967296
def dLo (x y c : Nat) : Nat := (x + 4294967296 - y - c) % 4294967296
def dBo (x y c : Nat) : Nat := if x < y + c then 1 else 0
def Pair32 (a b : Nat) (w : World) (e : Ending) (w' : World) : Prop := e = .returned (.tuple #[.int .u32 (a : Int), .int .u32 (b : Int)]) ∧ w = w'
theorem ret_pair {k : IntKind} {a b c d : Int} (h : a = c) (h' : b = d) : Ending.returned (.tuple #[.int k a, .int k b]) = .returned (.tuple #[.int k c, .int k d]) := by rw [h, h']
set_option maxHeartbeats 400000 in
theorem add32_any (x y c : Nat) (w : World) (hx : x < 4294967296) (hy : y < 4294967296) (hc : c ≤ 1) :
    Calls Tryd.prog 62 #[.int .u32 (x : Int), .int .u32 (y : Int), .int .u32 (c : Int)] w (Pair32 (sLo x y c) (sCa x y c) w) := by
  go_enter Tryd.func62, Tryd.ntmps62
  go_wp2
  go_ret2
  exact ⟨ret_pair (by simp [sLo]) (by simp [sCa]), rfl⟩
theorem u32_not {x : Nat} (h : x < 4294967296) : bits .xor .u32 IntKind.u32.max (x : Int) = ((4294967295 - x : Nat) : Int) := by
  have e : IntKind.u32.max = ((4294967295 : Nat) : Int) := by decide
  rw [e, u32_xor_nat 4294967295 x (by decide) h]
  congr 1
  apply Nat.eq_of_testBit_eq
  intro i
  have h1 := Nat.testBit_two_pow_sub_succ (n := 32) h i
  have h2 := Nat.testBit_two_pow_sub_one 32 i
  rw [show (2 ^ 32 - (x + 1) : Nat) = 4294967295 - x by omega] at h1
  rw [Nat.testBit_xor, h1, show (4294967295 : Nat) = 2 ^ 32 - 1 by decide, h2]
  by_cases hi : i < 32
  · simp [hi]
  · have : x.testBit i = false := Nat.testBit_lt_two_pow (Nat.lt_of_lt_of_le h (Nat.pow_le_pow_right (n := 2) (i := 32) (by decide) (by omega)))
    simp [hi, this]
theorem sub32_bits {x y c : Nat} (hx : x < 4294967296) (hy : y < 4294967296) (hc : c ≤ 1) :
    bits .or .u32 (bits .and .u32 (bits .xor .u32 IntKind.u32.max (x : Int)) (y : Int)) (bits .and .u32 (bits .xor .u32 IntKind.u32.max (bits .xor .u32 (x : Int) (y : Int))) (((x : Int) - (y : Int) - (c : Int)) % 4294967296)) / 2147483648 = (dBo x y c : Int) := by
  have hd : ((x : Int) - (y : Int) - (c : Int)) % 4294967296 = (dLo x y c : Int) := by unfold dLo; omega
  have hd2 : dLo x y c < 4294967296 := by unfold dLo; omega
  have hxy : x ^^^ y < 4294967296 := Nat.xor_lt_two_pow (n := 32) hx hy
  rw [hd, u32_xor_nat x y hx hy, u32_not hx, u32_not hxy, u32_and_nat _ _ (by omega) hy, u32_and_nat _ _ (by omega) hd2,
    u32_or_nat _ _ (Nat.lt_of_le_of_lt Nat.and_le_right hy) (Nat.lt_of_le_of_lt Nat.and_le_right hd2)]
  have := sub32_borrow hx hy hc (d := dLo x y c) rfl
  unfold dBo
  rw [← this]
  simp
set_option maxHeartbeats 400000 in
theorem sub32_any (x y c : Nat) (w : World) (hx : x < 4294967296) (hy : y < 4294967296) (hc : c ≤ 1) :
    Calls Tryd.prog 64 #[.int .u32 (x : Int), .int .u32 (y : Int), .int .u32 (c : Int)] w (Pair32 (dLo x y c) (dBo x y c) w) := by
  have hs : IntKind.u32.signed = false := rfl
  go_enter Tryd.func64, Tryd.ntmps64
  go_wp2
  go_ret2
  exact ⟨ret_pair (by unfold dLo; omega) (sub32_bits hx hy hc), rfl⟩
end Go.Proofs.YthmpkejdficmgaaDoor
