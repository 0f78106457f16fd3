/- Proved here: what move, the document's xor, and times answer. Condition: numbers of 32 bits. -/
import Derived.Test.YtfniickepoolkaaCa
import Derived.Test.YtfniickepoolkaaProg
import Derived.WalkKit
import Derived.WalkSpells
import Derived.WalkLawsBesides
import Derived.Deep.DeepFit
import Derived.Deep.QuietTactic
import Derived.BigQuiet
import Derived.StillTailTactics
import Derived.Deep.RegionHeld3
import Derived.ChangeAlike
import Derived.RegionTactic
import Derived.IntWalk
import Derived.Laws.BitsAllLaws
import Derived.Laws.Bits64b
import Derived.Laws.IdiomStrings
import Derived.Deep.CutBlock
import Derived.Deep.CutRange
import Derived.Deep.DeepCutAuto
import Derived.Deep.LoopGhost
namespace Go.Proofs.Ytfniickepoolkaa
open Go.RowKit

theorem and_one (c : Nat) (hc : c < 4294967296) : bits .and .u32 (c : Int) 1 = ((c % 2 : Nat) : Int) := by
  rw [show (1 : Int) = ((1 : Nat) : Int) from rfl, u32_and_nat c 1 hc (by decide), nat_mask1]
set_option maxHeartbeats 2000000 in
theorem move_any (c : Nat) (w : World) (hc : c < 4294967296) : Calls Try.prog 12 #[.int .u32 (c : Int)] w fun e w' => e = .returned (.int .u32 (mv c : Int)) ∧ w = w' := by
  have h2 : bits .xor .u32 ((c : Int) / 2) (bits .and .u32 (-bits .and .u32 (c : Int) 1 % 4294967296) 3988292384) = (mv c : Int) := by
    rw [and_one c hc]
    have h3 : (-((c % 2 : Nat) : Int)) % 4294967296 = (((if c % 2 = 1 then 4294967295 else 0 : Nat)) : Int) := by split <;> omega
    rw [h3, show (3988292384 : Int) = ((3988292384 : Nat) : Int) from rfl, u32_and_nat _ _ (by split <;> omega) (by decide), show (c : Int) / 2 = ((c / 2 : Nat) : Int) by omega, u32_xor_nat _ _ (by omega) (by split <;> decide)]
    unfold mv
    congr 2
    split <;> rfl
  go_enter Try.func12, Try.ntmps12
  go_wp2_with fail
  go_ret
  exact ⟨rfl, rfl⟩
theorem xor_step (x k : Nat) : x % 2 ^ (k + 1) = x % 2 ^ k + (x / 2 ^ k % 2) * 2 ^ k := by
  rw [Nat.mod_pow_succ, Nat.mul_comm]
theorem xor_fin {z k : Nat} (hz : z < 4294967296) (h : z % 2 ^ (k + 1) = z % 2 ^ k + 1 * 2 ^ k) : (((z % 2 ^ k : Nat) : Int) + 2 ^ k % 4294967296) % 4294967296 = ((z % 2 ^ (k + 1) : Nat) : Int) := by
  have h1 : z % 2 ^ (k + 1) ≤ z := Nat.mod_le _ _
  have h2 : ((2 : Int) ^ k) = ((2 ^ k : Nat) : Int) := by simp
  rw [h2]
  omega
theorem xor_bit (a b k : Nat) : (a ^^^ b) / 2 ^ k % 2 = (if a / 2 ^ k % 2 = b / 2 ^ k % 2 then 0 else 1) := by
  have h : ∀ x : Nat, x / 2 ^ k % 2 = (x.testBit k).toNat := fun x => by rw [Nat.testBit_eq_decide_div_mod_eq]; by_cases h : x / 2 ^ k % 2 = 1 <;> simp [h] <;> omega
  rw [h, h, h, Nat.testBit_xor]
  cases a.testBit k <;> cases b.testBit k <;> rfl
set_option maxHeartbeats 2000000 in
theorem xor_any (a b : Nat) (w : World) (ha : a < 4294967296) (hb : b < 4294967296) : Calls Try.prog 13 #[.int .u32 (a : Int), .int .u32 (b : Int)] w fun e w' => e = .returned (.int .u32 ((a ^^^ b : Nat) : Int)) ∧ Below w.heap.size w w' := by
  have hx : a ^^^ b < 4294967296 := Nat.xor_lt_two_pow (n := 32) ha hb
  have HX := Lib.hid (xor_bit a b)
  have HM := Lib.hid (xor_step (a ^^^ b))
  obtain ⟨z, hz⟩ : ∃ z, z = a ^^^ b := ⟨_, rfl⟩
  rw [← hz] at hx HX HM ⊢
  clear hz
  go_enter Try.func13, Try.ntmps13
  go_wp2_with fail
  go_loopw [5, 6] (fun v i wr => ∃ k : Nat, i = .int .i64 (k : Int) ∧ k ≤ 32 ∧ v = .int .u32 ((z % 2 ^ k : Nat) : Int) ∧ Below w.heap.size w wr) (fun _ i _ => 32 - (intOf i).toNat)
  case atStart => exact ⟨0, rfl, by omega, by simp, Below.refl _ _⟩
  case round =>
    obtain ⟨k, rfl, hk, rfl, hb⟩ := hrel
    have HB := Lib.hid hb
    clear hb
    rcases Nat.lt_or_ge k 32 with hkn | hkn
    · have hm := HM.out k
      have hxb := HX.out k
      have e1 : ((a : Int) / 2 ^ k).tmod 2 = ((a / 2 ^ k % 2 : Nat) : Int) := by
        rw [Int.tmod_eq_emod_of_nonneg (Int.ediv_nonneg (by omega) (Int.pow_nonneg (by decide)))]; simp
      have e2 : ((b : Int) / 2 ^ k).tmod 2 = ((b / 2 ^ k % 2 : Nat) : Int) := by
        rw [Int.tmod_eq_emod_of_nonneg (Int.ediv_nonneg (by omega) (Int.pow_nonneg (by decide)))]; simp
      have hlt := Nat.mod_lt z (Nat.two_pow_pos k)
      have hpk : 2 ^ k ≤ 2 ^ 31 := Nat.pow_le_pow_right (by decide) (by omega)
      obtain ⟨p, hp⟩ : ∃ p, p = 2 ^ k := ⟨_, rfl⟩
      rcases Nat.mod_two_eq_zero_or_one (a / 2 ^ k) with h1 | h1 <;> rcases Nat.mod_two_eq_zero_or_one (b / 2 ^ k) with h2 | h2 <;> rw [h1] at e1 hxb <;> rw [h2] at e2 hxb <;> simp at e1 e2 hxb <;> rw [hxb] at hm
      all_goals have H := Lib.hid hm
      all_goals clear hm hxb h1 h2
      all_goals go_wp2_with fail
      all_goals go_region
      all_goals go_wp2_with fail
      all_goals refine ⟨⟨k + 1, by simp, by omega, ?_, HB.out.drew⟩, by simp [intOf]; omega⟩
      all_goals first
        | (congr 1; have h5 := H.out; simp at h5; rw [h5]; done)
        | (congr 1; exact xor_fin hx H.out)
    · have hkn : k = 32 := by omega
      subst hkn
      go_wp2_with fail
      go_ret
      rw [Nat.mod_eq_of_lt hx]
      exact ⟨rfl, HB.out⟩
theorem top_bit {b k B : Nat} (hB : B = b * 2 ^ k % 4294967296) (hk : k ≤ 31) : B / 2147483648 = (b.testBit (31 - k)).toNat := by
  have h : ∀ x i : Nat, (x.testBit i).toNat = x / 2 ^ i % 2 := fun x i => by rw [Nat.testBit_eq_decide_div_mod_eq]; by_cases h : x / 2 ^ i % 2 = 1 <;> simp [h] <;> omega
  rw [h, hB]
  have h1 : (4294967296 : Nat) = 2 ^ (31 - k) * 2 * 2 ^ k := by
    rw [Nat.mul_right_comm, ← Nat.pow_add, show 31 - k + k = 31 by omega]
  have h2 : (2147483648 : Nat) = 2 ^ k * 2 ^ (31 - k) := by rw [← Nat.pow_add, show k + (31 - k) = 31 by omega]
  rw [h1, Nat.mul_mod_mul_right, h2, ← Nat.div_div_eq_div_mul, Nat.mul_div_cancel _ (Nat.two_pow_pos k), Nat.mod_mul_right_div_self]
theorem tm_done (a b : Nat) (hb : b < 4294967296) : ∀ j k, k + j = 32 → b * 2 ^ k % 4294967296 = 0 → tm a b 32 = tm a b k
  | 0, k, h, _ => by rw [show k = 32 by omega]
  | j + 1, k, h, h0 => by
    have h1 : b * 2 ^ (k + 1) % 4294967296 = 0 := by rw [Nat.pow_succ, ← Nat.mul_assoc]; omega
    rw [tm_done a b hb j (k + 1) (by omega) h1]
    have h2 := top_bit (b := b) (k := k) rfl (by omega)
    rw [h0] at h2
    have h3 : b.testBit (31 - k) = false := by
      cases h : b.testBit (31 - k)
      · rfl
      · rw [h] at h2; simp at h2
    simp [tm, h3]
set_option maxHeartbeats 2000000 in
theorem times_any (a b : Nat) (w : World) (ha : a < 4294967296) (hb : b < 4294967296) : Calls Try.prog 14 #[.int .u32 (a : Int), .int .u32 (b : Int)] w fun e w' => e = .returned (.int .u32 (tm a b 32 : Int)) ∧ w = w' := by
  go_enter Try.func14, Try.ntmps14
  go_wp2_with fail
  go_loopg [0, 1, 5] 32 (fun g x y z wr => ∃ k : Nat, g + k = 32 ∧ x = .int .u32 (mvn k a : Int) ∧ y = .int .u32 ((b * 2 ^ k % 4294967296 : Nat) : Int) ∧ z = .int .u32 (tm a b k : Int) ∧ wr = w)
  case atStart => exact ⟨0, rfl, rfl, by rw [Nat.pow_zero, Nat.mul_one, Nat.mod_eq_of_lt hb], rfl, rfl⟩
  case round =>
    obtain ⟨k, hk, rfl, rfl, rfl, rfl⟩ := hrel
    have hA2 := mvn_lt k ha
    have hT := tm_lt b ha k
    have hdone := fun h => tm_done a b hb (32 - k) k (by omega) h
    have htop := fun h => top_bit (b := b) (k := k) rfl h
    have hT1 : tm a b (k + 1) = tm a b k ^^^ (if b.testBit (31 - k) then mvn k a else 0) := rfl
    have hA1 := mvn_snoc k a
    have hB1 : b * 2 ^ (k + 1) % 4294967296 = b * 2 ^ k % 4294967296 * 2 % 4294967296 := by rw [Nat.pow_succ, ← Nat.mul_assoc]; omega
    obtain ⟨B, hB⟩ : ∃ B, B = b * 2 ^ k % 4294967296 := ⟨_, rfl⟩
    obtain ⟨A, hA⟩ : ∃ A, A = mvn k a := ⟨_, rfl⟩
    obtain ⟨T, hT0⟩ : ∃ T, T = tm a b k := ⟨_, rfl⟩
    rw [← hB] at hdone htop hB1 ⊢
    rw [← hA] at hT1 hA1 hA2 ⊢
    rw [← hT0] at hT1 hT hdone ⊢
    have hB2 : B < 4294967296 := by omega
    have HM := Lib.hid (fun W => move_any A W hA2)
    have G1 := Lib.hid hT1
    have G2 := Lib.hid hA1
    have G3 := Lib.hid hB1
    rcases Nat.eq_zero_or_pos B with h0 | h0
    · have H := Lib.hid (hdone h0)
      have hd : ((B : Int) != 0) = false := by simp [h0]
      clear hdone htop hT1 hA1 hB1 hB hA hT0 h0
      go_wp2_with fail
      go_ret
      exact ⟨by rw [H.out]; rfl, rfl⟩
    · have hd : ((B : Int) != 0) = true := by simp; omega
      have hk31 : k ≤ 31 := by
        rcases Nat.lt_or_ge 31 k with h | h
        · have : k = 32 := by omega
          subst this
          omega
        · exact h
      have ht := htop hk31
      have hgk : gk = 31 - k + 1 := by omega
      cases hbit : b.testBit (31 - k)
      · have he : ((B : Int) / 2147483648 != 0) = false := by
          rw [hbit] at ht; simp at ht; simp; omega
        have G4 := Lib.hid hbit
        clear hdone htop hT1 hA1 hB1 hB hA hT0 h0 ht hbit hgk
        go_wp2_with (go_at_call 12; (with_reducible refine (HM.out _).mono ?_); rintro e w' ⟨rfl, rfl⟩)
        go_roundg (31 - k)
        case measure => omega
        case rel => exact ⟨k + 1, by omega, by rw [G2.out], by rw [G3.out]; simp, by rw [G1.out, G4.out]; simp, rfl⟩
      · have he : ((B : Int) / 2147483648 != 0) = true := by
          rw [hbit] at ht; simp at ht; simp; omega
        have G4 := Lib.hid hbit
        have hx : bits .xor .u32 (T : Int) (A : Int) = ((T ^^^ A : Nat) : Int) := u32_xor_nat _ _ hT hA2
        clear hdone htop hT1 hA1 hB1 hB hA hT0 h0 ht hbit hgk
        go_wp2_with (go_at_call 12; (with_reducible refine (HM.out _).mono ?_); rintro e w' ⟨rfl, rfl⟩)
        go_roundg (31 - k)
        case measure => omega
        case rel => exact ⟨k + 1, by omega, by rw [G2.out], by rw [G3.out]; simp, by rw [G1.out, G4.out]; simp, rfl⟩
end Go.Proofs.Ytfniickepoolkaa
