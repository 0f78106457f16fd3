/- Proved here: what package big's Bits and Small answer. Condition: numbers in any form that lie in memory. -/
import Derived.Test.YthmpkejdficmgaaDoorNr
namespace Go.Proofs.YthmpkejdficmgaaDoor
open Go.RowKit

/-- n is how many digits m has in base 2. -/
def IsBits (m n : Nat) : Prop := m < 2 ^ n ∧ (n = 0 ∨ 2 ^ (n - 1) ≤ m)
theorem IsBits.one {m a b : Nat} (h : IsBits m a) (h' : IsBits m b) : a = b := by
  rcases Nat.lt_trichotomy a b with h1 | h1 | h1
  · have h2 := h'.2.resolve_left (by omega)
    have h3 : 2 ^ a ≤ 2 ^ (b - 1) := Nat.pow_le_pow_right (by decide) (by omega)
    have := h.1
    omega
  · exact h1
  · have h2 := h.2.resolve_left (by omega)
    have h3 : 2 ^ b ≤ 2 ^ (a - 1) := Nat.pow_le_pow_right (by decide) (by omega)
    have := h'.1
    omega
theorem natAbs_sv (n : Bool) (x : Nat) : (sv n x).natAbs = x := by cases n <;> simp [sv]
theorem bits_top {xs : List Nat} (h : Eg xs) {k : Nat} (hk : xs.length = k + 1) (hn : dat xs k ≠ 0) : IsBits (dw xs) (k * 32 + Lib.bitLen (dat xs k)) := by
  have h0 : dat xs k < 4294967296 := h k
  obtain ⟨b1, b2, b3, b4⟩ := bl_spec (dat xs k) (by omega) (Nat.lt_trans h0 (by decide))
  have hv := dw_take_succ xs k
  rw [dw_take_all (by omega)] at hv
  have hlo := dw_take_lt h k
  have e : (4294967296 : Nat) ^ k = 2 ^ (k * 32) := by
    rw [show (4294967296 : Nat) = 2 ^ 32 by decide, ← Nat.pow_mul, Nat.mul_comm]
  change _ = _ + 4294967296 ^ k * dat xs k at hv
  rw [e] at hv hlo
  generalize Lib.bitLen (dat xs k) = L at *
  generalize dat xs k = d at *
  generalize dw (xs.take k) = lo at *
  refine ⟨?_, .inr ?_⟩
  · rw [hv, Nat.pow_add]
    have := Nat.mul_le_mul_left (2 ^ (k * 32)) (show d + 1 ≤ 2 ^ L by omega)
    rw [Nat.mul_add] at this
    omega
  · rw [hv, show k * 32 + L - 1 = k * 32 + (L - 1) by omega, Nat.pow_add]
    have := Nat.mul_le_mul_left (2 ^ (k * 32)) b1
    omega
def BitsE (x : Int) (w : World) (e : Ending) (w' : World) : Prop := ∃ n : Nat, e = .returned (.int .i64 (n : Int)) ∧ IsBits x.natAbs n ∧ Below w.heap.size w w'
set_option maxHeartbeats 1000000 in
set_option maxRecDepth 100000 in
theorem bits_any (X : Value) (x : Int) (l : Nat) (w : World) (hX : BigA w X x l) (hl : l ≤ 1000000) : Calls Tryd.prog 28 #[X] w (BitsE x w) := by
  obtain ⟨n, v, xs, rfl, hv, hx, hxl, rfl⟩ := hX
  obtain ⟨A, c, rfl⟩ := hv.slice
  obtain ⟨p, hp⟩ : ∃ p, p = xs.length := ⟨_, rfl⟩
  have hT := tr_le xs
  rw [← hp] at hv ⊢
  have HV := Lib.hid (hv.alloc (.cells #[.bool n, .slice A p c] 24))
  have HX := Lib.hid hx
  have hTl : tl xs ≤ 1000000 := by omega
  clear hv hx hxl hp hT hl
  rcases hk : tl xs with _ | k
  · have HZ := Lib.hid (show dw xs = 0 by rw [← tr_dw, top_zero32 (tr_top xs), ← List.length_eq_zero_iff, tr_len, hk])
    have HK := Lib.hid hk
    clear hk
    go_enter Tryd.func28, Tryd.ntmps28
    go_wp2_with (go_at_call 37; (with_reducible refine (trim32_w A p c xs _ HV.out).mono ?_); rintro e w1 ⟨rfl, rfl⟩; rw [HK.out])
    go_ret
    exact ⟨0, rfl, by rw [natAbs_sv, HZ.out]; exact ⟨by decide, .inl rfl⟩, bel_a w _⟩
  · have HK := Lib.hid hk
    rw [hk] at hTl
    have hlen : (tr xs).length = k + 1 := by rw [tr_len, hk]
    have hne := (tl_spec xs).2.2.resolve_left (by omega)
    rw [hk, Nat.add_sub_cancel] at hne
    have hdt : dat (tr xs) k = dat xs k := dat_take (by omega)
    have hB := bits_top (tr_eg HX.out) hlen (by rw [hdt]; exact hne)
    rw [tr_dw, hdt] at hB
    have HB := Lib.hid hB
    have hd : dat xs k < 4294967296 := HX.out k
    have HVt := Lib.hid HV.out.tr
    rw [hk] at HVt
    obtain ⟨ad, rfl, _, hcell⟩ := HVt.out.get k (by rw [hlen]; omega)
    rw [hdt] at hcell
    have HL := Lib.hid (fun w => Tryd.bits_Len32 (dat xs k : Int) w (by omega) (by omega))
    have hbl : Lib.bitLen (dat xs k) ≤ 32 := Lib.bitLen_le _ 32 (by decide) hd
    have hb : (((k : Int) + 1) == 0) = false := by simp; omega
    clear hk hlen hne hdt hB
    go_enter Tryd.func28, Tryd.ntmps28
    go_wp2_with (first | (go_at_call 37; (with_reducible refine (trim32_w (some ad) p c xs _ HV.out).mono ?_); rintro e w1 ⟨rfl, rfl⟩; rw [HK.out]) | (go_at_call 51; (with_reducible refine (HL.out _).mono ?_); rintro e w1 ⟨rfl, rfl⟩; rw [Int.toNat_natCast]))
    go_ret
    exact ⟨k * 32 + Lib.bitLen (dat xs k), ret_int (by simp), by rw [natAbs_sv]; exact HB.out, bel_a w _⟩
end Go.Proofs.YthmpkejdficmgaaDoor
