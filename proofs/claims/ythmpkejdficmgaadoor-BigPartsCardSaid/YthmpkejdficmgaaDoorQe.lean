/- Proved here: what the reference package's Same and Bits answer. Condition: numbers in their one form that lie in memory. -/
import Derived.Test.YthmpkejdficmgaaDoorQd
namespace Go.Proofs.YthmpkejdficmgaaDoor
open Go.RowKit

set_option maxHeartbeats 2000000 in
set_option maxRecDepth 100000 in
theorem same_core (n : Bool) (v u : Value) (xs ys : List Nat) (w : World) (hv : Arr w .u32 v xs) (hu : Arr w .u32 u ys) (hl : xs.length = ys.length) (hd : ∀ j, dat xs j = dat ys j) (hxl : xs.length ≤ 1000000) :
    Calls Tryd.prog 10 #[.agg #[.bool n, v], .agg #[.bool n, u]] w fun e w' => e = .returned (.bool true) ∧ Below w.heap.size w w' := by
  obtain ⟨A, c, rfl⟩ := hv.slice
  obtain ⟨B, d, rfl⟩ := hu.slice
  obtain ⟨p, hp⟩ : ∃ p, p = xs.length := ⟨_, rfl⟩
  rw [← hp] at hv hl hxl
  rw [← hl] at hu
  rw [← hl, ← hp]
  have hb0 : Below w.heap.size w ((w.alloc (.cells #[.bool n, .slice A p c] 24)).alloc (.cells #[.bool n, .slice B p d] 24)) := (bel_a w _).alloc (by simp) _
  have HB := Lib.hid hb0
  have HV := Lib.hid (hv.bel hb0)
  have HU := Lib.hid (hu.bel hb0)
  have HX1 := Lib.hid ((Bx.new 24 w n (.slice A p c)).alloc (.cells #[.bool n, .slice B p d] 24))
  have HX2 := Lib.hid (show Bx 24 ((w.alloc (.cells #[.bool n, .slice A p c] 24)).alloc (.cells #[.bool n, .slice B p d] 24)) (w.heap.size + 1) n (.slice B p d) by simpa using Bx.new 24 (w.alloc (.cells #[.bool n, .slice A p c] 24)) n (.slice B p d))
  have HP := Lib.hid (And.intro hp hl)
  have HD := Lib.hid hd
  clear hv hu hb0 hp hl hd
  go_enter Tryd.func10, Tryd.ntmps10
  go_wp2_with fail
  obtain ⟨W0, hW0⟩ : ∃ W0, W0 = ((w.alloc (.cells #[.bool n, .slice A p c] 24)).alloc (.cells #[.bool n, .slice B p d] 24)) := ⟨_, rfl⟩
  rw [← hW0] at HB HV HU HX1 HX2 ⊢
  clear hW0
  go_loopw [5] (fun i wr => ∃ k : Nat, i = .int .i64 (k : Int) ∧ k ≤ p ∧ ∃ nd, wr = W0.drewN nd) (fun i _ => p - (intOf i).toNat)
  case atStart => exact ⟨0, rfl, Nat.zero_le _, 0, rfl⟩
  case round =>
    obtain ⟨k, rfl, hk, nd, hwr⟩ := hrel
    have HW := Lib.hid hwr
    have f1 : wr.cell? ⟨w.heap.size, 1, none⟩ = some (.slice A p c) := by rw [hwr]; exact HX1.out.c1
    have f2 : wr.cell? ⟨w.heap.size + 1, 1, none⟩ = some (.slice B p d) := by rw [hwr]; exact HX2.out.c1
    clear hwr
    by_cases hgo : k < p
    · have HVr := Lib.hid (show Arr wr .u32 (.slice A p c) xs by rw [HW.out]; exact HV.out.drewN nd)
      have HUr := Lib.hid (show Arr wr .u32 (.slice B p d) ys by rw [HW.out]; exact HU.out.drewN nd)
      obtain ⟨ad, rfl, _, hx1⟩ := HVr.out.get k (by rw [← HP.out.1]; exact hgo)
      obtain ⟨bd, rfl, _, hx2⟩ := HUr.out.get k (by rw [← HP.out.2]; exact hgo)
      rw [← HD.out k] at hx2
      go_wp2_with fail
      go_quiet (fail)
      go_wp2_with fail
      exact ⟨⟨k + 1, by simp, by omega, nd + nq, by rw [HW.out, World.drewN_drewN]⟩, by simp [intOf]; omega⟩
    · go_wp2_with fail
      go_ret
      exact ⟨rfl, by rw [HW.out]; exact below_drewN HB.out nd⟩
theorem same_any (X Y : Value) (x : Int) (l k : Nat) (w : World) (hX : BigC w X x l) (hY : BigC w Y x k) (hl : l ≤ 1000000) : Calls Tryd.prog 10 #[X, Y] w fun e w' => e = .returned (.bool true) ∧ Below w.heap.size w w' := by
  obtain ⟨n, v, xs, rfl, hv, hx, hcx, hxl, hvx⟩ := hX
  obtain ⟨m, u, ys, rfl, hu, hy, hcy, hyl, hvy⟩ := hY
  obtain ⟨h1, h2, h3⟩ := can32 hcx hcy hx hy (hvx.trans hvy.symm)
  subst h1
  exact same_core n v u xs ys w hv hu h2 h3 (by omega)
/-- The digit in base 2 of a number's digits. -/
theorem bit_dat {xs : List Nat} (h : Dg xs) (i : Nat) : dat xs (i / 16) / 2 ^ (i % 16) % 2 = dv xs / 2 ^ i % 2 := by
  have h1 : dat xs (i / 16) = dv xs / 65536 ^ (i / 16) % 65536 := (dv_digit h (i / 16)).symm
  have hm : ∀ X b, b < 16 → X % 65536 / 2 ^ b % 2 = X / 2 ^ b % 2 := by
    intro X b hb
    have : b = 0 ∨ b = 1 ∨ b = 2 ∨ b = 3 ∨ b = 4 ∨ b = 5 ∨ b = 6 ∨ b = 7 ∨ b = 8 ∨ b = 9 ∨ b = 10 ∨ b = 11 ∨ b = 12 ∨ b = 13 ∨ b = 14 ∨ b = 15 := by omega
    rcases this with rfl | rfl | rfl | rfl | rfl | rfl | rfl | rfl | rfl | rfl | rfl | rfl | rfl | rfl | rfl | rfl <;> omega
  rw [h1, hm _ _ (Nat.mod_lt _ (by decide)), show 65536 = 2 ^ 16 from rfl, ← Nat.pow_mul, Nat.div_div_eq_div_mul, ← Nat.pow_add, Nat.div_add_mod]
theorem bits_none {x n : Nat} (h : x < 2 ^ (n + 1)) (h0 : x / 2 ^ n % 2 = 0) : x < 2 ^ n := by
  rw [Nat.pow_succ] at h
  have h2 : x / 2 ^ n < 2 := by rw [Nat.div_lt_iff_lt_mul (Nat.two_pow_pos n), Nat.mul_comm]; exact h
  have h3 : x / 2 ^ n = 0 := by
    generalize x / 2 ^ n = t at *
    omega
  rcases Nat.lt_or_ge x (2 ^ n) with h4 | h4
  · exact h4
  · have := Nat.div_pos h4 (Nat.two_pow_pos n)
    rw [h3] at this
    exact absurd this (by decide)
theorem bits_some {x n : Nat} (h1 : x / 2 ^ n % 2 ≠ 0) : 2 ^ n ≤ x := by
  rcases Nat.lt_or_ge x (2 ^ n) with h | h
  · rw [Nat.div_eq_of_lt h] at h1
    exact absurd rfl h1
  · exact h
theorem bit_eq (x k : Nat) : ((x : Int) / 2 ^ k).tmod 2 = ((x / 2 ^ k % 2 : Nat) : Int) := by
  have h : (x : Int) / 2 ^ k = ((x / 2 ^ k : Nat) : Int) := by simp
  rw [h, Int.tmod_eq_emod_of_nonneg (Int.natCast_nonneg _)]
  simp
set_option maxHeartbeats 2000000 in
set_option maxRecDepth 100000 in
theorem rbits_any (X : Value) (x : Int) (l : Nat) (w : World) (hX : NumC w X x l) (hl : l ≤ 1000000) : Calls Tryd.prog 29 #[X] w (BitsE x w) := by
  obtain ⟨b, v, xs, rfl, hv, hx, hcx, hxl, rfl⟩ := hX
  obtain ⟨A, c, rfl⟩ := hv.slice
  obtain ⟨p, hp⟩ : ∃ p, p = xs.length := ⟨_, rfl⟩
  have hpl : p ≤ 1000000 := by omega
  rw [← hp] at hv ⊢
  have HV := Lib.hid (hv.alloc (.cells #[.bool b, .slice A p c] 28))
  have HX := Lib.hid hx
  have HP := Lib.hid hp
  have HS := Lib.hid (show dv xs < 2 ^ (16 * p) by rw [hp, show (2 : Nat) ^ (16 * xs.length) = 65536 ^ xs.length by rw [Nat.pow_mul]]; exact dv_lt hx)
  have HN := Lib.hid (natAbs_sv b (dv xs))
  clear hv hx hxl hcx hp hl
  go_enter Tryd.func29, Tryd.ntmps29
  go_wp2_with fail
  go_loop [3] (fun i => ∃ n : Nat, i = .int .i64 (n : Int) ∧ n ≤ 16 * p ∧ dv xs < 2 ^ n) (fun i => (intOf i).toNat)
  case atStart => exact ⟨16 * p, by simp, Nat.le_refl _, HS.out⟩
  case round =>
    obtain ⟨n, rfl, hn, hlt⟩ := hrel
    have HL := Lib.hid hlt
    clear hlt
    rcases n with _ | n
    · go_wp2_with fail
      go_ret
      exact ⟨0, rfl, by rw [HN.out]; exact ⟨HL.out, .inl rfl⟩, bel_a w _⟩
    · obtain ⟨q, hq⟩ : ∃ q, q = n / 16 := ⟨_, rfl⟩
      obtain ⟨r, hr⟩ : ∃ r, r = n % 16 := ⟨_, rfl⟩
      have hqp : q < p := by omega
      have hr16 : r < 16 := by omega
      obtain ⟨ad, rfl, _, hca⟩ := HV.out.get q (by rw [← HP.out]; exact hqp)
      have hbit := bit_dat HX.out n
      rw [← hq, ← hr] at hbit
      have hdd : dat xs q < 65536 := HX.out q
      have F1 : (n : Int) / 16 = (q : Int) := by omega
      have F2 : (n : Int) % 16 = (r : Int) := by omega
      obtain ⟨t, ht⟩ : ∃ t, t = dv xs / 2 ^ n % 2 := ⟨_, rfl⟩
      have F3 : ((dat xs q : Int) / 2 ^ r).tmod 2 = (t : Int) := by rw [bit_eq, hbit, ht]
      have HT := Lib.hid ht
      clear hq hr hbit ht
      by_cases h0 : t = 0
      · have HL2 := Lib.hid (bits_none HL.out (by rw [← HT.out]; exact h0))
        have hb : ((t : Int) == 0) = true := by simp [h0]
        clear h0
        go_wp2_with fail
        exact ⟨⟨n, rfl, by omega, HL2.out⟩, by simp [intOf]⟩
      · have HL2 := Lib.hid (bits_some (n := n) (x := dv xs) (by rw [← HT.out]; exact h0))
        have hb : ((t : Int) == 0) = false := by simp; omega
        clear h0
        go_wp2_with fail
        go_ret
        exact ⟨n + 1, rfl, by rw [HN.out]; exact ⟨HL.out, .inr (by simpa using HL2.out)⟩, bel_a w _⟩
end Go.Proofs.YthmpkejdficmgaaDoor
