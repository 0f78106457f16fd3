/- Proved here: what package big's Small and Div answer and leave in memory. Condition: numbers in any form that lie in memory. -/
import Derived.Test.YthmpkejdficmgaaDoorNs
namespace Go.Proofs.YthmpkejdficmgaaDoor
open Go.RowKit

/-- What Small answers of x: x and true, or 0 and false where x doesn't fit. -/
def SmallE (x : Int) (w : World) (e : Ending) (w' : World) : Prop := ∃ (m : Int) (b : Bool), e = .returned (.tuple #[.int .i64 m, .bool b]) ∧ ((b = true ∧ m = x ∧ -9223372036854775808 ≤ x ∧ x ≤ 9223372036854775807) ∨ (b = false ∧ m = 0 ∧ ¬ (-9223372036854775808 ≤ x ∧ x ≤ 9223372036854775807))) ∧ Below w.heap.size w w'
theorem SmallE.yes {x m : Int} {w w' : World} (h : m = x) (h1 : -9223372036854775808 ≤ x) (h2 : x ≤ 9223372036854775807) (hb : Below w.heap.size w w') : SmallE x w (.returned (.tuple #[.int .i64 m, .bool true])) w' := ⟨m, true, rfl, .inl ⟨rfl, h, h1, h2⟩, hb⟩
theorem SmallE.no {x : Int} {w w' : World} (h : ¬ (-9223372036854775808 ≤ x ∧ x ≤ 9223372036854775807)) (hb : Below w.heap.size w w') : SmallE x w (.returned (.tuple #[.int .i64 0, .bool false])) w' := ⟨0, false, rfl, .inr ⟨rfl, rfl, h⟩, hb⟩
theorem tl_two {xs : List Nat} (h2 : tl xs ≤ 2) : dw xs = dat (tr xs) 0 + dat (tr xs) 1 * 4294967296 := by
  have e : dw (tr xs) = dw xs := tr_dw xs
  have h3 := dw_take_succ (tr xs) 0
  have h4 := dw_take_succ (tr xs) 1
  rw [dw_take_all (by rw [tr_len]; omega)] at h4
  simp [dw] at h3
  rw [h3] at h4
  simp at h4
  rw [← e]
  unfold dat
  simp
  omega
theorem tl_three {xs : List Nat} (h2 : ¬ tl xs ≤ 2) : 18446744073709551616 ≤ dw xs := by
  have hl : (tr xs).length = tl xs := tr_len xs
  have h1 := top_ge32 (tr_top xs) (by intro h; rw [h] at hl; simp at hl; omega)
  rw [tr_dw] at h1
  have h3 : 4294967296 ^ 2 ≤ 4294967296 ^ ((tr xs).length - 1) := Nat.pow_le_pow_right (by decide) (by omega)
  have : (4294967296 : Nat) ^ 2 = 18446744073709551616 := by decide
  omega
theorem neg_back {m : Nat} (h : m ≤ 9223372036854775808) : wrap64 (IntKind.u64.wrap (-(m : Int))) = -(m : Int) := by
  rw [wrap_u64m]
  unfold wrap64
  omega
theorem at32_lit0 (v : Value) (xs : List Nat) (w : World) (h : Arr w .u32 v xs) : Calls Tryd.prog 49 #[v, .int .i64 0] w fun e w' => e = .returned (.int .u32 (dat xs 0 : Int)) ∧ w = w' := at32_any v xs 0 w h
theorem at32_lit1 (v : Value) (xs : List Nat) (w : World) (h : Arr w .u32 v xs) : Calls Tryd.prog 49 #[v, .int .i64 1] w fun e w' => e = .returned (.int .u32 (dat xs 1 : Int)) ∧ w = w' := at32_any v xs 1 w h
set_option maxHeartbeats 1000000 in
set_option maxRecDepth 100000 in
theorem small_any (X : Value) (x : Int) (l : Nat) (w : World) (hX : BigA w X x l) : Calls Tryd.prog 24 #[X] w (SmallE x w) := by
  obtain ⟨n, v, xs, rfl, hv, hx, hxl, rfl⟩ := hX
  obtain ⟨A, c, rfl⟩ := hv.slice
  obtain ⟨p, hp⟩ : ∃ p, p = xs.length := ⟨_, rfl⟩
  rw [← hp] at hv ⊢
  have HV := Lib.hid (hv.alloc (.cells #[.bool n, .slice A p c] 24))
  have HB := Lib.hid (bel_a w (.cells #[.bool n, .slice A p c] 24))
  have HX := Lib.hid hx
  clear hv hx hxl hp
  by_cases h2 : tl xs ≤ 2
  · have hv := tl_two h2
    have hA : dat (tr xs) 0 < 4294967296 := tr_eg HX.out 0
    have hB : dat (tr xs) 1 < 4294967296 := tr_eg HX.out 1
    obtain ⟨a, ha⟩ : ∃ a, a = dat (tr xs) 0 := ⟨_, rfl⟩
    obtain ⟨b, hb⟩ : ∃ b, b = dat (tr xs) 1 := ⟨_, rfl⟩
    have HVt := Lib.hid HV.out.tr
    have c0 := Lib.hid (fun w h => at32_lit0 (.slice A (tl xs) c) (tr xs) w h)
    have c1 := Lib.hid (fun w h => at32_lit1 (.slice A (tl xs) c) (tr xs) w h)
    rw [← ha] at c0 hA hv
    rw [← hb] at c1 hB hv
    obtain ⟨m, hm⟩ : ∃ m, m = a + b * 4294967296 := ⟨_, rfl⟩
    have F : bits .or .u64 ((b : Int) * 4294967296) (a : Int) = (m : Int) := by
      have e1 : (b : Int) * 4294967296 = ((2 ^ 32 * b : Nat) : Int) := by simp; omega
      rw [e1, bits_or_u64_nat _ _ (by omega) (by omega), ← Nat.two_pow_add_eq_or_of_lt (by omega : a < 2 ^ 32), hm]
      simp; omega
    have HM := Lib.hid (show dw xs = m by omega)
    have hml : m < 18446744073709551616 := by omega
    have HML := Lib.hid hml
    clear hm ha hb hv hml
    cases n
    · by_cases hle : m ≤ 9223372036854775807
      · go_enter Tryd.func24, Tryd.ntmps24
        go_wp2_with (first | (go_at_call 37; (with_reducible refine (trim32_w A p c xs _ HV.out).mono ?_); rintro e w1 ⟨rfl, rfl⟩) | (go_at_call 49; (with_reducible refine (c1.out _ HVt.out).mono ?_); rintro e w1 ⟨rfl, rfl⟩) | (go_at_call 49; (with_reducible refine (c0.out _ HVt.out).mono ?_); rintro e w1 ⟨rfl, rfl⟩))
        go_ret2
        exact SmallE.yes (by rw [HM.out]; rfl) (by rw [HM.out, sv_false]; omega) (by rw [HM.out, sv_false]; omega) HB.out
      · go_enter Tryd.func24, Tryd.ntmps24
        go_wp2_with (first | (go_at_call 37; (with_reducible refine (trim32_w A p c xs _ HV.out).mono ?_); rintro e w1 ⟨rfl, rfl⟩) | (go_at_call 49; (with_reducible refine (c1.out _ HVt.out).mono ?_); rintro e w1 ⟨rfl, rfl⟩) | (go_at_call 49; (with_reducible refine (c0.out _ HVt.out).mono ?_); rintro e w1 ⟨rfl, rfl⟩))
        all_goals
          go_ret2
          exact SmallE.no (by rw [HM.out, sv_false]; omega) HB.out
    · by_cases hle2 : m ≤ 9223372036854775808
      · by_cases hle : m ≤ 9223372036854775807
        all_goals
          go_enter Tryd.func24, Tryd.ntmps24
          go_wp2_with (first | (go_at_call 37; (with_reducible refine (trim32_w A p c xs _ HV.out).mono ?_); rintro e w1 ⟨rfl, rfl⟩) | (go_at_call 49; (with_reducible refine (c1.out _ HVt.out).mono ?_); rintro e w1 ⟨rfl, rfl⟩) | (go_at_call 49; (with_reducible refine (c0.out _ HVt.out).mono ?_); rintro e w1 ⟨rfl, rfl⟩))
          go_ret2
          exact SmallE.yes (by rw [HM.out, sv_true]; exact neg_back hle2) (by rw [HM.out, sv_true]; omega) (by rw [HM.out, sv_true]; omega) HB.out
      · have hle : ¬ m ≤ 9223372036854775807 := by omega
        go_enter Tryd.func24, Tryd.ntmps24
        go_wp2_with (first | (go_at_call 37; (with_reducible refine (trim32_w A p c xs _ HV.out).mono ?_); rintro e w1 ⟨rfl, rfl⟩) | (go_at_call 49; (with_reducible refine (c1.out _ HVt.out).mono ?_); rintro e w1 ⟨rfl, rfl⟩) | (go_at_call 49; (with_reducible refine (c0.out _ HVt.out).mono ?_); rintro e w1 ⟨rfl, rfl⟩))
        go_ret2
        exact SmallE.no (by rw [HM.out, sv_true]; omega) HB.out
  · have h3 := tl_three h2
    have HN := Lib.hid (show ¬ (-9223372036854775808 ≤ sv n (dw xs) ∧ sv n (dw xs) ≤ 9223372036854775807) by cases n <;> simp [sv] <;> omega)
    clear h3
    go_enter Tryd.func24, Tryd.ntmps24
    go_wp2_with (go_at_call 37; (with_reducible refine (trim32_w A p c xs _ HV.out).mono ?_); rintro e w1 ⟨rfl, rfl⟩)
    go_ret2
    exact SmallE.no HN.out HB.out
end Go.Proofs.YthmpkejdficmgaaDoor
