/- Proved here: what package big's Add answers of numbers with unlike signs, and then of all; Sub; Sign. Condition: numbers in any form, of at most 100000 digits, that lie in memory. -/
import Derived.Test.YthmpkejdficmgaaDoorNl
namespace Go.Proofs.YthmpkejdficmgaaDoor
open Go.RowKit

set_option maxHeartbeats 2000000 in
set_option maxRecDepth 100000 in
theorem add_less (n : Bool) (v u : Value) (xs ys : List Nat) (w : World) (hv : Arr w .u32 v xs) (hu : Arr w .u32 u ys) (hx : Eg xs) (hy : Eg ys) (hxl : xs.length ≤ 100000) (hyl : ys.length ≤ 100000) (hle : dw xs < dw ys) :
    Calls Tryd.prog 11 #[.agg #[.bool n, v], .agg #[.bool (!n), u]] w (BigE (sv n (dw xs) + sv (!n) (dw ys)) (max xs.length ys.length + 1) w) := by
  obtain ⟨A, c, rfl⟩ := hv.slice
  obtain ⟨B, d, rfl⟩ := hu.slice
  obtain ⟨m, hm⟩ : ∃ m, m = xs.length := ⟨_, rfl⟩
  obtain ⟨k, hk⟩ : ∃ k, k = ys.length := ⟨_, rfl⟩
  rw [← hm] at hv
  rw [← hk] at hu
  have HV := Lib.hid hv
  have HU := Lib.hid hu
  have HX := Lib.hid (And.intro (And.intro hx (show (tr xs).length ≤ 100000 by rw [tr_len]; exact Nat.le_trans (tr_le xs) hxl)) (And.intro hy (show (tr ys).length ≤ 100000 by rw [tr_len]; exact Nat.le_trans (tr_le ys) hyl)))
  have HM := Lib.hid (And.intro hm hk)
  have HLE := Lib.hid hle
  have hnn : (n == !n) = false := by cases n <;> rfl
  rw [← hm, ← hk]
  clear hm hk hv hu hx hy hxl hyl hle
  go_enter Tryd.func11, Tryd.ntmps11
  go_wp2_with fail
  obtain ⟨W0, hW0⟩ : ∃ W0, W0 = (((w.alloc (.cells #[.bool n, .slice A m c] 24)).alloc (.cells #[.bool (!n), .slice B k d] 24)).alloc (.cells #[.bool false, .slice none 0 0] 24)) := ⟨_, rfl⟩
  rw [← hW0]
  have HX0 := Lib.hid (hW0 ▸ B3.start 24 w n (.slice A m c) (!n) (.slice B k d))
  clear hW0
  obtain ⟨f1, f2, f3, f4, f5, f6, f7, f8⟩ := HX0.out.facts
  have HV0 := Lib.hid (HV.out.bel HX0.out.bel)
  have HU0 := Lib.hid (HU.out.bel HX0.out.bel)
  go_quiet ((first | (go_at_call 37; with_reducible exact Calls.quiet_of_same (trim32_q A m c xs _ (HV0.out.drewN _))) | (go_at_call 37; with_reducible exact Calls.quiet_of_same (trim32_q B k d ys _ (HU0.out.drewN _)))))
  obtain ⟨W1, hW1⟩ : ∃ W1, W1 = W0.drewN nq := ⟨_, rfl⟩
  have HX1 := Lib.hid (show B3 24 w W1 n (.slice A m c) (!n) (.slice B k d) by rw [hW1]; exact HX0.out.drewN nq)
  have HV1 := Lib.hid (show Arr W1 .u32 (.slice A (tl xs) c) (tr xs) by rw [hW1]; exact (HV0.out.drewN nq).tr)
  have HU1 := Lib.hid (show Arr W1 .u32 (.slice B (tl ys) d) (tr ys) by rw [hW1]; exact (HU0.out.drewN nq).tr)
  rw [← hW1]
  clear hW1 HX0 HV0 HU0 f1 f2 f3 f4 f5 f6 f7 f8
  obtain ⟨f1, f2, f3, f4, f5, f6, f7, f8⟩ := HX1.out.facts
  have HC := Lib.hid (show cmpI (dw (tr xs)) (dw (tr ys)) = -1 from cmpI_lt (by rw [tr_dw, tr_dw]; have := HLE.out; omega))
  go_wp2_with (go_at_call 40; (with_reducible refine (compare_any (.slice A (tl xs) c) (.slice B (tl ys) d) (tr xs) (tr ys) W1 HV1.out HU1.out (tr_eg HX.out.1.1) (tr_eg HX.out.2.1) (tr_top xs) (tr_top ys) (Nat.le_trans HX.out.1.2 (by decide))).mono ?_); rintro e w' ⟨he, n1, rfl⟩; rw [HC.out] at he; subst he)
  obtain ⟨W2, hW2⟩ : ∃ W2, W2 = W1.drewN n1 := ⟨_, rfl⟩
  have HX2' := Lib.hid (show B3 24 w W2 n (.slice A m c) (!n) (.slice B k d) by rw [hW2]; exact HX1.out.drewN n1)
  have HV2 := Lib.hid (show Arr W2 .u32 (.slice A (tl xs) c) (tr xs) by rw [hW2]; exact HV1.out.drewN n1)
  have HU2 := Lib.hid (show Arr W2 .u32 (.slice B (tl ys) d) (tr ys) by rw [hW2]; exact HU1.out.drewN n1)
  rw [← hW2]
  clear hW2 HX1 HV1 HU1 f1 f2 f3 f4 f5 f6 f7 f8
  obtain ⟨f1, f2, f3, f4, f5, f6, f7, f8⟩ := HX2'.out.facts
  go_region_with (first
    | (go_at_call 41; (with_reducible refine (minus32_any (.slice B (tl ys) d) (.slice A (tl xs) c) (tr ys) (tr xs) _ HU2.out.drew HV2.out.drew (tr_eg HX.out.2.1) (tr_eg HX.out.1.1) HX.out.2.2 (by rw [tr_dw, tr_dw]; exact Nat.le_of_lt HLE.out)).mono ?_); rintro e w2 ⟨z, zs, rfl, hz1, hz2, hz3, hz4, hb⟩; have HX2 := Lib.hid (HX2'.out.drew.next hb); have HZ := Lib.hid (And.intro hz1 (And.intro hz2 (And.intro hz3 hz4))); clear hz1 hz2 hz3 hz4 hb f1 f2 f3 f4 f5 f6 f7 f8; obtain ⟨f1, f2, f3, f4, f5, f6, f7, f8⟩ := HX2.out.facts)
    | (go_at_call 38; (with_reducible refine (form_parts (!n) z zs w2 HZ.out.1 HZ.out.2.1).mono ?_); rintro e w3 ⟨b, C, p, q, ss, rfl, hs, hb⟩; have HX3 := Lib.hid (HX2.out.next hb); have HS := Lib.hid hs; clear hs hb f1 f2 f3 f4 f5 f6 f7 f8; obtain ⟨f1, f2, f3, f4, f5, f6, f7, f8⟩ := HX3.out.facts))
  all_goals
    go_wp2_with fail
    exact bodyPost_ret (ret_bx24 rfl rfl (HX3.out.fin b _)) rfl (big_fin HX3.out HS.out (by rw [HZ.out.2.2.1, tr_dw, tr_dw, sv_add_diff (n := !n) (m := n) (by cases n <;> decide) (Nat.le_of_lt HLE.out), Int.add_comm]) (by have h := HZ.out.2.2.2; rw [tr_len] at h; rw [HM.out.1, HM.out.2]; have := tr_le xs; have := tr_le ys; omega))
set_option maxHeartbeats 2000000 in
set_option maxRecDepth 100000 in
theorem add_geq (n : Bool) (v u : Value) (xs ys : List Nat) (w : World) (hv : Arr w .u32 v xs) (hu : Arr w .u32 u ys) (hx : Eg xs) (hy : Eg ys) (hxl : xs.length ≤ 100000) (hyl : ys.length ≤ 100000) (hle : dw ys ≤ dw xs) :
    Calls Tryd.prog 11 #[.agg #[.bool n, v], .agg #[.bool (!n), u]] w (BigE (sv n (dw xs) + sv (!n) (dw ys)) (max xs.length ys.length + 1) w) := by
  obtain ⟨A, c, rfl⟩ := hv.slice
  obtain ⟨B, d, rfl⟩ := hu.slice
  obtain ⟨m, hm⟩ : ∃ m, m = xs.length := ⟨_, rfl⟩
  obtain ⟨k, hk⟩ : ∃ k, k = ys.length := ⟨_, rfl⟩
  rw [← hm] at hv
  rw [← hk] at hu
  have HV := Lib.hid hv
  have HU := Lib.hid hu
  have HX := Lib.hid (And.intro (And.intro hx (show (tr xs).length ≤ 100000 by rw [tr_len]; exact Nat.le_trans (tr_le xs) hxl)) (And.intro hy (show (tr ys).length ≤ 100000 by rw [tr_len]; exact Nat.le_trans (tr_le ys) hyl)))
  have HM := Lib.hid (And.intro hm hk)
  have HLE := Lib.hid hle
  have hnn : (n == !n) = false := by cases n <;> rfl
  rw [← hm, ← hk]
  clear hm hk hv hu hx hy hxl hyl hle
  go_enter Tryd.func11, Tryd.ntmps11
  go_wp2_with fail
  obtain ⟨W0, hW0⟩ : ∃ W0, W0 = (((w.alloc (.cells #[.bool n, .slice A m c] 24)).alloc (.cells #[.bool (!n), .slice B k d] 24)).alloc (.cells #[.bool false, .slice none 0 0] 24)) := ⟨_, rfl⟩
  rw [← hW0]
  have HX0 := Lib.hid (hW0 ▸ B3.start 24 w n (.slice A m c) (!n) (.slice B k d))
  clear hW0
  obtain ⟨f1, f2, f3, f4, f5, f6, f7, f8⟩ := HX0.out.facts
  have HV0 := Lib.hid (HV.out.bel HX0.out.bel)
  have HU0 := Lib.hid (HU.out.bel HX0.out.bel)
  go_quiet ((first | (go_at_call 37; with_reducible exact Calls.quiet_of_same (trim32_q A m c xs _ (HV0.out.drewN _))) | (go_at_call 37; with_reducible exact Calls.quiet_of_same (trim32_q B k d ys _ (HU0.out.drewN _)))))
  obtain ⟨W1, hW1⟩ : ∃ W1, W1 = W0.drewN nq := ⟨_, rfl⟩
  have HX1 := Lib.hid (show B3 24 w W1 n (.slice A m c) (!n) (.slice B k d) by rw [hW1]; exact HX0.out.drewN nq)
  have HV1 := Lib.hid (show Arr W1 .u32 (.slice A (tl xs) c) (tr xs) by rw [hW1]; exact (HV0.out.drewN nq).tr)
  have HU1 := Lib.hid (show Arr W1 .u32 (.slice B (tl ys) d) (tr ys) by rw [hW1]; exact (HU0.out.drewN nq).tr)
  rw [← hW1]
  clear hW1 HX0 HV0 HU0 f1 f2 f3 f4 f5 f6 f7 f8
  obtain ⟨f1, f2, f3, f4, f5, f6, f7, f8⟩ := HX1.out.facts
  obtain ⟨cv, hcv⟩ : ∃ cv : Int, cv = cmpI (dw (tr xs)) (dw (tr ys)) := ⟨_, rfl⟩
  have hcv0 : ¬ cv < 0 := by
    rw [hcv, tr_dw, tr_dw]
    have := HLE.out
    rcases Nat.lt_or_ge (dw ys) (dw xs) with h | h
    · rw [cmpI_gt (by omega)]; omega
    · rw [cmpI_eq (by omega)]; omega
  have HC := Lib.hid hcv
  clear hcv
  go_wp2_with (go_at_call 40; (with_reducible refine (compare_any (.slice A (tl xs) c) (.slice B (tl ys) d) (tr xs) (tr ys) W1 HV1.out HU1.out (tr_eg HX.out.1.1) (tr_eg HX.out.2.1) (tr_top xs) (tr_top ys) (Nat.le_trans HX.out.1.2 (by decide))).mono ?_); rintro e w' ⟨he, n1, rfl⟩; rw [← HC.out] at he; subst he)
  obtain ⟨W2, hW2⟩ : ∃ W2, W2 = W1.drewN n1 := ⟨_, rfl⟩
  have HX2' := Lib.hid (show B3 24 w W2 n (.slice A m c) (!n) (.slice B k d) by rw [hW2]; exact HX1.out.drewN n1)
  have HV2 := Lib.hid (show Arr W2 .u32 (.slice A (tl xs) c) (tr xs) by rw [hW2]; exact HV1.out.drewN n1)
  have HU2 := Lib.hid (show Arr W2 .u32 (.slice B (tl ys) d) (tr ys) by rw [hW2]; exact HU1.out.drewN n1)
  rw [← hW2]
  clear hW2 HX1 HV1 HU1 f1 f2 f3 f4 f5 f6 f7 f8
  obtain ⟨f1, f2, f3, f4, f5, f6, f7, f8⟩ := HX2'.out.facts
  go_region_with (first
    | (go_at_call 41; (with_reducible refine (minus32_any (.slice A (tl xs) c) (.slice B (tl ys) d) (tr xs) (tr ys) _ HV2.out.drew HU2.out.drew (tr_eg HX.out.1.1) (tr_eg HX.out.2.1) HX.out.1.2 (by rw [tr_dw, tr_dw]; exact HLE.out)).mono ?_); rintro e w2 ⟨z, zs, rfl, hz1, hz2, hz3, hz4, hb⟩; have HX2 := Lib.hid (HX2'.out.drew.next hb); have HZ := Lib.hid (And.intro hz1 (And.intro hz2 (And.intro hz3 hz4))); clear hz1 hz2 hz3 hz4 hb f1 f2 f3 f4 f5 f6 f7 f8; obtain ⟨f1, f2, f3, f4, f5, f6, f7, f8⟩ := HX2.out.facts)
    | (go_at_call 38; (with_reducible refine (form_parts n z zs w2 HZ.out.1 HZ.out.2.1).mono ?_); rintro e w3 ⟨b, C, p, q, ss, rfl, hs, hb⟩; have HX3 := Lib.hid (HX2.out.next hb); have HS := Lib.hid hs; clear hs hb f1 f2 f3 f4 f5 f6 f7 f8; obtain ⟨f1, f2, f3, f4, f5, f6, f7, f8⟩ := HX3.out.facts))
  all_goals
    go_wp2_with fail
    exact bodyPost_ret (ret_bx24 rfl rfl (HX3.out.fin b _)) rfl (big_fin HX3.out HS.out (by rw [HZ.out.2.2.1, tr_dw, tr_dw, sv_add_diff (n := n) (m := !n) (by cases n <;> decide) HLE.out]) (by have h := HZ.out.2.2.2; rw [tr_len] at h; rw [HM.out.1, HM.out.2]; have := tr_le xs; have := tr_le ys; omega))
end Go.Proofs.YthmpkejdficmgaaDoor
