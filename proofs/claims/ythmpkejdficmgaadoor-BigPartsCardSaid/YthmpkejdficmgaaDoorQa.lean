/- Proved here: what the reference package's Add answers and leaves in memory. Condition: numbers in their one form, of at most 100000 digits, that lie in memory. -/
import Derived.Test.YthmpkejdficmgaaDoorNv
namespace Go.Proofs.YthmpkejdficmgaaDoor
open Go.RowKit

set_option maxHeartbeats 2000000 in
set_option maxRecDepth 100000 in
theorem radd_same (n : Bool) (v u : Value) (xs ys : List Nat) (w : World) (hv : Arr w .u64 v xs) (hu : Arr w .u64 u ys) (hx : Dg xs) (hy : Dg ys) (hxl : xs.length ≤ 100000) (hyl : ys.length ≤ 100000) :
    Calls Tryd.prog 13 #[.agg #[.bool n, v], .agg #[.bool n, u]] w (NumE (sv n (dv xs) + sv n (dv ys)) (max xs.length ys.length + 1) w) := by
  obtain ⟨A, c, rfl⟩ := hv.slice
  obtain ⟨B, d, rfl⟩ := hu.slice
  obtain ⟨p, hp⟩ : ∃ p, p = xs.length := ⟨_, rfl⟩
  obtain ⟨q, hq⟩ : ∃ q, q = ys.length := ⟨_, rfl⟩
  rw [← hp] at hv
  rw [← hq] at hu
  have HV := Lib.hid hv
  have HU := Lib.hid hu
  have HX := Lib.hid (And.intro (And.intro hx hxl) (And.intro hy hyl))
  have HM := Lib.hid (And.intro hp hq)
  rw [← hp, ← hq]
  clear hp hq hv hu hx hy hxl hyl
  have ne1 : ¬ w.heap.size + 1 + 1 = w.heap.size := by omega
  have ne2 : ¬ w.heap.size = w.heap.size + 1 + 1 := by omega
  have H0 := Lib.hid (B3.start 28 w n (.slice A p c) n (.slice B q d))
  have HV0 := Lib.hid (HV.out.bel H0.out.bel)
  have HU0 := Lib.hid (HU.out.bel H0.out.bel)
  go_enter Tryd.func13, Tryd.ntmps13
  go_wp2_with fail
  obtain ⟨W0, hW0⟩ : ∃ W0, W0 = (((w.alloc (.cells #[.bool n, .slice A p c] 28)).alloc (.cells #[.bool n, .slice B q d] 28)).alloc (.cells #[.bool false, .slice none 0 0] 28)) := ⟨_, rfl⟩
  rw [← hW0]
  have HX0 := Lib.hid (show B3 28 w W0 n (.slice A p c) n (.slice B q d) by rw [hW0]; exact H0.out)
  have HV1 := Lib.hid (show Arr W0 .u64 (.slice A p c) xs by rw [hW0]; exact HV0.out)
  have HU1 := Lib.hid (show Arr W0 .u64 (.slice B q d) ys by rw [hW0]; exact HU0.out)
  clear hW0
  obtain ⟨f1, f2, f3, f4, f5, f6, f7, f8⟩ := HX0.out.facts
  have l1 := HX0.out.b.lt
  clear f5 f6 f7 f8
  go_region_held3 (fun w' => w'.cell? ⟨w.heap.size, 0, none⟩ = some (.bool n) ∧ w'.cell? ⟨w.heap.size, 1, none⟩ = some (.slice A p c) ∧ w'.cell? ⟨w.heap.size + 1, 0, none⟩ = some (.bool n) ∧ w'.cell? ⟨w.heap.size + 1, 1, none⟩ = some (.slice B q d))
    (first | (go_split_ands; refine ⟨?_, ?_, ?_, ?_⟩ <;> first | (rw [hb3.cell (by have := hb2.size; simp at this ⊢; omega)]; assumption) | (rw [hb2.cell (by simp; omega)]; assumption)) | go_keep)
    (first
      | (go_at_call 43; (with_reducible refine (plus16_any (.slice A p c) (.slice B q d) xs ys _ HV1.out.drew HU1.out.drew HX.out.1.1 HX.out.2.1 HX.out.1.2 HX.out.2.2).mono ?_); rintro e w2 ⟨z, zs, rfl, hz1, hz2, hz3, hz4, hb2⟩; have HX2 := Lib.hid (HX0.out.drew.next hb2); have HZ := Lib.hid (And.intro hz1 (And.intro hz2 (And.intro hz3 hz4))); clear hz1 hz2 hz3 hz4)
      | (go_at_call 36; (with_reducible refine (norm_parts _ z zs w2 HZ.out.1 HZ.out.2.1).mono ?_); rintro e w3 ⟨b, C, p', q', ss, rfl, hs, hb3⟩; have HX3 := Lib.hid (HX2.out.next hb3); have HS := Lib.hid hs; clear hs; obtain ⟨_, _, _, _, f5, f6, f7, f8⟩ := HX3.out.facts))
  all_goals
    go_wp2_with fail
    exact bodyPost_ret (ret_bx28 rfl rfl (HX3.out.fin b _)) rfl (num_fin HX3.out HS.out (by rw [HZ.out.2.2.1, sv_add_same]) (by have h := HZ.out.2.2.2; rw [HM.out.1, HM.out.2]; omega))
set_option maxHeartbeats 2000000 in
set_option maxRecDepth 100000 in
theorem radd_geq (n : Bool) (v u : Value) (xs ys : List Nat) (w : World) (hv : Arr w .u64 v xs) (hu : Arr w .u64 u ys) (hx : Dg xs) (hy : Dg ys) (hxl : xs.length ≤ 100000) (hyl : ys.length ≤ 100000) (tx : Top xs) (ty : Top ys) (hle : dv ys ≤ dv xs) :
    Calls Tryd.prog 13 #[.agg #[.bool n, v], .agg #[.bool (!n), u]] w (NumE (sv n (dv xs) + sv (!n) (dv ys)) (max xs.length ys.length + 1) w) := by
  obtain ⟨A, c, rfl⟩ := hv.slice
  obtain ⟨B, d, rfl⟩ := hu.slice
  obtain ⟨p, hp⟩ : ∃ p, p = xs.length := ⟨_, rfl⟩
  obtain ⟨q, hq⟩ : ∃ q, q = ys.length := ⟨_, rfl⟩
  rw [← hp] at hv
  rw [← hq] at hu
  have HV := Lib.hid hv
  have HU := Lib.hid hu
  have HX := Lib.hid (And.intro (And.intro hx hxl) (And.intro hy hyl))
  have HM := Lib.hid (And.intro hp hq)
  have HT := Lib.hid (And.intro tx ty)
  have HLE := Lib.hid hle
  have hnn : (n == !n) = false := by cases n <;> rfl
  clear tx ty hle
  rw [← hp, ← hq]
  clear hp hq hv hu hx hy hxl hyl
  have ne1 : ¬ w.heap.size + 1 + 1 = w.heap.size := by omega
  have ne2 : ¬ w.heap.size = w.heap.size + 1 + 1 := by omega
  have H0 := Lib.hid (B3.start 28 w n (.slice A p c) (!n) (.slice B q d))
  have HV0 := Lib.hid (HV.out.bel H0.out.bel)
  have HU0 := Lib.hid (HU.out.bel H0.out.bel)
  go_enter Tryd.func13, Tryd.ntmps13
  obtain ⟨cv, hcv⟩ : ∃ cv : Int, cv = cmpI (dv xs) (dv ys) := ⟨_, rfl⟩
  have hcv0 : 0 ≤ cv := by
    rw [hcv]
    have := HLE.out
    rcases Nat.lt_or_ge (dv ys) (dv xs) with h | h
    · rw [cmpI_gt (by omega)]; omega
    · rw [cmpI_eq (by omega)]; omega
  have HC := Lib.hid hcv
  clear hcv
  go_wp2_with (go_at_call 44; (with_reducible refine (less_any (.slice A p c) (.slice B q d) xs ys _ HV0.out HU0.out HX.out.1.1 HX.out.2.1 HT.out.1 HT.out.2 (Nat.le_trans HX.out.1.2 (by decide))).mono ?_); rintro e w' ⟨he, n1, rfl⟩; rw [← HC.out] at he; subst he)
  obtain ⟨W0, hW0⟩ : ∃ W0, W0 = (((w.alloc (.cells #[.bool n, .slice A p c] 28)).alloc (.cells #[.bool (!n), .slice B q d] 28)).alloc (.cells #[.bool false, .slice none 0 0] 28)).drewN n1 := ⟨_, rfl⟩
  rw [← hW0]
  have HX0 := Lib.hid (show B3 28 w W0 n (.slice A p c) (!n) (.slice B q d) by rw [hW0]; exact H0.out.drewN n1)
  have HV1 := Lib.hid (show Arr W0 .u64 (.slice A p c) xs by rw [hW0]; exact HV0.out.drewN n1)
  have HU1 := Lib.hid (show Arr W0 .u64 (.slice B q d) ys by rw [hW0]; exact HU0.out.drewN n1)
  clear hW0
  obtain ⟨f1, f2, f3, f4, f5, f6, f7, f8⟩ := HX0.out.facts
  have l1 := HX0.out.b.lt
  clear f5 f6 f7 f8
  go_region_held3 (fun w' => w'.cell? ⟨w.heap.size, 0, none⟩ = some (.bool n) ∧ w'.cell? ⟨w.heap.size, 1, none⟩ = some (.slice A p c) ∧ w'.cell? ⟨w.heap.size + 1, 0, none⟩ = some (.bool (!n)) ∧ w'.cell? ⟨w.heap.size + 1, 1, none⟩ = some (.slice B q d))
    (first | (go_split_ands; refine ⟨?_, ?_, ?_, ?_⟩ <;> first | (rw [hb3.cell (by have := hb2.size; simp at this ⊢; omega)]; assumption) | (rw [hb2.cell (by simp; omega)]; assumption)) | go_keep)
    (first
      | (go_at_call 45; (with_reducible refine (minus16_any (.slice A p c) (.slice B q d) xs ys _ HV1.out.drew HU1.out.drew HX.out.1.1 HX.out.2.1 HX.out.1.2 HLE.out).mono ?_); rintro e w2 ⟨z, zs, rfl, hz1, hz2, hz3, hz4, hb2⟩; have HX2 := Lib.hid (HX0.out.drew.next hb2); have HZ := Lib.hid (And.intro hz1 (And.intro hz2 (And.intro hz3 hz4))); clear hz1 hz2 hz3 hz4)
      | (go_at_call 36; (with_reducible refine (norm_parts _ z zs w2 HZ.out.1 HZ.out.2.1).mono ?_); rintro e w3 ⟨b, C, p', q', ss, rfl, hs, hb3⟩; have HX3 := Lib.hid (HX2.out.next hb3); have HS := Lib.hid hs; clear hs; obtain ⟨_, _, _, _, f5, f6, f7, f8⟩ := HX3.out.facts))
  all_goals
    go_wp2_with fail
    exact bodyPost_ret (ret_bx28 rfl rfl (HX3.out.fin b _)) rfl (num_fin HX3.out HS.out (by rw [HZ.out.2.2.1, sv_add_diff (n := n) (m := !n) (by cases n <;> decide) HLE.out]) (by have h := HZ.out.2.2.2; rw [HM.out.1, HM.out.2]; omega))
set_option maxHeartbeats 2000000 in
set_option maxRecDepth 100000 in
theorem radd_less (n : Bool) (v u : Value) (xs ys : List Nat) (w : World) (hv : Arr w .u64 v xs) (hu : Arr w .u64 u ys) (hx : Dg xs) (hy : Dg ys) (hxl : xs.length ≤ 100000) (hyl : ys.length ≤ 100000) (tx : Top xs) (ty : Top ys) (hle : dv xs < dv ys) :
    Calls Tryd.prog 13 #[.agg #[.bool n, v], .agg #[.bool (!n), u]] w (NumE (sv n (dv xs) + sv (!n) (dv ys)) (max xs.length ys.length + 1) w) := by
  obtain ⟨A, c, rfl⟩ := hv.slice
  obtain ⟨B, d, rfl⟩ := hu.slice
  obtain ⟨p, hp⟩ : ∃ p, p = xs.length := ⟨_, rfl⟩
  obtain ⟨q, hq⟩ : ∃ q, q = ys.length := ⟨_, rfl⟩
  rw [← hp] at hv
  rw [← hq] at hu
  have HV := Lib.hid hv
  have HU := Lib.hid hu
  have HX := Lib.hid (And.intro (And.intro hx hxl) (And.intro hy hyl))
  have HM := Lib.hid (And.intro hp hq)
  have HT := Lib.hid (And.intro tx ty)
  have HLE := Lib.hid hle
  have hnn : (n == !n) = false := by cases n <;> rfl
  clear tx ty hle
  rw [← hp, ← hq]
  clear hp hq hv hu hx hy hxl hyl
  have ne1 : ¬ w.heap.size + 1 + 1 = w.heap.size := by omega
  have ne2 : ¬ w.heap.size = w.heap.size + 1 + 1 := by omega
  have H0 := Lib.hid (B3.start 28 w n (.slice A p c) (!n) (.slice B q d))
  have HV0 := Lib.hid (HV.out.bel H0.out.bel)
  have HU0 := Lib.hid (HU.out.bel H0.out.bel)
  go_enter Tryd.func13, Tryd.ntmps13
  have HC := Lib.hid (show cmpI (dv xs) (dv ys) = -1 from cmpI_lt (by have := HLE.out; omega))
  go_wp2_with (go_at_call 44; (with_reducible refine (less_any (.slice A p c) (.slice B q d) xs ys _ HV0.out HU0.out HX.out.1.1 HX.out.2.1 HT.out.1 HT.out.2 (Nat.le_trans HX.out.1.2 (by decide))).mono ?_); rintro e w' ⟨he, n1, rfl⟩; rw [HC.out] at he; subst he)
  obtain ⟨W0, hW0⟩ : ∃ W0, W0 = (((w.alloc (.cells #[.bool n, .slice A p c] 28)).alloc (.cells #[.bool (!n), .slice B q d] 28)).alloc (.cells #[.bool false, .slice none 0 0] 28)).drewN n1 := ⟨_, rfl⟩
  rw [← hW0]
  have HX0 := Lib.hid (show B3 28 w W0 n (.slice A p c) (!n) (.slice B q d) by rw [hW0]; exact H0.out.drewN n1)
  have HV1 := Lib.hid (show Arr W0 .u64 (.slice A p c) xs by rw [hW0]; exact HV0.out.drewN n1)
  have HU1 := Lib.hid (show Arr W0 .u64 (.slice B q d) ys by rw [hW0]; exact HU0.out.drewN n1)
  clear hW0
  obtain ⟨f1, f2, f3, f4, f5, f6, f7, f8⟩ := HX0.out.facts
  have l1 := HX0.out.b.lt
  clear f5 f6 f7 f8
  go_region_held3 (fun w' => w'.cell? ⟨w.heap.size, 0, none⟩ = some (.bool n) ∧ w'.cell? ⟨w.heap.size, 1, none⟩ = some (.slice A p c) ∧ w'.cell? ⟨w.heap.size + 1, 0, none⟩ = some (.bool (!n)) ∧ w'.cell? ⟨w.heap.size + 1, 1, none⟩ = some (.slice B q d))
    (first | (go_split_ands; refine ⟨?_, ?_, ?_, ?_⟩ <;> first | (rw [hb3.cell (by have := hb2.size; simp at this ⊢; omega)]; assumption) | (rw [hb2.cell (by simp; omega)]; assumption)) | go_keep)
    (first
      | (go_at_call 45; (with_reducible refine (minus16_any (.slice B q d) (.slice A p c) ys xs _ HU1.out.drew HV1.out.drew HX.out.2.1 HX.out.1.1 HX.out.2.2 (Nat.le_of_lt HLE.out)).mono ?_); rintro e w2 ⟨z, zs, rfl, hz1, hz2, hz3, hz4, hb2⟩; have HX2 := Lib.hid (HX0.out.drew.next hb2); have HZ := Lib.hid (And.intro hz1 (And.intro hz2 (And.intro hz3 hz4))); clear hz1 hz2 hz3 hz4)
      | (go_at_call 36; (with_reducible refine (norm_parts _ z zs w2 HZ.out.1 HZ.out.2.1).mono ?_); rintro e w3 ⟨b, C, p', q', ss, rfl, hs, hb3⟩; have HX3 := Lib.hid (HX2.out.next hb3); have HS := Lib.hid hs; clear hs; obtain ⟨_, _, _, _, f5, f6, f7, f8⟩ := HX3.out.facts))
  all_goals
    go_wp2_with fail
    exact bodyPost_ret (ret_bx28 rfl rfl (HX3.out.fin b _)) rfl (num_fin HX3.out HS.out (by rw [HZ.out.2.2.1, sv_add_diff (n := !n) (m := n) (by cases n <;> decide) (Nat.le_of_lt HLE.out), Int.add_comm]) (by have h := HZ.out.2.2.2; rw [HM.out.1, HM.out.2]; omega))
theorem radd_any (X Y : Value) (x y : Int) (l k : Nat) (w : World) (hX : NumC w X x l) (hY : NumC w Y y k) (hl : l ≤ 100000) (hk : k ≤ 100000) : Calls Tryd.prog 13 #[X, Y] w (NumE (x + y) (max l k + 1) w) := by
  obtain ⟨n, v, xs, rfl, hv, hx, hcx, hxl, rfl⟩ := hX
  obtain ⟨m, u, ys, rfl, hu, hy, hcy, hyl, rfl⟩ := hY
  have tw := fun {e w'} (h : NumE (sv n (dv xs) + sv m (dv ys)) (max xs.length ys.length + 1) w e w') => h.to rfl (show max xs.length ys.length + 1 ≤ max l k + 1 by omega)
  by_cases hnm : n = m
  · subst hnm
    exact (radd_same n v u xs ys w hv hu hx hy (by omega) (by omega)).mono fun _ _ h => tw h
  · obtain rfl : m = !n := by cases n <;> cases m <;> simp at hnm ⊢
    rcases Nat.lt_or_ge (dv xs) (dv ys) with h | h
    · exact (radd_less n v u xs ys w hv hu hx hy (by omega) (by omega) hcx.1 hcy.1 h).mono fun _ _ h => tw h
    · exact (radd_geq n v u xs ys w hv hu hx hy (by omega) (by omega) hcx.1 hcy.1 h).mono fun _ _ h => tw h
end Go.Proofs.YthmpkejdficmgaaDoor
