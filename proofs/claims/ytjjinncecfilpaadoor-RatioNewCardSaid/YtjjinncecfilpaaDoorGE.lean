/- Proved here: what the reference package's Add answers and leaves in memory. Condition: numbers in their one form, of at most 100000 digits, that lie in memory. · what the reference package's Neg, Sub, Sign, Cmp and Of answer and leave in memory. Condition: numbers in their one form, of at most 50000 digits, that lie in memory. · what the reference package's Same and Bits answer. Condition: numbers in their one form that lie in memory. · what the reference package's Mul answers and leaves in memory. Condition: numbers in their one form, of at most 100000 digits, that lie in memory. -/
import Derived.Test.YtjjinncecfilpaaDoorGC
namespace Go.Proofs.YtjjinncecfilpaaDoor
open Go.RowKit

set_option maxHeartbeats 2000000 in
set_option maxRecDepth 100000 in
theorem radd_same (n : Bool) (v u : Value) (xs ys : List Nat) (w : World) (hv : Arr w .u64 v xs) (hu : Arr w .u64 u ys) (hx : Dg xs) (hy : Dg ys) (hxl : xs.length ≤ 100000) (hyl : ys.length ≤ 100000) :
    Calls Tryd.prog 45 #[.agg #[.bool n, v], .agg #[.bool n, u]] w (NumE (sv n (dv xs) + sv n (dv ys)) (max xs.length ys.length + 1) w) := by
  obtain ⟨A, c, rfl⟩ := hv.slice
  obtain ⟨B, d, rfl⟩ := hu.slice
  obtain ⟨p, hp⟩ : ∃ p, p = xs.length := ⟨_, rfl⟩
  obtain ⟨q, hq⟩ : ∃ q, q = ys.length := ⟨_, rfl⟩
  rw [← hp] at hv
  rw [← hq] at hu
  have HV := Lib.hid hv
  have HU := Lib.hid hu
  have HX := Lib.hid (And.intro (And.intro hx hxl) (And.intro hy hyl))
  have HM := Lib.hid (And.intro hp hq)
  rw [← hp, ← hq]
  clear hp hq hv hu hx hy hxl hyl
  have ne1 : ¬ w.heap.size + 1 + 1 = w.heap.size := by omega
  have ne2 : ¬ w.heap.size = w.heap.size + 1 + 1 := by omega
  have H0 := Lib.hid (B3.start 65 w n (.slice A p c) n (.slice B q d))
  have HV0 := Lib.hid (HV.out.bel H0.out.bel)
  have HU0 := Lib.hid (HU.out.bel H0.out.bel)
  go_enter Tryd.func45, Tryd.ntmps45
  go_wp2_with fail
  obtain ⟨W0, hW0⟩ : ∃ W0, W0 = (((w.alloc (.cells #[.bool n, .slice A p c] 65)).alloc (.cells #[.bool n, .slice B q d] 65)).alloc (.cells #[.bool false, .slice none 0 0] 65)) := ⟨_, rfl⟩
  rw [← hW0]
  have HX0 := Lib.hid (show B3 65 w W0 n (.slice A p c) n (.slice B q d) by rw [hW0]; exact H0.out)
  have HV1 := Lib.hid (show Arr W0 .u64 (.slice A p c) xs by rw [hW0]; exact HV0.out)
  have HU1 := Lib.hid (show Arr W0 .u64 (.slice B q d) ys by rw [hW0]; exact HU0.out)
  clear hW0
  obtain ⟨f1, f2, f3, f4, f5, f6, f7, f8⟩ := HX0.out.facts
  have l1 := HX0.out.b.lt
  clear f5 f6 f7 f8
  go_region_held3 (fun w' => w'.cell? ⟨w.heap.size, 0, none⟩ = some (.bool n) ∧ w'.cell? ⟨w.heap.size, 1, none⟩ = some (.slice A p c) ∧ w'.cell? ⟨w.heap.size + 1, 0, none⟩ = some (.bool n) ∧ w'.cell? ⟨w.heap.size + 1, 1, none⟩ = some (.slice B q d))
    (first | (go_split_ands; refine ⟨?_, ?_, ?_, ?_⟩ <;> first | (rw [hb3.cell (by have := hb2.size; simp at this ⊢; omega)]; assumption) | (rw [hb2.cell (by simp; omega)]; assumption)) | go_keep)
    (first
      | (go_at_call 67; (with_reducible refine (plus16_any (.slice A p c) (.slice B q d) xs ys _ HV1.out.drew HU1.out.drew HX.out.1.1 HX.out.2.1 HX.out.1.2 HX.out.2.2).mono ?_); rintro e w2 ⟨z, zs, rfl, hz1, hz2, hz3, hz4, hb2⟩; have HX2 := Lib.hid (HX0.out.drew.next hb2); have HZ := Lib.hid (And.intro hz1 (And.intro hz2 (And.intro hz3 hz4))); clear hz1 hz2 hz3 hz4)
      | (go_at_call 66; (with_reducible refine (norm_parts _ z zs w2 HZ.out.1 HZ.out.2.1).mono ?_); rintro e w3 ⟨b, C, p', q', ss, rfl, hs, hb3⟩; have HX3 := Lib.hid (HX2.out.next hb3); have HS := Lib.hid hs; clear hs; obtain ⟨_, _, _, _, f5, f6, f7, f8⟩ := HX3.out.facts))
  all_goals
    go_wp2_with fail
    exact bodyPost_ret (ret_bx28 rfl rfl (HX3.out.fin b _)) rfl (num_fin HX3.out HS.out (by rw [HZ.out.2.2.1, sv_add_same]) (by have h := HZ.out.2.2.2; rw [HM.out.1, HM.out.2]; omega))
set_option maxHeartbeats 2000000 in
set_option maxRecDepth 100000 in
theorem radd_geq (n : Bool) (v u : Value) (xs ys : List Nat) (w : World) (hv : Arr w .u64 v xs) (hu : Arr w .u64 u ys) (hx : Dg xs) (hy : Dg ys) (hxl : xs.length ≤ 100000) (hyl : ys.length ≤ 100000) (tx : Top xs) (ty : Top ys) (hle : dv ys ≤ dv xs) :
    Calls Tryd.prog 45 #[.agg #[.bool n, v], .agg #[.bool (!n), u]] w (NumE (sv n (dv xs) + sv (!n) (dv ys)) (max xs.length ys.length + 1) w) := by
  obtain ⟨A, c, rfl⟩ := hv.slice
  obtain ⟨B, d, rfl⟩ := hu.slice
  obtain ⟨p, hp⟩ : ∃ p, p = xs.length := ⟨_, rfl⟩
  obtain ⟨q, hq⟩ : ∃ q, q = ys.length := ⟨_, rfl⟩
  rw [← hp] at hv
  rw [← hq] at hu
  have HV := Lib.hid hv
  have HU := Lib.hid hu
  have HX := Lib.hid (And.intro (And.intro hx hxl) (And.intro hy hyl))
  have HM := Lib.hid (And.intro hp hq)
  have HT := Lib.hid (And.intro tx ty)
  have HLE := Lib.hid hle
  have hnn : (n == !n) = false := by cases n <;> rfl
  clear tx ty hle
  rw [← hp, ← hq]
  clear hp hq hv hu hx hy hxl hyl
  have ne1 : ¬ w.heap.size + 1 + 1 = w.heap.size := by omega
  have ne2 : ¬ w.heap.size = w.heap.size + 1 + 1 := by omega
  have H0 := Lib.hid (B3.start 65 w n (.slice A p c) (!n) (.slice B q d))
  have HV0 := Lib.hid (HV.out.bel H0.out.bel)
  have HU0 := Lib.hid (HU.out.bel H0.out.bel)
  go_enter Tryd.func45, Tryd.ntmps45
  obtain ⟨cv, hcv⟩ : ∃ cv : Int, cv = cmpI (dv xs) (dv ys) := ⟨_, rfl⟩
  have hcv0 : 0 ≤ cv := by
    rw [hcv]
    have := HLE.out
    rcases Nat.lt_or_ge (dv ys) (dv xs) with h | h
    · rw [cmpI_gt (by omega)]; omega
    · rw [cmpI_eq (by omega)]; omega
  have HC := Lib.hid hcv
  clear hcv
  go_wp2_with (go_at_call 68; (with_reducible refine (less_any (.slice A p c) (.slice B q d) xs ys _ HV0.out HU0.out HX.out.1.1 HX.out.2.1 HT.out.1 HT.out.2 (Nat.le_trans HX.out.1.2 (by decide))).mono ?_); rintro e w' ⟨he, n1, rfl⟩; rw [← HC.out] at he; subst he)
  obtain ⟨W0, hW0⟩ : ∃ W0, W0 = (((w.alloc (.cells #[.bool n, .slice A p c] 65)).alloc (.cells #[.bool (!n), .slice B q d] 65)).alloc (.cells #[.bool false, .slice none 0 0] 65)).drewN n1 := ⟨_, rfl⟩
  rw [← hW0]
  have HX0 := Lib.hid (show B3 65 w W0 n (.slice A p c) (!n) (.slice B q d) by rw [hW0]; exact H0.out.drewN n1)
  have HV1 := Lib.hid (show Arr W0 .u64 (.slice A p c) xs by rw [hW0]; exact HV0.out.drewN n1)
  have HU1 := Lib.hid (show Arr W0 .u64 (.slice B q d) ys by rw [hW0]; exact HU0.out.drewN n1)
  clear hW0
  obtain ⟨f1, f2, f3, f4, f5, f6, f7, f8⟩ := HX0.out.facts
  have l1 := HX0.out.b.lt
  clear f5 f6 f7 f8
  go_region_held3 (fun w' => w'.cell? ⟨w.heap.size, 0, none⟩ = some (.bool n) ∧ w'.cell? ⟨w.heap.size, 1, none⟩ = some (.slice A p c) ∧ w'.cell? ⟨w.heap.size + 1, 0, none⟩ = some (.bool (!n)) ∧ w'.cell? ⟨w.heap.size + 1, 1, none⟩ = some (.slice B q d))
    (first | (go_split_ands; refine ⟨?_, ?_, ?_, ?_⟩ <;> first | (rw [hb3.cell (by have := hb2.size; simp at this ⊢; omega)]; assumption) | (rw [hb2.cell (by simp; omega)]; assumption)) | go_keep)
    (first
      | (go_at_call 69; (with_reducible refine (minus16_any (.slice A p c) (.slice B q d) xs ys _ HV1.out.drew HU1.out.drew HX.out.1.1 HX.out.2.1 HX.out.1.2 HLE.out).mono ?_); rintro e w2 ⟨z, zs, rfl, hz1, hz2, hz3, hz4, hb2⟩; have HX2 := Lib.hid (HX0.out.drew.next hb2); have HZ := Lib.hid (And.intro hz1 (And.intro hz2 (And.intro hz3 hz4))); clear hz1 hz2 hz3 hz4)
      | (go_at_call 66; (with_reducible refine (norm_parts _ z zs w2 HZ.out.1 HZ.out.2.1).mono ?_); rintro e w3 ⟨b, C, p', q', ss, rfl, hs, hb3⟩; have HX3 := Lib.hid (HX2.out.next hb3); have HS := Lib.hid hs; clear hs; obtain ⟨_, _, _, _, f5, f6, f7, f8⟩ := HX3.out.facts))
  all_goals
    go_wp2_with fail
    exact bodyPost_ret (ret_bx28 rfl rfl (HX3.out.fin b _)) rfl (num_fin HX3.out HS.out (by rw [HZ.out.2.2.1, sv_add_diff (n := n) (m := !n) (by cases n <;> decide) HLE.out]) (by have h := HZ.out.2.2.2; rw [HM.out.1, HM.out.2]; omega))
set_option maxHeartbeats 2000000 in
set_option maxRecDepth 100000 in
theorem radd_less (n : Bool) (v u : Value) (xs ys : List Nat) (w : World) (hv : Arr w .u64 v xs) (hu : Arr w .u64 u ys) (hx : Dg xs) (hy : Dg ys) (hxl : xs.length ≤ 100000) (hyl : ys.length ≤ 100000) (tx : Top xs) (ty : Top ys) (hle : dv xs < dv ys) :
    Calls Tryd.prog 45 #[.agg #[.bool n, v], .agg #[.bool (!n), u]] w (NumE (sv n (dv xs) + sv (!n) (dv ys)) (max xs.length ys.length + 1) w) := by
  obtain ⟨A, c, rfl⟩ := hv.slice
  obtain ⟨B, d, rfl⟩ := hu.slice
  obtain ⟨p, hp⟩ : ∃ p, p = xs.length := ⟨_, rfl⟩
  obtain ⟨q, hq⟩ : ∃ q, q = ys.length := ⟨_, rfl⟩
  rw [← hp] at hv
  rw [← hq] at hu
  have HV := Lib.hid hv
  have HU := Lib.hid hu
  have HX := Lib.hid (And.intro (And.intro hx hxl) (And.intro hy hyl))
  have HM := Lib.hid (And.intro hp hq)
  have HT := Lib.hid (And.intro tx ty)
  have HLE := Lib.hid hle
  have hnn : (n == !n) = false := by cases n <;> rfl
  clear tx ty hle
  rw [← hp, ← hq]
  clear hp hq hv hu hx hy hxl hyl
  have ne1 : ¬ w.heap.size + 1 + 1 = w.heap.size := by omega
  have ne2 : ¬ w.heap.size = w.heap.size + 1 + 1 := by omega
  have H0 := Lib.hid (B3.start 65 w n (.slice A p c) (!n) (.slice B q d))
  have HV0 := Lib.hid (HV.out.bel H0.out.bel)
  have HU0 := Lib.hid (HU.out.bel H0.out.bel)
  go_enter Tryd.func45, Tryd.ntmps45
  have HC := Lib.hid (show cmpI (dv xs) (dv ys) = -1 from cmpI_lt (by have := HLE.out; omega))
  go_wp2_with (go_at_call 68; (with_reducible refine (less_any (.slice A p c) (.slice B q d) xs ys _ HV0.out HU0.out HX.out.1.1 HX.out.2.1 HT.out.1 HT.out.2 (Nat.le_trans HX.out.1.2 (by decide))).mono ?_); rintro e w' ⟨he, n1, rfl⟩; rw [HC.out] at he; subst he)
  obtain ⟨W0, hW0⟩ : ∃ W0, W0 = (((w.alloc (.cells #[.bool n, .slice A p c] 65)).alloc (.cells #[.bool (!n), .slice B q d] 65)).alloc (.cells #[.bool false, .slice none 0 0] 65)).drewN n1 := ⟨_, rfl⟩
  rw [← hW0]
  have HX0 := Lib.hid (show B3 65 w W0 n (.slice A p c) (!n) (.slice B q d) by rw [hW0]; exact H0.out.drewN n1)
  have HV1 := Lib.hid (show Arr W0 .u64 (.slice A p c) xs by rw [hW0]; exact HV0.out.drewN n1)
  have HU1 := Lib.hid (show Arr W0 .u64 (.slice B q d) ys by rw [hW0]; exact HU0.out.drewN n1)
  clear hW0
  obtain ⟨f1, f2, f3, f4, f5, f6, f7, f8⟩ := HX0.out.facts
  have l1 := HX0.out.b.lt
  clear f5 f6 f7 f8
  go_region_held3 (fun w' => w'.cell? ⟨w.heap.size, 0, none⟩ = some (.bool n) ∧ w'.cell? ⟨w.heap.size, 1, none⟩ = some (.slice A p c) ∧ w'.cell? ⟨w.heap.size + 1, 0, none⟩ = some (.bool (!n)) ∧ w'.cell? ⟨w.heap.size + 1, 1, none⟩ = some (.slice B q d))
    (first | (go_split_ands; refine ⟨?_, ?_, ?_, ?_⟩ <;> first | (rw [hb3.cell (by have := hb2.size; simp at this ⊢; omega)]; assumption) | (rw [hb2.cell (by simp; omega)]; assumption)) | go_keep)
    (first
      | (go_at_call 69; (with_reducible refine (minus16_any (.slice B q d) (.slice A p c) ys xs _ HU1.out.drew HV1.out.drew HX.out.2.1 HX.out.1.1 HX.out.2.2 (Nat.le_of_lt HLE.out)).mono ?_); rintro e w2 ⟨z, zs, rfl, hz1, hz2, hz3, hz4, hb2⟩; have HX2 := Lib.hid (HX0.out.drew.next hb2); have HZ := Lib.hid (And.intro hz1 (And.intro hz2 (And.intro hz3 hz4))); clear hz1 hz2 hz3 hz4)
      | (go_at_call 66; (with_reducible refine (norm_parts _ z zs w2 HZ.out.1 HZ.out.2.1).mono ?_); rintro e w3 ⟨b, C, p', q', ss, rfl, hs, hb3⟩; have HX3 := Lib.hid (HX2.out.next hb3); have HS := Lib.hid hs; clear hs; obtain ⟨_, _, _, _, f5, f6, f7, f8⟩ := HX3.out.facts))
  all_goals
    go_wp2_with fail
    exact bodyPost_ret (ret_bx28 rfl rfl (HX3.out.fin b _)) rfl (num_fin HX3.out HS.out (by rw [HZ.out.2.2.1, sv_add_diff (n := !n) (m := n) (by cases n <;> decide) (Nat.le_of_lt HLE.out), Int.add_comm]) (by have h := HZ.out.2.2.2; rw [HM.out.1, HM.out.2]; omega))
theorem radd_any (X Y : Value) (x y : Int) (l k : Nat) (w : World) (hX : NumC w X x l) (hY : NumC w Y y k) (hl : l ≤ 100000) (hk : k ≤ 100000) : Calls Tryd.prog 45 #[X, Y] w (NumE (x + y) (max l k + 1) w) := by
  obtain ⟨n, v, xs, rfl, hv, hx, hcx, hxl, rfl⟩ := hX
  obtain ⟨m, u, ys, rfl, hu, hy, hcy, hyl, rfl⟩ := hY
  have tw := fun {e w'} (h : NumE (sv n (dv xs) + sv m (dv ys)) (max xs.length ys.length + 1) w e w') => h.to rfl (show max xs.length ys.length + 1 ≤ max l k + 1 by omega)
  by_cases hnm : n = m
  · subst hnm
    exact (radd_same n v u xs ys w hv hu hx hy (by omega) (by omega)).mono fun _ _ h => tw h
  · obtain rfl : m = !n := by cases n <;> cases m <;> simp at hnm ⊢
    rcases Nat.lt_or_ge (dv xs) (dv ys) with h | h
    · exact (radd_less n v u xs ys w hv hu hx hy (by omega) (by omega) hcx.1 hcy.1 h).mono fun _ _ h => tw h
    · exact (radd_geq n v u xs ys w hv hu hx hy (by omega) (by omega) hcx.1 hcy.1 h).mono fun _ _ h => tw h
end Go.Proofs.YtjjinncecfilpaaDoor
namespace Go.Proofs.YtjjinncecfilpaaDoor
open Go.RowKit

set_option maxHeartbeats 1000000 in
set_option maxRecDepth 100000 in
theorem rneg_any (X : Value) (x : Int) (l : Nat) (w : World) (hX : NumC w X x l) : Calls Tryd.prog 65 #[X] w (NumE (-x) l w) := by
  obtain ⟨n, v, xs, rfl, hv, hx, hcx, hxl, rfl⟩ := hX
  obtain ⟨A, c, rfl⟩ := hv.slice
  have HX := Lib.hid (And.intro hx hxl)
  obtain ⟨p, hp⟩ : ∃ p, p = xs.length := ⟨_, rfl⟩
  rw [← hp] at hv ⊢
  have H0 := Lib.hid (B2'.start 65 65 w n (.slice A p c))
  have HV0 := Lib.hid (hv.bel H0.out.bel)
  clear hv hx hxl hp hcx
  go_enter Tryd.func65, Tryd.ntmps65
  go_wp2_with (go_at_call 66; (with_reducible refine (norm_parts _ (.slice A p c) xs _ HV0.out HX.out.1).mono ?_); rintro e w3 ⟨b, C, p', q', ss, rfl, hs, hb⟩; have HX3 := Lib.hid (H0.out.next hb); have HS := Lib.hid hs; clear hs hb; obtain ⟨f1, f2, f3, f4, f5, f6⟩ := HX3.out.facts)
  exact bodyPost_ret (ret_bx28 rfl rfl (HX3.out.fin b _)) rfl (num_fin2 HX3.out HS.out (by rw [sv_not]) HX.out.2)
theorem NumC.form {w : World} {X : Value} {x : Int} {l : Nat} (h : NumC w X x l) : ∃ n A p c, X = .agg #[.bool n, .slice A p c] := by
  obtain ⟨n, v, xs, rfl, hv, _⟩ := h
  obtain ⟨A, c, rfl⟩ := hv.slice
  exact ⟨n, A, _, c, rfl⟩
set_option maxHeartbeats 2000000 in
set_option maxRecDepth 100000 in
theorem rsub_any (X Y : Value) (x y : Int) (l k : Nat) (w : World) (hX : NumC w X x l) (hY : NumC w Y y k) (hl : l ≤ 100000) (hk : k ≤ 100000) : Calls Tryd.prog 47 #[X, Y] w (NumE (x - y) (max l k + 1) w) := by
  obtain ⟨n, A, p, c, rfl⟩ := hX.form
  obtain ⟨m, B, q, d, rfl⟩ := hY.form
  have HX := Lib.hid hX
  have HY := Lib.hid hY
  have HL := Lib.hid (And.intro hl hk)
  clear hX hY hl hk
  have ne1 : ¬ w.heap.size + 1 + 1 = w.heap.size := by omega
  have ne2 : ¬ w.heap.size = w.heap.size + 1 + 1 := by omega
  go_enter Tryd.func47, Tryd.ntmps47
  go_wp2_with fail
  obtain ⟨W0, hW0⟩ : ∃ W0, W0 = (((w.alloc (.cells #[.bool n, .slice A p c] 65)).alloc (.cells #[.bool m, .slice B q d] 65)).alloc (.cells #[.bool false, .slice none 0 0] 65)) := ⟨_, rfl⟩
  rw [← hW0]
  have HX0 := Lib.hid (hW0 ▸ B3.start 65 w n (.slice A p c) m (.slice B q d))
  clear hW0
  have HX1 := Lib.hid (HX.out.bel HX0.out.bel)
  have HY1 := Lib.hid (HY.out.bel HX0.out.bel)
  obtain ⟨f1, f2, f3, f4, f5, f6, f7, f8⟩ := HX0.out.facts
  have l1 := HX0.out.b.lt
  clear f5 f6 f7 f8
  go_region_held3 (fun w' => w'.cell? ⟨w.heap.size, 0, none⟩ = some (.bool n) ∧ w'.cell? ⟨w.heap.size, 1, none⟩ = some (.slice A p c) ∧ w'.cell? ⟨w.heap.size + 1, 0, none⟩ = some (.bool m) ∧ w'.cell? ⟨w.heap.size + 1, 1, none⟩ = some (.slice B q d))
    (first | (go_split_ands; refine ⟨?_, ?_, ?_, ?_⟩ <;> first | (rw [hb3.cell (by have := hb2.size; simp at this ⊢; omega)]; assumption) | (rw [hb2.cell (by simp; omega)]; assumption)) | go_keep)
    (first
      | (go_at_call 65; (with_reducible refine (rneg_any _ y k _ HY1.out.drew).mono ?_); rintro e w2 ⟨Z, rfl, hz, hb2⟩; have HX2 := Lib.hid (HX0.out.drew.next hb2); have HZ := Lib.hid hz; have HX5 := Lib.hid (HX1.out.drew.bel hb2); clear hz)
      | (go_at_call 45; (with_reducible refine (radd_any _ Z x (-y) l k w2 HX5.out HZ.out HL.out.1 HL.out.2).mono ?_); rintro e w3 he; obtain ⟨b, C, p', q', ss, rfl, hs, hb3⟩ := he.open_; have HX3 := Lib.hid (HX2.out.next hb3); have HS := Lib.hid hs; clear he hs; obtain ⟨_, _, _, _, f5, f6, f7, f8⟩ := HX3.out.facts))
  all_goals
    go_wp2_with fail
    exact bodyPost_ret (ret_bx28 rfl rfl (HX3.out.fin b _)) rfl (num_fin HX3.out HS.out (by omega) (Nat.le_refl _))
set_option maxHeartbeats 1000000 in
theorem rsign_any (X : Value) (x : Int) (l : Nat) (w : World) (hX : NumC w X x l) : Calls Tryd.prog 63 #[X] w fun e w' => e = .returned (.int .i64 (sgn x)) ∧ Below w.heap.size w w' := by
  obtain ⟨n, v, xs, rfl, hv, hx, hcx, hxl, rfl⟩ := hX
  obtain ⟨A, c, rfl⟩ := hv.slice
  obtain ⟨p, hp⟩ : ∃ p, p = xs.length := ⟨_, rfl⟩
  have hs := sign_val n (dv xs)
  unfold sgn
  rw [← hs, ← hp]
  have HZ := Lib.hid (show dv xs = 0 ↔ p = 0 by rw [top_zero16 hcx.1, hp, List.length_eq_zero_iff])
  clear hv hx hxl hs hp hcx
  by_cases h0 : p = 0
  · have hr := Lib.hid (show isNeg n (dv xs) = 0 by rw [isNeg, if_pos (HZ.out.2 h0)])
    have hb : ((p : Int) == 0) = true := by simp [h0]
    clear h0
    go_enter Tryd.func63, Tryd.ntmps63
    go_wp2_with fail
    go_ret
    exact ⟨ret_int hr.out.symm, bel_a w _⟩
  · have hb : ((p : Int) == 0) = false := by simp; omega
    have hne : dv xs ≠ 0 := fun h => h0 (HZ.out.1 h)
    cases n
    · have hr := Lib.hid (show isNeg false (dv xs) = 1 by simp [isNeg, hne])
      clear h0 hne
      go_enter Tryd.func63, Tryd.ntmps63
      go_wp2_with fail
      go_ret
      exact ⟨ret_int hr.out.symm, bel_a w _⟩
    · have hr := Lib.hid (show isNeg true (dv xs) = -1 by simp [isNeg, hne])
      clear h0 hne
      go_enter Tryd.func63, Tryd.ntmps63
      go_wp2_with fail
      go_ret
      exact ⟨ret_int hr.out.symm, bel_a w _⟩
theorem sgn_sub (x y : Int) : sgn (x - y) = cmpI x y := by
  unfold sgn cmpI
  split <;> split <;> (try split) <;> (try split) <;> omega
set_option maxHeartbeats 1000000 in
set_option maxRecDepth 100000 in
theorem rcmp_any (X Y : Value) (x y : Int) (l k : Nat) (w : World) (hX : NumC w X x l) (hY : NumC w Y y k) (hl : l ≤ 100000) (hk : k ≤ 100000) : Calls Tryd.prog 49 #[X, Y] w fun e w' => e = .returned (.int .i64 (cmpI x y)) ∧ Below w.heap.size w w' := by
  obtain ⟨n, A, p, c, rfl⟩ := hX.form
  obtain ⟨m, B, q, d, rfl⟩ := hY.form
  have hb0 : Below w.heap.size w ((w.alloc (.cells #[.bool n, .slice A p c] 65)).alloc (.cells #[.bool m, .slice B q d] 65)) := (bel_a w _).alloc (by simp) _
  have HX := Lib.hid (hX.bel hb0)
  have HY := Lib.hid (hY.bel hb0)
  have HB := Lib.hid hb0
  have HL := Lib.hid (And.intro hl hk)
  have HS := Lib.hid (sgn_sub x y)
  clear hX hY hl hk hb0
  go_enter Tryd.func49, Tryd.ntmps49
  go_wp2_with (first
    | (go_at_call 47; (with_reducible refine (rsub_any _ _ x y l k _ HX.out HY.out HL.out.1 HL.out.2).mono ?_); rintro e w2 ⟨Z, rfl, hz, hb2⟩; have HZ := Lib.hid hz; have HB2 := Lib.hid (bel_tr HB.out hb2); clear hz hb2)
    | (go_at_call 63; (with_reducible refine (rsign_any Z (x - y) _ w2 HZ.out).mono ?_); rintro e w3 ⟨he, hb3⟩; rw [HS.out] at he; subst he; have HB3 := Lib.hid (bel_tr HB2.out hb3); clear hb3))
  go_ret
  exact ⟨rfl, HB3.out⟩
theorem four_val (s : Nat) : dv [s % 65536, s / 65536 % 65536, s / 4294967296 % 65536, s / 281474976710656] = s := by simp [dv]; omega
theorem four_dg {s : Nat} (h : s < 18446744073709551616) : Dg [s % 65536, s / 65536 % 65536, s / 4294967296 % 65536, s / 281474976710656] := fun j => by
  rcases j with _ | _ | _ | _ | j <;> simp <;> omega
theorem four_arr (W : World) (s g : Nat) (hg : g = W.heap.size) : Arr (W.alloc (.cells #[.int .u64 ((s : Int) % 65536), .int .u64 ((s : Int) / 65536 % 65536), .int .u64 ((s : Int) / 4294967296 % 65536), .int .u64 ((s : Int) / 281474976710656)] 48)) .u64 (.slice (some ⟨g, 0, none⟩) 4 4) [s % 65536, s / 65536 % 65536, s / 4294967296 % 65536, s / 281474976710656] := by
  subst hg
  have h := DB.new .u64 48 W [s % 65536, s / 65536 % 65536, s / 4294967296 % 65536, s / 281474976710656]
  have e : (cs .u64 [s % 65536, s / 65536 % 65536, s / 4294967296 % 65536, s / 281474976710656]).toArray = #[.int .u64 ((s : Int) % 65536), .int .u64 ((s : Int) / 65536 % 65536), .int .u64 ((s : Int) / 4294967296 % 65536), .int .u64 ((s : Int) / 281474976710656)] := by simp [cs]
  rw [e] at h
  exact h.arr (by simp)
set_option maxHeartbeats 2000000 in
set_option maxRecDepth 100000 in
theorem rof_any (n : Int) (w : World) (h1 : -9223372036854775808 ≤ n) (h2 : n ≤ 9223372036854775807) : Calls Tryd.prog 51 #[.int .i64 n] w (NumE n 4 w) := by
  obtain ⟨s, hs⟩ : ∃ s, s = n.natAbs := ⟨_, rfl⟩
  have hsl : s < 18446744073709551616 := by omega
  have HV := Lib.hid (show sv (decide (n < 0)) s = n by rw [hs]; exact sv_abs n)
  have HE := Lib.hid (four_dg hsl)
  have H0 := Lib.hid ((B0.start 65 w).next (bel_a (w.alloc (.cells #[.bool false, .slice none 0 0] 65)) (.cells #[.int .u64 ((s : Int) % 65536), .int .u64 ((s : Int) / 65536 % 65536), .int .u64 ((s : Int) / 4294967296 % 65536), .int .u64 ((s : Int) / 281474976710656)] 48)))
  have HR := Lib.hid (four_arr (w.alloc (.cells #[.bool false, .slice none 0 0] 65)) s (w.heap.size + 1) (by simp))
  by_cases hn : n < 0
  · have F1 : IntKind.u64.wrap (-IntKind.u64.wrap n) = (s : Int) := by rw [wrap_u64m, wrap_u64m]; omega
    have F2 : IntKind.u64.wrap (0 - IntKind.u64.wrap n) = (s : Int) := by rw [wrap_u64m, wrap_u64m]; omega
    clear hs h1 h2
    go_enter Tryd.func51, Tryd.ntmps51
    go_wp2_with (go_at_call 66; (with_reducible refine (norm_parts _ (.slice (some ⟨w.heap.size + 1, 0, none⟩) 4 4) _ _ HR.out HE.out).mono ?_); rintro e w3 ⟨b, C, p', q', ss, rfl, hs, hb3⟩; have HX3 := Lib.hid (H0.out.next hb3); have HS := Lib.hid hs; clear hs hb3; obtain ⟨f3, f4, f5, f6⟩ := HX3.out.facts)
    exact bodyPost_ret (ret_bx28 rfl rfl (HX3.out.fin b _)) rfl (num_fin0 HX3.out HS.out (by rw [four_val]; have h := HV.out; simpa [hn] using h) (by simp))
  · have h0 : 0 ≤ n := by omega
    obtain rfl : n = (s : Int) := by omega
    clear hs h1
    go_enter Tryd.func51, Tryd.ntmps51
    go_wp2_with (go_at_call 66; (with_reducible refine (norm_parts _ (.slice (some ⟨w.heap.size + 1, 0, none⟩) 4 4) _ _ HR.out HE.out).mono ?_); rintro e w3 ⟨b, C, p', q', ss, rfl, hs, hb3⟩; have HX3 := Lib.hid (H0.out.next hb3); have HS := Lib.hid hs; clear hs hb3; obtain ⟨f3, f4, f5, f6⟩ := HX3.out.facts)
    exact bodyPost_ret (ret_bx28 rfl rfl (HX3.out.fin b _)) rfl (num_fin0 HX3.out HS.out (by rw [four_val]; simp [sv]) (by simp))
end Go.Proofs.YtjjinncecfilpaaDoor
namespace Go.Proofs.YtjjinncecfilpaaDoor
open Go.RowKit

/-- The digit in base 2 of a number's digits. -/
theorem bit_dat {xs : List Nat} (h : Dg xs) (i : Nat) : dat xs (i / 16) / 2 ^ (i % 16) % 2 = dv xs / 2 ^ i % 2 := by
  have h1 : dat xs (i / 16) = dv xs / 65536 ^ (i / 16) % 65536 := (dv_digit h (i / 16)).symm
  have hm : ∀ X b, b < 16 → X % 65536 / 2 ^ b % 2 = X / 2 ^ b % 2 := by
    intro X b hb
    have : b = 0 ∨ b = 1 ∨ b = 2 ∨ b = 3 ∨ b = 4 ∨ b = 5 ∨ b = 6 ∨ b = 7 ∨ b = 8 ∨ b = 9 ∨ b = 10 ∨ b = 11 ∨ b = 12 ∨ b = 13 ∨ b = 14 ∨ b = 15 := by omega
    rcases this with rfl | rfl | rfl | rfl | rfl | rfl | rfl | rfl | rfl | rfl | rfl | rfl | rfl | rfl | rfl | rfl <;> omega
  rw [h1, hm _ _ (Nat.mod_lt _ (by decide)), show 65536 = 2 ^ 16 from rfl, ← Nat.pow_mul, Nat.div_div_eq_div_mul, ← Nat.pow_add, Nat.div_add_mod]
theorem bits_none {x n : Nat} (h : x < 2 ^ (n + 1)) (h0 : x / 2 ^ n % 2 = 0) : x < 2 ^ n := by
  rw [Nat.pow_succ] at h
  have h2 : x / 2 ^ n < 2 := by rw [Nat.div_lt_iff_lt_mul (Nat.two_pow_pos n), Nat.mul_comm]; exact h
  have h3 : x / 2 ^ n = 0 := by
    generalize x / 2 ^ n = t at *
    omega
  rcases Nat.lt_or_ge x (2 ^ n) with h4 | h4
  · exact h4
  · have := Nat.div_pos h4 (Nat.two_pow_pos n)
    rw [h3] at this
    exact absurd this (by decide)
theorem bits_some {x n : Nat} (h1 : x / 2 ^ n % 2 ≠ 0) : 2 ^ n ≤ x := by
  rcases Nat.lt_or_ge x (2 ^ n) with h | h
  · rw [Nat.div_eq_of_lt h] at h1
    exact absurd rfl h1
  · exact h
theorem bit_eq (x k : Nat) : ((x : Int) / 2 ^ k).tmod 2 = ((x / 2 ^ k % 2 : Nat) : Int) := by
  have h : (x : Int) / 2 ^ k = ((x / 2 ^ k : Nat) : Int) := by simp
  rw [h, Int.tmod_eq_emod_of_nonneg (Int.natCast_nonneg _)]
  simp
end Go.Proofs.YtjjinncecfilpaaDoor
namespace Go.Proofs.YtjjinncecfilpaaDoor
open Go.RowKit

/-- What holds ahead of each row of a product, and inside a row; g is the product's block. -/
structure RmO (w wr : World) (g : Nat) (xs ys os : List Nat) (i : Nat) : Prop where
  db : DB .u64 48 wr g os
  dg : Dg os
  len : os.length = xs.length + ys.length + 1
  zero : ∀ j, i + ys.length ≤ j → dat os j = 0
  val : dv os = dv (xs.take i) * dv ys
structure RmI (w wr : World) (g : Nat) (xs ys os : List Nat) (i j q : Nat) : Prop where
  db : DB .u64 48 wr g os
  dg : Dg os
  len : os.length = xs.length + ys.length + 1
  zero : ∀ k, i + max j ys.length ≤ k → dat os k = 0
  val : dv os + q * 65536 ^ (i + j) = dv (xs.take i) * dv ys + xs.getD i 0 * 65536 ^ i * dv (ys.take j)
  ql : q ≤ 65535
  qz : ys.length < j → q = 0
  jl : j ≤ ys.length + 1
theorem RmO.start (w W : World) (xs ys : List Nat) (L : Nat) (hL : L = xs.length + ys.length + 1) : RmO w (W.alloc (.cells (cs .u64 (List.replicate L 0)).toArray 48)) W.heap.size xs ys (List.replicate L 0) 0 :=
  ⟨DB.new _ _ W _, dg_zeros L, by simp [hL], fun j _ => dw_zeros_ L j, by rw [dv_zeros]; simp [dv]⟩
theorem RmO.inner {w wr : World} {g : Nat} {xs ys os : List Nat} {i : Nat} (h : RmO w wr g xs ys os i) : RmI w wr g xs ys os i 0 0 :=
  ⟨h.db, h.dg, h.len, fun j hj => h.zero j (by omega), by rw [h.val]; simp [dv], by omega, fun _ => rfl, by omega⟩
theorem RmI.outer {w wr : World} {g : Nat} {xs ys os : List Nat} {i j : Nat} (h : RmI w wr g xs ys os i j 0) (hj : ys.length ≤ j) : RmO w wr g xs ys os (i + 1) := by
  have hv := h.val
  have hjl := h.jl
  rw [dv_take_all (l := ys) (i := j) hj] at hv
  refine ⟨h.db, h.dg, h.len, fun k hk => h.zero k (by omega), ?_⟩
  rw [dv_take_succ]
  generalize 65536 ^ i = P at *
  generalize dv ys = B at *
  grind
theorem RmI.next {w wr W : World} {g : Nat} {xs ys os : List Nat} {i j q S : Nat} (h : RmI w wr g xs ys os i j q) (hW : DB .u64 48 W g os) (hx : Dg xs) (hy : Dg ys) (hi : i < xs.length) (hgo : j < ys.length ∨ 0 < q) (hS : S = dat os (i + j) + dat xs i * dat ys j + q) :
    S < 4294967296 ∧ RmI w (W.setCell ⟨g, i + j, none⟩ (.int .u64 ((S % 65536 : Nat) : Int))) g xs ys (os.set (i + j) (S % 65536)) i (j + 1) (S / 65536) := by
  have hA : dat xs i < 65536 := hx i
  have hB : dat ys j < 65536 := hy j
  have hO : dat os (i + j) < 65536 := h.dg (i + j)
  have hP : dat xs i * dat ys j ≤ 65535 * 65535 := Nat.mul_le_mul (by omega) (by omega)
  have hq := h.ql
  have hjl := h.jl
  have hj : j ≤ ys.length := by
    rcases Nat.lt_or_ge ys.length j with hlt | hge
    · have := h.qz hlt
      omega
    · exact hge
  have hlen : i + j < os.length := by rw [h.len]; omega
  have st := @times_step xs ys os i j q hlen h.val
  have eS : os.getD (i + j) 0 + xs.getD i 0 * ys.getD j 0 + q = S := hS.symm
  rw [eS] at st
  refine ⟨by omega, DB.set_ hW (i + j) _, dg_set h.dg _ (Nat.mod_lt _ (by decide)), by simp [h.len], fun k hk => ?_, st, by omega, fun hlt => ?_, by omega⟩
  · have := h.zero k (by omega)
    simp only [dat, List.getD_eq_getElem?_getD] at this ⊢
    rw [List.getElem?_set_ne (by omega)]
    exact this
  · obtain rfl : j = ys.length := by omega
    have e1 : dat ys ys.length = 0 := dat_beyond (Nat.le_refl _)
    have e2 : dat os (i + ys.length) = 0 := h.zero _ (by omega)
    rw [e1, e2] at hS
    omega
theorem RmO.fin {w wr : World} {g : Nat} {xs ys os : List Nat} (h : RmO w wr g xs ys os xs.length) (hl : xs.length + ys.length + 1 ≤ 1000000) :
    Arr wr .u64 (.slice (some ⟨g, 0, none⟩) (xs.length + ys.length + 1) (xs.length + ys.length + 1)) os ∧ Dg os ∧ os.length = xs.length + ys.length + 1 ∧ dv os = dv xs * dv ys := by
  have hv := h.val
  rw [dv_take_all (Nat.le_refl _)] at hv
  have ha := h.db.arr (by rw [h.len]; exact hl)
  rw [h.len] at ha
  exact ⟨ha, h.dg, h.len, hv⟩
theorem mod_cast16 (S : Nat) : ((S : Int)).tmod 65536 = ((S % 65536 : Nat) : Int) := by
  rw [Int.tmod_eq_emod_of_nonneg (Int.natCast_nonneg _)]
  simp
def RmOH (w wr : World) (g : Nat) (xs ys : List Nat) (i : Nat) : Prop := ∃ os, RmO w wr g xs ys os i
def RmIH (w wr : World) (g : Nat) (xs ys : List Nat) (i j q : Nat) : Prop := ∃ os, RmI w wr g xs ys os i j q
theorem B3.far {T : TypeId} {w W : World} {n m : Bool} {v u : Value} (h : B3 T w W n v m u) {g : Nat} (hg : w.heap.size + 1 + 1 < g) (j : Nat) (x : Value) : B3 T w (W.setCell ⟨g, j, none⟩ x) n v m u :=
  ⟨h.a.far (by simp; omega) _, h.b.far (by simp; omega) _, h.c.far (by simp; omega) _, bel_set h.bel (by omega) _ _⟩
set_option maxHeartbeats 4000000 in
set_option maxRecDepth 100000 in
theorem rmul_any (X Y : Value) (x y : Int) (l k : Nat) (w : World) (hX : NumC w X x l) (hY : NumC w Y y k) (hl : l ≤ 100000) (hk : k ≤ 100000) : Calls Tryd.prog 70 #[X, Y] w (NumE (x * y) (l + k + 1) w) := by
  obtain ⟨n, v, xs, rfl, hv, hx, _, hxl, rfl⟩ := hX
  obtain ⟨m, u, ys, rfl, hu, hy, _, hyl, rfl⟩ := hY
  obtain ⟨A, c, rfl⟩ := hv.slice
  obtain ⟨B, d, rfl⟩ := hu.slice
  obtain ⟨p, hp⟩ : ∃ p, p = xs.length := ⟨_, rfl⟩
  obtain ⟨q, hq⟩ : ∃ q, q = ys.length := ⟨_, rfl⟩
  rw [← hp] at hv hxl ⊢
  rw [← hq] at hu hyl ⊢
  have HV := Lib.hid hv
  have HU := Lib.hid hu
  have HX := Lib.hid (And.intro hx hy)
  have H0 := Lib.hid (B3.start 65 w n (.slice A p c) m (.slice B q d))
  obtain ⟨L, hL⟩ : ∃ L, L = p + q + 1 := ⟨_, rfl⟩
  have hpl : p ≤ 100000 := by omega
  have hql : q ≤ 100000 := by omega
  have hLl : L ≤ 200001 := by omega
  have hmk := fun w => mk16 L (by omega) w ((p : Int) + (q : Int) + 1) (by omega)
  have HS := Lib.hid (And.intro (show RmOH w ((((w.alloc (.cells #[.bool n, .slice A p c] 65)).alloc (.cells #[.bool m, .slice B q d] 65)).alloc (.cells #[.bool false, .slice none 0 0] 65)).alloc (.cells (cs .u64 (List.replicate L 0)).toArray 48)) (w.heap.size + 1 + 1 + 1) xs ys 0 from
    ⟨_, by simpa using RmO.start w (((w.alloc (.cells #[.bool n, .slice A p c] 65)).alloc (.cells #[.bool m, .slice B q d] 65)).alloc (.cells #[.bool false, .slice none 0 0] 65)) xs ys L (by omega)⟩) (H0.out.next (bel_a _ (.cells (cs .u64 (List.replicate L 0)).toArray 48))))
  have HL := Lib.hid hL
  have HP := Lib.hid (And.intro hp hq)
  have HB := Lib.hid (And.intro hxl hyl)
  clear hv hu hx hy hp hq hL hxl hyl hl hk
  go_enter Tryd.func70, Tryd.ntmps70
  go_wp2_with fail
  go_loopw [6] (fun i wr => ∃ i0 : Nat, i = .int .i64 (i0 : Int) ∧ i0 ≤ p ∧ RmOH w wr (w.heap.size + 1 + 1 + 1) xs ys i0 ∧ B3 65 w wr n (.slice A p c) m (.slice B q d)) (fun i _ => p - (intOf i).toNat)
  case atStart => exact ⟨0, rfl, Nat.zero_le _, HS.out.1, HS.out.2⟩
  case round =>
    obtain ⟨i, rfl, hi, hr, hb3⟩ := hrel
    obtain ⟨f1, f2, f3, f4, f5, f6, f7, f8⟩ := hb3.facts
    by_cases hgo : i < p
    · have HI := Lib.hid (show RmIH w wr (w.heap.size + 1 + 1 + 1) xs ys i 0 0 by obtain ⟨os, h⟩ := hr; exact ⟨os, h.inner⟩)
      have HB3 := Lib.hid hb3
      obtain ⟨wo, rfl⟩ : ∃ wo : World, wo = wr := ⟨_, rfl⟩
      clear hr hb3 f1 f3 f5 f6 f7 f8
      go_wp2_with fail
      go_loopw [7, 8] (fun cy j wr => ∃ q0 j0 : Nat, cy = .int .u64 (q0 : Int) ∧ j = .int .i64 (j0 : Int) ∧ RmIH w wr (w.heap.size + 1 + 1 + 1) xs ys i j0 q0 ∧ B3 65 w wr n (.slice A p c) m (.slice B q d)) (fun _ j _ => q + 2 - (intOf j).toNat)
      case atStart => exact ⟨0, 0, rfl, rfl, HI.out, HB3.out⟩
      case round =>
        obtain ⟨q0, j, rfl, rfl, ⟨os, hr3⟩, hb3⟩ := hrel
        obtain ⟨f1, f2, f3, f4, f5, f6, f7, f8⟩ := hb3.facts
        by_cases hg2 : j < q ∨ 0 < q0
        · have hjq : j ≤ q := by
            rcases Nat.lt_or_ge q j with hlt | hge
            · have := hr3.qz (by rw [← HP.out.2]; exact hlt)
              omega
            · exact hge
          have HVr := Lib.hid (HV.out.bel hb3.bel)
          have HUr := Lib.hid (HU.out.bel hb3.bel)
          obtain ⟨ad, rfl, _, hca⟩ := HVr.out.get i (by rw [← HP.out.1]; exact hgo)
          have hlen : os.length = L := by rw [hr3.len, HL.out, HP.out.1, HP.out.2]
          have hij : i + j < L := by have := HL.out; omega
          have hcell := hr3.db.cell (i + j) (by rw [hlen]; exact hij)
          have hfr := hr3.db.fr (i + j)
          have hA : dat xs i < 65536 := HX.out.1 i
          have hB : dat ys j < 65536 := HX.out.2 j
          have hO : dat os (i + j) < 65536 := hr3.dg (i + j)
          have hq0 := hr3.ql
          obtain ⟨S, hS⟩ : ∃ S, S = dat os (i + j) + dat xs i * dat ys j + q0 := ⟨_, rfl⟩
          have hSl := (hr3.next hr3.db HX.out.1 HX.out.2 (by rw [← HP.out.1]; exact hgo) (by rw [← HP.out.2]; exact hg2) hS).1
          obtain ⟨P, hPe⟩ : ∃ P, P = dat xs i * dat ys j := ⟨_, rfl⟩
          obtain ⟨R, hRe⟩ : ∃ R, R = dat os (i + j) + P := ⟨_, rfl⟩
          have F1 : IntKind.u64.wrap ((dat xs i : Int) * (dat ys j : Int)) = (P : Int) := wrap_nat (by rw [hPe]; simp) (by omega)
          have F2 : IntKind.u64.wrap ((dat os (i + j) : Int) + (P : Int)) = (R : Int) := wrap_nat (by omega) (by omega)
          have F3 : IntKind.u64.wrap ((R : Int) + (q0 : Int)) = (S : Int) := wrap_nat (by omega) (by omega)
          have e1 : IntKind.i64.wrap ((i : Int) + (j : Int)) = (i : Int) + (j : Int) := IntWalk.i64_in _ (by omega)
          have HSE := Lib.hid hS
          have HR3 := Lib.hid hr3
          have HB4 := Lib.hid hb3
          clear hr3 hS hPe hRe hb3 f1 f3 f5 f6 f7 f8 hlen hA hB hO
          go_wp2_with fail
          all_goals
            go_quiet ((go_at_call 81; exact Calls.quiet_of_same (at16_q (.slice B q d) ys j _ (HUr.out.drewN _))))
            obtain ⟨W, hW⟩ : ∃ W, W = wr.drewN nq := ⟨_, rfl⟩
            have hcW : W.cell? ⟨w.heap.size + 1 + 1 + 1, i + j, none⟩ = some (.int .u64 (dat os (i + j) : Int)) := by rw [hW]; exact hcell
            have hfW : W.frozen? ⟨w.heap.size + 1 + 1 + 1, i + j, none⟩ = false := by rw [hW]; exact hfr
            have hnx := (HR3.out.next (W := W) (by rw [hW]; exact HR3.out.db) HX.out.1 HX.out.2 (by rw [← HP.out.1]; exact hgo) (by rw [← HP.out.2]; exact hg2) HSE.out).2
            have hbx : B3 65 w W n (.slice (some ad) p c) m (.slice B q d) := by rw [hW]; exact HB4.out.drewN nq
            rw [show ((S % 65536 : Nat) : Int) = (S : Int) % 65536 by simp] at hnx
            have HN := Lib.hid (And.intro hnx (hbx.far (g := w.heap.size + 1 + 1 + 1) (by omega) (i + j) (.int .u64 ((S : Int) % 65536))))
            rw [← hW]
            clear hW hcell hfr hca hnx hbx f2 f4
            go_wp2_with fail
            exact ⟨⟨S / 65536, j + 1, by simp, by simp, ⟨_, HN.out.1⟩, HN.out.2⟩, by simp [intOf]; omega⟩
        · obtain rfl : q0 = 0 := by omega
          have HO := Lib.hid (show RmOH w wr (w.heap.size + 1 + 1 + 1) xs ys (i + 1) from ⟨os, hr3.outer (by rw [← HP.out.2]; omega)⟩)
          have HB4 := Lib.hid hb3
          clear hr3 hb3 f1 f3 f5 f6 f7 f8
          go_wp2_with fail
          exact ⟨⟨i + 1, by simp, by omega, HO.out, HB4.out⟩, by simp [intOf]; omega⟩
    · obtain rfl : i = p := by omega
      have hf : ∃ os, RmO w wr (w.heap.size + 1 + 1 + 1) xs ys os xs.length := by rw [← HP.out.1]; exact hr
      obtain ⟨os, hf⟩ := hf
      have hf2 := hf.fin (by rw [← HP.out.1, ← HP.out.2]; omega)
      rw [← HP.out.1, ← HP.out.2, ← HL.out] at hf2
      have HF := Lib.hid hf2
      have HB4 := Lib.hid hb3
      clear hf hf2 hr hb3
      go_wp2_with (go_at_call 66; (with_reducible refine (norm_parts _ (.slice (some ⟨w.heap.size + 1 + 1 + 1, 0, none⟩) L L) os wr HF.out.1 HF.out.2.1).mono ?_); rintro e w3 ⟨b', C, p', q', ss, rfl, hs, hb⟩; have HX3 := Lib.hid (HB4.out.next hb); have HSS := Lib.hid hs; clear hs hb f1 f2 f3 f4 f5 f6 f7 f8; obtain ⟨f1, f2, f3, f4, f5, f6, f7, f8⟩ := HX3.out.facts)
      exact bodyPost_ret (ret_bx28 rfl rfl (HX3.out.fin b' _)) rfl (num_fin HX3.out HSS.out (by rw [HF.out.2.2.2, sv_mul]) (by rw [HF.out.2.2.1, HL.out]; have := HB.out; omega))
end Go.Proofs.YtjjinncecfilpaaDoor
