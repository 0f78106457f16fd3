/- Proved here: what the document's numbers of any size answer and leave in memory (ported). Conditions stand at each. -/
import Derived.Test.YtpobhegllhhdgaaGreatGD
namespace Go.Proofs.YtpobhegllhhdgaaGreat
open Go.RowKit

set_option maxHeartbeats 2000000 in
set_option maxRecDepth 100000 in
theorem radd_same (n : Bool) (v u : Value) (xs ys : List Nat) (w : World) (hv : Arr w .u64 v xs) (hu : Arr w .u64 u ys) (hx : Dg xs) (hy : Dg ys) (hxl : xs.length ≤ 100000) (hyl : ys.length ≤ 100000) :
    Calls Tryz.prog 79 #[.agg #[.bool n, v], .agg #[.bool n, u]] w (NumE (sv n (dv xs) + sv n (dv ys)) (max xs.length ys.length + 1) w) := by
  obtain ⟨A, c, rfl⟩ := hv.slice
  obtain ⟨B, d, rfl⟩ := hu.slice
  obtain ⟨p, hp⟩ : ∃ p, p = xs.length := ⟨_, rfl⟩
  obtain ⟨q, hq⟩ : ∃ q, q = ys.length := ⟨_, rfl⟩
  rw [← hp] at hv
  rw [← hq] at hu
  have HV := Lib.hid hv
  have HU := Lib.hid hu
  have HX := Lib.hid (And.intro (And.intro hx hxl) (And.intro hy hyl))
  have HM := Lib.hid (And.intro hp hq)
  rw [← hp, ← hq]
  clear hp hq hv hu hx hy hxl hyl
  have ne1 : ¬ w.heap.size + 1 + 1 = w.heap.size := by omega
  have ne2 : ¬ w.heap.size = w.heap.size + 1 + 1 := by omega
  have H0 := Lib.hid (B3.start 69 w n (.slice A p c) n (.slice B q d))
  have HV0 := Lib.hid (HV.out.bel H0.out.bel)
  have HU0 := Lib.hid (HU.out.bel H0.out.bel)
  go_enter Tryz.func79, Tryz.ntmps79
  go_wp2_with fail
  obtain ⟨W0, hW0⟩ : ∃ W0, W0 = (((w.alloc (.cells #[.bool n, .slice A p c] 69)).alloc (.cells #[.bool n, .slice B q d] 69)).alloc (.cells #[.bool false, .slice none 0 0] 69)) := ⟨_, rfl⟩
  rw [← hW0]
  have HX0 := Lib.hid (show B3 69 w W0 n (.slice A p c) n (.slice B q d) by rw [hW0]; exact H0.out)
  have HV1 := Lib.hid (show Arr W0 .u64 (.slice A p c) xs by rw [hW0]; exact HV0.out)
  have HU1 := Lib.hid (show Arr W0 .u64 (.slice B q d) ys by rw [hW0]; exact HU0.out)
  clear hW0
  obtain ⟨f1, f2, f3, f4, f5, f6, f7, f8⟩ := HX0.out.facts
  have l1 := HX0.out.b.lt
  clear f5 f6 f7 f8
  go_region_held3 (fun w' => w'.cell? ⟨w.heap.size, 0, none⟩ = some (.bool n) ∧ w'.cell? ⟨w.heap.size, 1, none⟩ = some (.slice A p c) ∧ w'.cell? ⟨w.heap.size + 1, 0, none⟩ = some (.bool n) ∧ w'.cell? ⟨w.heap.size + 1, 1, none⟩ = some (.slice B q d))
    (first | (go_split_ands; refine ⟨?_, ?_, ?_, ?_⟩ <;> first | (rw [hb3.cell (by have := hb2.size; simp at this ⊢; omega)]; assumption) | (rw [hb2.cell (by simp; omega)]; assumption)) | go_keep)
    (first
      | (go_at_call 101; (with_reducible refine (plus16_any (.slice A p c) (.slice B q d) xs ys _ HV1.out.drew HU1.out.drew HX.out.1.1 HX.out.2.1 HX.out.1.2 HX.out.2.2).mono ?_); rintro e w2 ⟨z, zs, rfl, hz1, hz2, hz3, hz4, hb2⟩; have HX2 := Lib.hid (HX0.out.drew.next hb2); have HZ := Lib.hid (And.intro hz1 (And.intro hz2 (And.intro hz3 hz4))); clear hz1 hz2 hz3 hz4)
      | (go_at_call 65; (with_reducible refine (norm_parts _ z zs w2 HZ.out.1 HZ.out.2.1).mono ?_); rintro e w3 ⟨b, C, p', q', ss, rfl, hs, hb3⟩; have HX3 := Lib.hid (HX2.out.next hb3); have HS := Lib.hid hs; clear hs; obtain ⟨_, _, _, _, f5, f6, f7, f8⟩ := HX3.out.facts))
  all_goals
    go_wp2_with fail
    exact bodyPost_ret (ret_bx28 rfl rfl (HX3.out.fin b _)) rfl (num_fin HX3.out HS.out (by rw [HZ.out.2.2.1, sv_add_same]) (by have h := HZ.out.2.2.2; rw [HM.out.1, HM.out.2]; omega))
set_option maxHeartbeats 2000000 in
set_option maxRecDepth 100000 in
theorem radd_geq (n : Bool) (v u : Value) (xs ys : List Nat) (w : World) (hv : Arr w .u64 v xs) (hu : Arr w .u64 u ys) (hx : Dg xs) (hy : Dg ys) (hxl : xs.length ≤ 100000) (hyl : ys.length ≤ 100000) (tx : Top xs) (ty : Top ys) (hle : dv ys ≤ dv xs) :
    Calls Tryz.prog 79 #[.agg #[.bool n, v], .agg #[.bool (!n), u]] w (NumE (sv n (dv xs) + sv (!n) (dv ys)) (max xs.length ys.length + 1) w) := by
  obtain ⟨A, c, rfl⟩ := hv.slice
  obtain ⟨B, d, rfl⟩ := hu.slice
  obtain ⟨p, hp⟩ : ∃ p, p = xs.length := ⟨_, rfl⟩
  obtain ⟨q, hq⟩ : ∃ q, q = ys.length := ⟨_, rfl⟩
  rw [← hp] at hv
  rw [← hq] at hu
  have HV := Lib.hid hv
  have HU := Lib.hid hu
  have HX := Lib.hid (And.intro (And.intro hx hxl) (And.intro hy hyl))
  have HM := Lib.hid (And.intro hp hq)
  have HT := Lib.hid (And.intro tx ty)
  have HLE := Lib.hid hle
  have hnn : (n == !n) = false := by cases n <;> rfl
  clear tx ty hle
  rw [← hp, ← hq]
  clear hp hq hv hu hx hy hxl hyl
  have ne1 : ¬ w.heap.size + 1 + 1 = w.heap.size := by omega
  have ne2 : ¬ w.heap.size = w.heap.size + 1 + 1 := by omega
  have H0 := Lib.hid (B3.start 69 w n (.slice A p c) (!n) (.slice B q d))
  have HV0 := Lib.hid (HV.out.bel H0.out.bel)
  have HU0 := Lib.hid (HU.out.bel H0.out.bel)
  go_enter Tryz.func79, Tryz.ntmps79
  obtain ⟨cv, hcv⟩ : ∃ cv : Int, cv = cmpI (dv xs) (dv ys) := ⟨_, rfl⟩
  have hcv0 : 0 ≤ cv := by
    rw [hcv]
    have := HLE.out
    rcases Nat.lt_or_ge (dv ys) (dv xs) with h | h
    · rw [cmpI_gt (by omega)]; omega
    · rw [cmpI_eq (by omega)]; omega
  have HC := Lib.hid hcv
  clear hcv
  go_wp2_with (go_at_call 102; (with_reducible refine (less_any (.slice A p c) (.slice B q d) xs ys _ HV0.out HU0.out HX.out.1.1 HX.out.2.1 HT.out.1 HT.out.2 (Nat.le_trans HX.out.1.2 (by decide))).mono ?_); rintro e w' ⟨he, n1, rfl⟩; rw [← HC.out] at he; subst he)
  obtain ⟨W0, hW0⟩ : ∃ W0, W0 = (((w.alloc (.cells #[.bool n, .slice A p c] 69)).alloc (.cells #[.bool (!n), .slice B q d] 69)).alloc (.cells #[.bool false, .slice none 0 0] 69)).drewN n1 := ⟨_, rfl⟩
  rw [← hW0]
  have HX0 := Lib.hid (show B3 69 w W0 n (.slice A p c) (!n) (.slice B q d) by rw [hW0]; exact H0.out.drewN n1)
  have HV1 := Lib.hid (show Arr W0 .u64 (.slice A p c) xs by rw [hW0]; exact HV0.out.drewN n1)
  have HU1 := Lib.hid (show Arr W0 .u64 (.slice B q d) ys by rw [hW0]; exact HU0.out.drewN n1)
  clear hW0
  obtain ⟨f1, f2, f3, f4, f5, f6, f7, f8⟩ := HX0.out.facts
  have l1 := HX0.out.b.lt
  clear f5 f6 f7 f8
  go_region_held3 (fun w' => w'.cell? ⟨w.heap.size, 0, none⟩ = some (.bool n) ∧ w'.cell? ⟨w.heap.size, 1, none⟩ = some (.slice A p c) ∧ w'.cell? ⟨w.heap.size + 1, 0, none⟩ = some (.bool (!n)) ∧ w'.cell? ⟨w.heap.size + 1, 1, none⟩ = some (.slice B q d))
    (first | (go_split_ands; refine ⟨?_, ?_, ?_, ?_⟩ <;> first | (rw [hb3.cell (by have := hb2.size; simp at this ⊢; omega)]; assumption) | (rw [hb2.cell (by simp; omega)]; assumption)) | go_keep)
    (first
      | (go_at_call 103; (with_reducible refine (minus16_any (.slice A p c) (.slice B q d) xs ys _ HV1.out.drew HU1.out.drew HX.out.1.1 HX.out.2.1 HX.out.1.2 HLE.out).mono ?_); rintro e w2 ⟨z, zs, rfl, hz1, hz2, hz3, hz4, hb2⟩; have HX2 := Lib.hid (HX0.out.drew.next hb2); have HZ := Lib.hid (And.intro hz1 (And.intro hz2 (And.intro hz3 hz4))); clear hz1 hz2 hz3 hz4)
      | (go_at_call 65; (with_reducible refine (norm_parts _ z zs w2 HZ.out.1 HZ.out.2.1).mono ?_); rintro e w3 ⟨b, C, p', q', ss, rfl, hs, hb3⟩; have HX3 := Lib.hid (HX2.out.next hb3); have HS := Lib.hid hs; clear hs; obtain ⟨_, _, _, _, f5, f6, f7, f8⟩ := HX3.out.facts))
  all_goals
    go_wp2_with fail
    exact bodyPost_ret (ret_bx28 rfl rfl (HX3.out.fin b _)) rfl (num_fin HX3.out HS.out (by rw [HZ.out.2.2.1, sv_add_diff (n := n) (m := !n) (by cases n <;> decide) HLE.out]) (by have h := HZ.out.2.2.2; rw [HM.out.1, HM.out.2]; omega))
set_option maxHeartbeats 2000000 in
set_option maxRecDepth 100000 in
theorem radd_less (n : Bool) (v u : Value) (xs ys : List Nat) (w : World) (hv : Arr w .u64 v xs) (hu : Arr w .u64 u ys) (hx : Dg xs) (hy : Dg ys) (hxl : xs.length ≤ 100000) (hyl : ys.length ≤ 100000) (tx : Top xs) (ty : Top ys) (hle : dv xs < dv ys) :
    Calls Tryz.prog 79 #[.agg #[.bool n, v], .agg #[.bool (!n), u]] w (NumE (sv n (dv xs) + sv (!n) (dv ys)) (max xs.length ys.length + 1) w) := by
  obtain ⟨A, c, rfl⟩ := hv.slice
  obtain ⟨B, d, rfl⟩ := hu.slice
  obtain ⟨p, hp⟩ : ∃ p, p = xs.length := ⟨_, rfl⟩
  obtain ⟨q, hq⟩ : ∃ q, q = ys.length := ⟨_, rfl⟩
  rw [← hp] at hv
  rw [← hq] at hu
  have HV := Lib.hid hv
  have HU := Lib.hid hu
  have HX := Lib.hid (And.intro (And.intro hx hxl) (And.intro hy hyl))
  have HM := Lib.hid (And.intro hp hq)
  have HT := Lib.hid (And.intro tx ty)
  have HLE := Lib.hid hle
  have hnn : (n == !n) = false := by cases n <;> rfl
  clear tx ty hle
  rw [← hp, ← hq]
  clear hp hq hv hu hx hy hxl hyl
  have ne1 : ¬ w.heap.size + 1 + 1 = w.heap.size := by omega
  have ne2 : ¬ w.heap.size = w.heap.size + 1 + 1 := by omega
  have H0 := Lib.hid (B3.start 69 w n (.slice A p c) (!n) (.slice B q d))
  have HV0 := Lib.hid (HV.out.bel H0.out.bel)
  have HU0 := Lib.hid (HU.out.bel H0.out.bel)
  go_enter Tryz.func79, Tryz.ntmps79
  have HC := Lib.hid (show cmpI (dv xs) (dv ys) = -1 from cmpI_lt (by have := HLE.out; omega))
  go_wp2_with (go_at_call 102; (with_reducible refine (less_any (.slice A p c) (.slice B q d) xs ys _ HV0.out HU0.out HX.out.1.1 HX.out.2.1 HT.out.1 HT.out.2 (Nat.le_trans HX.out.1.2 (by decide))).mono ?_); rintro e w' ⟨he, n1, rfl⟩; rw [HC.out] at he; subst he)
  obtain ⟨W0, hW0⟩ : ∃ W0, W0 = (((w.alloc (.cells #[.bool n, .slice A p c] 69)).alloc (.cells #[.bool (!n), .slice B q d] 69)).alloc (.cells #[.bool false, .slice none 0 0] 69)).drewN n1 := ⟨_, rfl⟩
  rw [← hW0]
  have HX0 := Lib.hid (show B3 69 w W0 n (.slice A p c) (!n) (.slice B q d) by rw [hW0]; exact H0.out.drewN n1)
  have HV1 := Lib.hid (show Arr W0 .u64 (.slice A p c) xs by rw [hW0]; exact HV0.out.drewN n1)
  have HU1 := Lib.hid (show Arr W0 .u64 (.slice B q d) ys by rw [hW0]; exact HU0.out.drewN n1)
  clear hW0
  obtain ⟨f1, f2, f3, f4, f5, f6, f7, f8⟩ := HX0.out.facts
  have l1 := HX0.out.b.lt
  clear f5 f6 f7 f8
  go_region_held3 (fun w' => w'.cell? ⟨w.heap.size, 0, none⟩ = some (.bool n) ∧ w'.cell? ⟨w.heap.size, 1, none⟩ = some (.slice A p c) ∧ w'.cell? ⟨w.heap.size + 1, 0, none⟩ = some (.bool (!n)) ∧ w'.cell? ⟨w.heap.size + 1, 1, none⟩ = some (.slice B q d))
    (first | (go_split_ands; refine ⟨?_, ?_, ?_, ?_⟩ <;> first | (rw [hb3.cell (by have := hb2.size; simp at this ⊢; omega)]; assumption) | (rw [hb2.cell (by simp; omega)]; assumption)) | go_keep)
    (first
      | (go_at_call 103; (with_reducible refine (minus16_any (.slice B q d) (.slice A p c) ys xs _ HU1.out.drew HV1.out.drew HX.out.2.1 HX.out.1.1 HX.out.2.2 (Nat.le_of_lt HLE.out)).mono ?_); rintro e w2 ⟨z, zs, rfl, hz1, hz2, hz3, hz4, hb2⟩; have HX2 := Lib.hid (HX0.out.drew.next hb2); have HZ := Lib.hid (And.intro hz1 (And.intro hz2 (And.intro hz3 hz4))); clear hz1 hz2 hz3 hz4)
      | (go_at_call 65; (with_reducible refine (norm_parts _ z zs w2 HZ.out.1 HZ.out.2.1).mono ?_); rintro e w3 ⟨b, C, p', q', ss, rfl, hs, hb3⟩; have HX3 := Lib.hid (HX2.out.next hb3); have HS := Lib.hid hs; clear hs; obtain ⟨_, _, _, _, f5, f6, f7, f8⟩ := HX3.out.facts))
  all_goals
    go_wp2_with fail
    exact bodyPost_ret (ret_bx28 rfl rfl (HX3.out.fin b _)) rfl (num_fin HX3.out HS.out (by rw [HZ.out.2.2.1, sv_add_diff (n := !n) (m := n) (by cases n <;> decide) (Nat.le_of_lt HLE.out), Int.add_comm]) (by have h := HZ.out.2.2.2; rw [HM.out.1, HM.out.2]; omega))
theorem radd_any (X Y : Value) (x y : Int) (l k : Nat) (w : World) (hX : NumC w X x l) (hY : NumC w Y y k) (hl : l ≤ 100000) (hk : k ≤ 100000) : Calls Tryz.prog 79 #[X, Y] w (NumE (x + y) (max l k + 1) w) := by
  obtain ⟨n, v, xs, rfl, hv, hx, hcx, hxl, rfl⟩ := hX
  obtain ⟨m, u, ys, rfl, hu, hy, hcy, hyl, rfl⟩ := hY
  have tw := fun {e w'} (h : NumE (sv n (dv xs) + sv m (dv ys)) (max xs.length ys.length + 1) w e w') => h.to rfl (show max xs.length ys.length + 1 ≤ max l k + 1 by omega)
  by_cases hnm : n = m
  · subst hnm
    exact (radd_same n v u xs ys w hv hu hx hy (by omega) (by omega)).mono fun _ _ h => tw h
  · obtain rfl : m = !n := by cases n <;> cases m <;> simp at hnm ⊢
    rcases Nat.lt_or_ge (dv xs) (dv ys) with h | h
    · exact (radd_less n v u xs ys w hv hu hx hy (by omega) (by omega) hcx.1 hcy.1 h).mono fun _ _ h => tw h
    · exact (radd_geq n v u xs ys w hv hu hx hy (by omega) (by omega) hcx.1 hcy.1 h).mono fun _ _ h => tw h
end Go.Proofs.YtpobhegllhhdgaaGreat

namespace Go.Proofs.YtpobhegllhhdgaaGreat
open Go.RowKit

set_option maxHeartbeats 1000000 in
set_option maxRecDepth 100000 in
theorem rneg_any (X : Value) (x : Int) (l : Nat) (w : World) (hX : NumC w X x l) : Calls Tryz.prog 72 #[X] w (NumE (-x) l w) := by
  obtain ⟨n, v, xs, rfl, hv, hx, hcx, hxl, rfl⟩ := hX
  obtain ⟨A, c, rfl⟩ := hv.slice
  have HX := Lib.hid (And.intro hx hxl)
  obtain ⟨p, hp⟩ : ∃ p, p = xs.length := ⟨_, rfl⟩
  rw [← hp] at hv ⊢
  have H0 := Lib.hid (B2'.start 69 69 w n (.slice A p c))
  have HV0 := Lib.hid (hv.bel H0.out.bel)
  clear hv hx hxl hp hcx
  go_enter Tryz.func72, Tryz.ntmps72
  go_wp2_with (go_at_call 65; (with_reducible refine (norm_parts _ (.slice A p c) xs _ HV0.out HX.out.1).mono ?_); rintro e w3 ⟨b, C, p', q', ss, rfl, hs, hb⟩; have HX3 := Lib.hid (H0.out.next hb); have HS := Lib.hid hs; clear hs hb; obtain ⟨f1, f2, f3, f4, f5, f6⟩ := HX3.out.facts)
  exact bodyPost_ret (ret_bx28 rfl rfl (HX3.out.fin b _)) rfl (num_fin2 HX3.out HS.out (by rw [sv_not]) HX.out.2)
theorem NumC.form {w : World} {X : Value} {x : Int} {l : Nat} (h : NumC w X x l) : ∃ n A p c, X = .agg #[.bool n, .slice A p c] := by
  obtain ⟨n, v, xs, rfl, hv, _⟩ := h
  obtain ⟨A, c, rfl⟩ := hv.slice
  exact ⟨n, A, _, c, rfl⟩
set_option maxHeartbeats 2000000 in
set_option maxRecDepth 100000 in
theorem rsub_any (X Y : Value) (x y : Int) (l k : Nat) (w : World) (hX : NumC w X x l) (hY : NumC w Y y k) (hl : l ≤ 100000) (hk : k ≤ 100000) : Calls Tryz.prog 74 #[X, Y] w (NumE (x - y) (max l k + 1) w) := by
  obtain ⟨n, A, p, c, rfl⟩ := hX.form
  obtain ⟨m, B, q, d, rfl⟩ := hY.form
  have HX := Lib.hid hX
  have HY := Lib.hid hY
  have HL := Lib.hid (And.intro hl hk)
  clear hX hY hl hk
  have ne1 : ¬ w.heap.size + 1 + 1 = w.heap.size := by omega
  have ne2 : ¬ w.heap.size = w.heap.size + 1 + 1 := by omega
  go_enter Tryz.func74, Tryz.ntmps74
  go_wp2_with fail
  obtain ⟨W0, hW0⟩ : ∃ W0, W0 = (((w.alloc (.cells #[.bool n, .slice A p c] 69)).alloc (.cells #[.bool m, .slice B q d] 69)).alloc (.cells #[.bool false, .slice none 0 0] 69)) := ⟨_, rfl⟩
  rw [← hW0]
  have HX0 := Lib.hid (hW0 ▸ B3.start 69 w n (.slice A p c) m (.slice B q d))
  clear hW0
  have HX1 := Lib.hid (HX.out.bel HX0.out.bel)
  have HY1 := Lib.hid (HY.out.bel HX0.out.bel)
  obtain ⟨f1, f2, f3, f4, f5, f6, f7, f8⟩ := HX0.out.facts
  have l1 := HX0.out.b.lt
  clear f5 f6 f7 f8
  go_region_held3 (fun w' => w'.cell? ⟨w.heap.size, 0, none⟩ = some (.bool n) ∧ w'.cell? ⟨w.heap.size, 1, none⟩ = some (.slice A p c) ∧ w'.cell? ⟨w.heap.size + 1, 0, none⟩ = some (.bool m) ∧ w'.cell? ⟨w.heap.size + 1, 1, none⟩ = some (.slice B q d))
    (first | (go_split_ands; refine ⟨?_, ?_, ?_, ?_⟩ <;> first | (rw [hb3.cell (by have := hb2.size; simp at this ⊢; omega)]; assumption) | (rw [hb2.cell (by simp; omega)]; assumption)) | go_keep)
    (first
      | (go_at_call 72; (with_reducible refine (rneg_any _ y k _ HY1.out.drew).mono ?_); rintro e w2 ⟨Z, rfl, hz, hb2⟩; have HX2 := Lib.hid (HX0.out.drew.next hb2); have HZ := Lib.hid hz; have HX5 := Lib.hid (HX1.out.drew.bel hb2); clear hz)
      | (go_at_call 79; (with_reducible refine (radd_any _ Z x (-y) l k w2 HX5.out HZ.out HL.out.1 HL.out.2).mono ?_); rintro e w3 he; obtain ⟨b, C, p', q', ss, rfl, hs, hb3⟩ := he.open_; have HX3 := Lib.hid (HX2.out.next hb3); have HS := Lib.hid hs; clear he hs; obtain ⟨_, _, _, _, f5, f6, f7, f8⟩ := HX3.out.facts))
  all_goals
    go_wp2_with fail
    exact bodyPost_ret (ret_bx28 rfl rfl (HX3.out.fin b _)) rfl (num_fin HX3.out HS.out (by omega) (Nat.le_refl _))
set_option maxHeartbeats 1000000 in
theorem rsign_any (X : Value) (x : Int) (l : Nat) (w : World) (hX : NumC w X x l) : Calls Tryz.prog 43 #[X] w fun e w' => e = .returned (.int .i64 (sgn x)) ∧ Below w.heap.size w w' := by
  obtain ⟨n, v, xs, rfl, hv, hx, hcx, hxl, rfl⟩ := hX
  obtain ⟨A, c, rfl⟩ := hv.slice
  obtain ⟨p, hp⟩ : ∃ p, p = xs.length := ⟨_, rfl⟩
  have hs := sign_val n (dv xs)
  unfold sgn
  rw [← hs, ← hp]
  have HZ := Lib.hid (show dv xs = 0 ↔ p = 0 by rw [top_zero16 hcx.1, hp, List.length_eq_zero_iff])
  clear hv hx hxl hs hp hcx
  by_cases h0 : p = 0
  · have hr := Lib.hid (show isNeg n (dv xs) = 0 by rw [isNeg, if_pos (HZ.out.2 h0)])
    have hb : ((p : Int) == 0) = true := by simp [h0]
    clear h0
    go_enter Tryz.func43, Tryz.ntmps43
    go_wp2_with fail
    go_ret
    exact ⟨ret_int hr.out.symm, bel_a w _⟩
  · have hb : ((p : Int) == 0) = false := by simp; omega
    have hne : dv xs ≠ 0 := fun h => h0 (HZ.out.1 h)
    cases n
    · have hr := Lib.hid (show isNeg false (dv xs) = 1 by simp [isNeg, hne])
      clear h0 hne
      go_enter Tryz.func43, Tryz.ntmps43
      go_wp2_with fail
      go_ret
      exact ⟨ret_int hr.out.symm, bel_a w _⟩
    · have hr := Lib.hid (show isNeg true (dv xs) = -1 by simp [isNeg, hne])
      clear h0 hne
      go_enter Tryz.func43, Tryz.ntmps43
      go_wp2_with fail
      go_ret
      exact ⟨ret_int hr.out.symm, bel_a w _⟩
theorem sgn_sub (x y : Int) : sgn (x - y) = cmpI x y := by
  unfold sgn cmpI
  split <;> split <;> (try split) <;> (try split) <;> omega
set_option maxHeartbeats 1000000 in
set_option maxRecDepth 100000 in
theorem rcmp_any (X Y : Value) (x y : Int) (l k : Nat) (w : World) (hX : NumC w X x l) (hY : NumC w Y y k) (hl : l ≤ 100000) (hk : k ≤ 100000) : Calls Tryz.prog 61 #[X, Y] w fun e w' => e = .returned (.int .i64 (cmpI x y)) ∧ Below w.heap.size w w' := by
  obtain ⟨n, A, p, c, rfl⟩ := hX.form
  obtain ⟨m, B, q, d, rfl⟩ := hY.form
  have hb0 : Below w.heap.size w ((w.alloc (.cells #[.bool n, .slice A p c] 69)).alloc (.cells #[.bool m, .slice B q d] 69)) := (bel_a w _).alloc (by simp) _
  have HX := Lib.hid (hX.bel hb0)
  have HY := Lib.hid (hY.bel hb0)
  have HB := Lib.hid hb0
  have HL := Lib.hid (And.intro hl hk)
  have HS := Lib.hid (sgn_sub x y)
  clear hX hY hl hk hb0
  go_enter Tryz.func61, Tryz.ntmps61
  go_wp2_with (first
    | (go_at_call 74; (with_reducible refine (rsub_any _ _ x y l k _ HX.out HY.out HL.out.1 HL.out.2).mono ?_); rintro e w2 ⟨Z, rfl, hz, hb2⟩; have HZ := Lib.hid hz; have HB2 := Lib.hid (bel_tr HB.out hb2); clear hz hb2)
    | (go_at_call 43; (with_reducible refine (rsign_any Z (x - y) _ w2 HZ.out).mono ?_); rintro e w3 ⟨he, hb3⟩; rw [HS.out] at he; subst he; have HB3 := Lib.hid (bel_tr HB2.out hb3); clear hb3))
  go_ret
  exact ⟨rfl, HB3.out⟩
theorem four_val (s : Nat) : dv [s % 65536, s / 65536 % 65536, s / 4294967296 % 65536, s / 281474976710656] = s := by simp [dv]; omega
theorem four_dg {s : Nat} (h : s < 18446744073709551616) : Dg [s % 65536, s / 65536 % 65536, s / 4294967296 % 65536, s / 281474976710656] := fun j => by
  rcases j with _ | _ | _ | _ | j <;> simp <;> omega
theorem four_arr (W : World) (s g : Nat) (hg : g = W.heap.size) : Arr (W.alloc (.cells #[.int .u64 ((s : Int) % 65536), .int .u64 ((s : Int) / 65536 % 65536), .int .u64 ((s : Int) / 4294967296 % 65536), .int .u64 ((s : Int) / 281474976710656)] 95)) .u64 (.slice (some ⟨g, 0, none⟩) 4 4) [s % 65536, s / 65536 % 65536, s / 4294967296 % 65536, s / 281474976710656] := by
  subst hg
  have h := DB.new .u64 95 W [s % 65536, s / 65536 % 65536, s / 4294967296 % 65536, s / 281474976710656]
  have e : (cs .u64 [s % 65536, s / 65536 % 65536, s / 4294967296 % 65536, s / 281474976710656]).toArray = #[.int .u64 ((s : Int) % 65536), .int .u64 ((s : Int) / 65536 % 65536), .int .u64 ((s : Int) / 4294967296 % 65536), .int .u64 ((s : Int) / 281474976710656)] := by simp [cs]
  rw [e] at h
  exact h.arr (by simp)
set_option maxHeartbeats 2000000 in
set_option maxRecDepth 100000 in
theorem rof_any (n : Int) (w : World) (h1 : -9223372036854775808 ≤ n) (h2 : n ≤ 9223372036854775807) : Calls Tryz.prog 71 #[.int .i64 n] w (NumE n 4 w) := by
  obtain ⟨s, hs⟩ : ∃ s, s = n.natAbs := ⟨_, rfl⟩
  have hsl : s < 18446744073709551616 := by omega
  have HV := Lib.hid (show sv (decide (n < 0)) s = n by rw [hs]; exact sv_abs n)
  have HE := Lib.hid (four_dg hsl)
  have H0 := Lib.hid ((B0.start 69 w).next (bel_a (w.alloc (.cells #[.bool false, .slice none 0 0] 69)) (.cells #[.int .u64 ((s : Int) % 65536), .int .u64 ((s : Int) / 65536 % 65536), .int .u64 ((s : Int) / 4294967296 % 65536), .int .u64 ((s : Int) / 281474976710656)] 95)))
  have HR := Lib.hid (four_arr (w.alloc (.cells #[.bool false, .slice none 0 0] 69)) s (w.heap.size + 1) (by simp))
  by_cases hn : n < 0
  · have F1 : IntKind.u64.wrap (-IntKind.u64.wrap n) = (s : Int) := by rw [wrap_u64m, wrap_u64m]; omega
    have F2 : IntKind.u64.wrap (0 - IntKind.u64.wrap n) = (s : Int) := by rw [wrap_u64m, wrap_u64m]; omega
    clear hs h1 h2
    go_enter Tryz.func71, Tryz.ntmps71
    go_wp2_with (go_at_call 65; (with_reducible refine (norm_parts _ (.slice (some ⟨w.heap.size + 1, 0, none⟩) 4 4) _ _ HR.out HE.out).mono ?_); rintro e w3 ⟨b, C, p', q', ss, rfl, hs, hb3⟩; have HX3 := Lib.hid (H0.out.next hb3); have HS := Lib.hid hs; clear hs hb3; obtain ⟨f3, f4, f5, f6⟩ := HX3.out.facts)
    exact bodyPost_ret (ret_bx28 rfl rfl (HX3.out.fin b _)) rfl (num_fin0 HX3.out HS.out (by rw [four_val]; have h := HV.out; simpa [hn] using h) (by simp))
  · have h0 : 0 ≤ n := by omega
    obtain rfl : n = (s : Int) := by omega
    clear hs h1
    go_enter Tryz.func71, Tryz.ntmps71
    go_wp2_with (go_at_call 65; (with_reducible refine (norm_parts _ (.slice (some ⟨w.heap.size + 1, 0, none⟩) 4 4) _ _ HR.out HE.out).mono ?_); rintro e w3 ⟨b, C, p', q', ss, rfl, hs, hb3⟩; have HX3 := Lib.hid (H0.out.next hb3); have HS := Lib.hid hs; clear hs hb3; obtain ⟨f3, f4, f5, f6⟩ := HX3.out.facts)
    exact bodyPost_ret (ret_bx28 rfl rfl (HX3.out.fin b _)) rfl (num_fin0 HX3.out HS.out (by rw [four_val]; simp [sv]) (by simp))
end Go.Proofs.YtpobhegllhhdgaaGreat

namespace Go.Proofs.YtpobhegllhhdgaaGreat
open Go.RowKit

/-- Two digits are appended to a row of the call's own, at a step of a region that draws its order. -/
theorem step_two0 {ops : Array Oper} {o : Oper} {a : Act} {K : Act → World → Prop} {Q : Exit → Act → World → Prop} {E0 : Prop} {wr : World} (hgd : o.guard = none) (s x : Operand)
    (ho : o.op = .call { callee := .builtin .append, args := #[s, x], argTypes := #[67, 67] }) (base : Nat) (v : Value) (n : Nat) (zs : List Nat) (d e : Nat) (hs : a.eval s = v)
    (hown : wr.ownsRow base 95 1 v n (cs .u64 zs)) (D E : Int) (hD : D = (d : Int)) (hE : E = (e : Int)) (hbase : base ≤ wr.heap.size) (hn : n ≤ 1000000) (hx : a.eval x = .slice (some ⟨wr.heap.size, 0, none⟩) 2 2)
    (h : ∀ v' w', w'.ownsRow base 95 1 v' (n + 2) (cs .u64 (zs ++ [d, e])) → Below base wr w' → K (a.put o.dst v') w') :
    if Region.wanted o (yielded ops a.tmps) = true then Oper.wp Tryz.prog o a (wr.alloc (.cells #[.int .u64 D, .int .u64 E] 95)) K Q else E0 := by
  have hw : Region.wanted o (yielded ops a.tmps) = true := by simp [Region.wanted, hgd]
  rw [if_pos hw]
  subst hD hE
  obtain ⟨i0, hi0, hz0, hz1, hz2⟩ := info_parts Tryz.info95
  have ha : Arr (wr.alloc (.cells #[.int .u64 (d : Int), .int .u64 (e : Int)] 95)) .u64 (.slice (some ⟨wr.heap.size, 0, none⟩) 2 2) [d, e] := (DB.new .u64 95 wr [d, e]).arr (by simp)
  refine wp_append_own _ s x 67 ho base 95 i0 _ 1 8 Tryz.underlying67 hi0 hz0 hz1 hz2 rfl (by decide) v n (cs .u64 zs) hs (hown.alloc _) ⟨wr.heap.size, 0, none⟩ 2 2 (cs .u64 [d, e]) hx (arr_cells ha).1 (arr_cells ha).2 (cs_one .u64 _) ?_ ?_ ?_ ?_
  · unfold maxLen; omega
  · omega
  · simp; omega
  · intro v' w' h1 h2 _
    have e1 : cs .u64 zs ++ cs .u64 [d, e] = cs .u64 (zs ++ [d, e]) := by simp [cs]
    rw [e1] at h1
    exact h v' w' h1 (((Below.refl _ _).alloc hbase _).grown h2 (by simp; omega) (fun k hk => (hown.lt k hk).1))
theorem step_two {ops : Array Oper} {o : Oper} {a : Act} {K : Act → World → Prop} {Q : Exit → Act → World → Prop} {E0 : Prop} {wr : World} (hgd : o.guard = none) (s x : Operand)
    (ho : o.op = .call { callee := .builtin .append, args := #[s, x], argTypes := #[67, 67] }) (base : Nat) (v : Value) (n : Nat) (zs : List Nat) (d e : Nat) (hs : a.eval s = v)
    (hown : wr.ownsRow base 95 1 v n (cs .u64 zs)) (D E : Int) (hD : D = (d : Int)) (hE : E = (e : Int)) (hbase : base ≤ wr.heap.size) (hn : n ≤ 1000000) (hx : a.eval x = .slice (some ⟨wr.heap.size, 0, none⟩) 2 2)
    (h : ∀ v' w', w'.ownsRow base 95 1 v' (n + 2) (cs .u64 (zs ++ [d, e])) → Below base wr w' → K (a.put o.dst v') w') :
    if Region.wanted o (yielded ops a.tmps) = true then Oper.wp Tryz.prog o a (wr.alloc (.cells #[.int .u64 D, .int .u64 E] 95)).drew K Q else E0 :=
  step_two0 (wr := wr.drew) hgd s x ho base v n zs d e hs hown D E hD hE hbase hn hx fun v' w' h1 h2 => h v' w' h1 (((Below.refl base wr).drew).trans h2)
theorem lo_val {d : Nat} (h : d < 4294967296) : (IntKind.u64.wrap (d : Int)).tmod 65536 = ((d % 65536 : Nat) : Int) := by
  rw [wrapN rfl (Nat.lt_trans h (by decide)), Int.tmod_eq_emod_of_nonneg (Int.natCast_nonneg _)]
  simp
theorem hi_val {d : Nat} (h : d < 4294967296) : IntKind.u64.wrap ((IntKind.u64.wrap (d : Int)).tdiv 65536) = ((d / 65536 : Nat) : Int) := by
  rw [wrapN (x := (d : Int)) rfl (Nat.lt_trans h (by decide))]
  exact wrapN (by simp) (by omega)
/-- What holds at each round's head of From. -/
structure FromR (w wr : World) (b : Bool) (A : Option Addr) (p c : Nat) (xs : List Nat) (k : Nat) (z : Value) : Prop where
  own : wr.ownsRow (w.heap.size + 1 + 1) 95 1 z (2 * k) (cs .u64 (halves (xs.take k)))
  bx : B2' 60 69 w wr b (.slice A p c)
  size : w.heap.size + 1 + 1 ≤ wr.heap.size
theorem halves_take (xs : List Nat) (k : Nat) (h : k < xs.length) : halves (xs.take (k + 1)) = halves (xs.take k) ++ [dat xs k % 65536, dat xs k / 65536] := by
  rw [List.take_succ_eq_append_getElem h, halves_snoc]
  simp [dat, h]
theorem FromR.step {w wr w' : World} {b : Bool} {A : Option Addr} {p c k : Nat} {xs : List Nat} {z z' : Value} (h : FromR w wr b A p c xs k z) (hk : k < xs.length)
    (hown : w'.ownsRow (w.heap.size + 1 + 1) 95 1 z' (2 * k + 2) (cs .u64 (halves (xs.take k) ++ [dat xs k % 65536, dat xs k / 65536]))) (hb : Below (w.heap.size + 1 + 1) wr w') : FromR w w' b A p c xs (k + 1) z' := by
  refine ⟨by rw [halves_take xs k hk]; exact hown, ⟨h.bx.a.below hb (by omega), h.bx.c.below hb (by omega), h.bx.bel.trans (hb.mono (by omega))⟩, Nat.le_trans h.size hb.size⟩
theorem FromR.drewN {w wr : World} {b : Bool} {A : Option Addr} {p c k : Nat} {xs : List Nat} {z : Value} (h : FromR w wr b A p c xs k z) (n : Nat) : FromR w (wr.drewN n) b A p c xs k z :=
  ⟨h.own, h.bx.drewN n, h.size⟩
set_option maxHeartbeats 2000000 in
set_option maxRecDepth 100000 in
theorem from_any (X : Value) (x : Int) (l : Nat) (w : World) (hX : BigA w X x l) (hl : l ≤ 100000) : Calls Tryz.prog 27 #[X] w (NumE x (2 * l) w) := by
  obtain ⟨b, v, xs, rfl, hv, hx, hxl, rfl⟩ := hX
  obtain ⟨A, c, rfl⟩ := hv.slice
  have HX := Lib.hid (And.intro hx hxl)
  obtain ⟨p, hp⟩ : ∃ p, p = xs.length := ⟨_, rfl⟩
  have hpl : p ≤ 100000 := by omega
  rw [← hp] at hv ⊢
  have HV := Lib.hid hv
  have HP := Lib.hid hp
  have HS := Lib.hid (show FromR w ((w.alloc (.cells #[.bool b, .slice A p c] 60)).alloc (.cells #[.bool false, .slice none 0 0] 69)) b A p c xs 0 (.slice none 0 0) from
    ⟨World.ownsRow_nil _ _ _ _, B2'.start 60 69 w b (.slice A p c), by simp⟩)
  clear hv hx hxl hp hl
  go_enter Tryz.func27, Tryz.ntmps27
  go_wp2_with fail
  go_loopw [3, 4] (fun z i wr => ∃ k : Nat, i = .int .i64 (k : Int) ∧ k ≤ p ∧ FromR w wr b A p c xs k z) (fun _ i _ => p - (intOf i).toNat)
  case atStart => exact ⟨0, rfl, Nat.zero_le _, HS.out⟩
  case round =>
    obtain ⟨k, rfl, hk, hr⟩ := hrel
    have f1 := hr.bx.a.c1
    have f0 := hr.bx.a.c0
    by_cases hgo : k < p
    · obtain ⟨ad, rfl, hadl, hca⟩ := HV.out.get k (by rw [← HP.out]; exact hgo)
      have hcr : wr.cell? (ad.add k) = some (.int .u32 (dat xs k : Int)) := by rw [hr.bx.bel.cell (by rw [block_of_add]; exact hadl)]; exact hca
      have hd : dat xs k < 4294967296 := HX.out.1 k
      have hown := Lib.hid (hr.own)
      have hbas := hr.size
      have HR := Lib.hid hr
      have hlk : (ad.add k).block < w.heap.size := by rw [block_of_add]; exact hadl
      clear hr f0 hca
      go_wp2_with fail
      go_region_held3 (fun w' => w'.cell? ⟨w.heap.size, 1, none⟩ = some (.slice (some ad) p c) ∧ w'.cell? (ad.add k) = some (.int .u32 (dat xs k : Int)))
        (first | (go_split_ands; refine ⟨?_, ?_⟩ <;> first | (rw [hb'.cell (by show w.heap.size < w.heap.size + 1 + 1; omega)]; assumption) | (rw [hb'.cell (by omega)]; assumption)) | go_keep)
        (first | (refine step_two rfl (.tmp 12) (.tmp 27) rfl (w.heap.size + 1 + 1) u3 (2 * k) (halves (xs.take k)) (dat xs k % 65536) (dat xs k / 65536) rfl hown.out _ _ (lo_val hd) (hi_val hd) hbas (by omega) rfl ?_; intro z' w' hown' hb'))
      all_goals
        go_wp2_with fail
        exact ⟨⟨k + 1, by simp, by omega, HR.out.step (by rw [← HP.out]; exact hgo) hown' hb'⟩, by simp [intOf]; omega⟩
    · obtain rfl : k = p := by omega
      have hA : Arr wr .u64 u3 (halves xs) := by
        have h := hr.own
        rw [HP.out, List.take_length] at h
        exact Arr.of_own h
      have HA := Lib.hid (And.intro hA (halves_dg HX.out.1))
      have HR := Lib.hid hr
      clear hr hA
      go_wp2_with (go_at_call 65; (with_reducible refine (norm_parts b u3 (halves xs) wr HA.out.1 HA.out.2).mono ?_); rintro e w3 ⟨b', C, p', q', ss, rfl, hs, hb⟩; have HX3 := Lib.hid (HR.out.bx.next hb); have HS := Lib.hid hs; clear hs hb f0 f1; obtain ⟨f1, f2, f3, f4, f5, f6⟩ := HX3.out.facts)
      exact bodyPost_ret (ret_bx28 rfl rfl (HX3.out.fin b' _)) rfl (num_fin2 HX3.out HS.out (by rw [halves_val]) (by rw [halves_len]; have := HX.out.2; omega))
end Go.Proofs.YtpobhegllhhdgaaGreat
