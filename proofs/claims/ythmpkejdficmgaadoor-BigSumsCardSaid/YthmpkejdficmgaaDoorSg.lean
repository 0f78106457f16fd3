/- Proved here: the statement BigSums: sums, differences, products, and which number is greater, are the document's, in their one form. -/
import Derived.Test.YthmpkejdficmgaaDoorSb
import Derived.Test.YthmpkejdficmgaaDoorPa
namespace Go.Proofs.YthmpkejdficmgaaDoor
open Go.ChangeShapes Go.WideShapes Go.ChangeAt Go.RowKit Go.Joins

theorem LwH.start_ (w : World) (b c : Bool) (v u : Value) : Below w.heap.size w ((w.alloc (.cells #[.bool b, v] 24)).alloc (.cells #[.bool c, u] 24)) ∧ Bx 24 ((w.alloc (.cells #[.bool b, v] 24)).alloc (.cells #[.bool c, u] 24)) w.heap.size b v ∧ Bx 24 ((w.alloc (.cells #[.bool b, v] 24)).alloc (.cells #[.bool c, u] 24)) (w.heap.size + 1) c u :=
  ⟨bel_tr (bel_a w _) (bel_a _ _), (Bx.new 24 w b v).alloc _, Bx.newg (size_a _ _).symm⟩
set_option maxHeartbeats 2000000 in
theorem sums_long1 (b c : Bool) (v u : Value) (xs ys : List Nat) (w : World) (hv : Arr w .u32 v xs) (hu : Arr w .u32 u ys) (hxl : 40 < xs.length) (ht : Tab w) :
    Calls Tryd.prog 3 #[.agg #[.bool b, v], .agg #[.bool c, u]] w fun e w' => e = .returned (.bool true) ∧ Below w.heap.size w w' := by
  obtain ⟨A, k, rfl⟩ := hv.slice
  obtain ⟨B, l, rfl⟩ := hu.slice
  obtain ⟨p, hp⟩ : ∃ p, p = xs.length := ⟨_, rfl⟩
  obtain ⟨q, hq⟩ : ∃ q, q = ys.length := ⟨_, rfl⟩
  rw [← hp] at hxl ⊢
  rw [← hq]
  have HB := Lib.hid (LwH.start_ w b c (.slice A p k) (.slice B q l))
  have HT := Lib.hid (ht.below HB.out.1)
  have hd1 : decide (40 < (p : Int)) = true := decide_eq_true (by omega)
  clear hv hu hp hq ht
  go_enter Tryd.func3, Tryd.ntmps3
  go_wp2_with (go_at_call 8; (with_reducible refine (awake_any _ HT.out).mono ?_); rintro e w1 ⟨rfl, hb⟩; have HB := Lib.hid (And.intro (bel_tr HB.out.1 hb) (And.intro (HB.out.2.1.bel hb) (HB.out.2.2.bel hb))); have f1 := HB.out.2.1.c0; have f2 := HB.out.2.1.c1; have f3 := HB.out.2.2.c0; have f4 := HB.out.2.2.c1; clear hb)
  go_ret
  exact ⟨rfl, HB.out.1⟩
set_option maxHeartbeats 2000000 in
theorem sums_long2 (b c : Bool) (v u : Value) (xs ys : List Nat) (w : World) (hv : Arr w .u32 v xs) (hu : Arr w .u32 u ys) (hxl : ¬ 40 < xs.length) (hyl : 40 < ys.length) (ht : Tab w) :
    Calls Tryd.prog 3 #[.agg #[.bool b, v], .agg #[.bool c, u]] w fun e w' => e = .returned (.bool true) ∧ Below w.heap.size w w' := by
  obtain ⟨A, k, rfl⟩ := hv.slice
  obtain ⟨B, l, rfl⟩ := hu.slice
  obtain ⟨p, hp⟩ : ∃ p, p = xs.length := ⟨_, rfl⟩
  obtain ⟨q, hq⟩ : ∃ q, q = ys.length := ⟨_, rfl⟩
  rw [← hp] at hxl ⊢
  rw [← hq] at hyl ⊢
  have HB := Lib.hid (LwH.start_ w b c (.slice A p k) (.slice B q l))
  have HT := Lib.hid (ht.below HB.out.1)
  have hd1 : decide (40 < (p : Int)) = false := decide_eq_false (by omega)
  have hd2 : decide (40 < (q : Int)) = true := decide_eq_true (by omega)
  clear hv hu hp hq ht
  go_enter Tryd.func3, Tryd.ntmps3
  go_wp2_with (go_at_call 8; (with_reducible refine (awake_any _ HT.out).mono ?_); rintro e w1 ⟨rfl, hb⟩; have HB := Lib.hid (And.intro (bel_tr HB.out.1 hb) (And.intro (HB.out.2.1.bel hb) (HB.out.2.2.bel hb))); have f1 := HB.out.2.1.c0; have f2 := HB.out.2.1.c1; have f3 := HB.out.2.2.c0; have f4 := HB.out.2.2.c1; clear hb)
  go_ret
  exact ⟨rfl, HB.out.1⟩
theorem law_sums (b c : Bool) (v u : Value) (xs ys : List Nat) (w : World) (hv : Arr w .u32 v xs) (hu : Arr w .u32 u ys) (hx : Eg xs) (hy : Eg ys) (ht : Tab w) :
    Calls Tryd.prog 3 #[.agg #[.bool b, v], .agg #[.bool c, u]] w fun e w' => e = .returned (.bool true) ∧ Below w.heap.size w w' := by
  by_cases h1 : 40 < xs.length
  · exact sums_long1 b c v u xs ys w hv hu h1 ht
  · by_cases h2 : 40 < ys.length
    · exact sums_long2 b c v u xs ys w hv hu h1 h2 ht
    · exact sums_core _ _ b c v u xs ys w hv hu hx hy (by omega) (by omega) rfl rfl ht

set_option maxRecDepth 100000 in
theorem lifted_sums (os : Os) (started : os.Started) (H : Type) (enc : TypeId × Value → H) :
    ReturnsInHanded {} Tryd.checked os 3 .any (fun w args => (Rows.bigSumsSpec.pre enc Tryd.prog Tryd.f3 [] false w args ∧ laidMetH Tryd.prog laid3 w) ∧ sizedMet enc Tryd.prog Tryd.f3 (OpenSpec.ofChange Rows.bigSumsSpec) false w args)
      (Rows.bigSumsSpec.post enc Tryd.prog Tryd.f3 false true false false) := by
  refine returnsInHanded_of_change_and (C := Tryd.checked) (X := fun w _ => laidMetH Tryd.prog laid3 w) (fun _ _ _ hh h => h.of_heap hh) own started (by kernel_rfl) Tryd.func3
    (ChangeSpec.witness_shaped (enc := enc) (C := Tryd.checked) (os := os) (X := fun w _ => laidMetH Tryd.prog laid3 w) false (World.doorLaid Tryd.prog 400 os) #[.agg #[.bool false, .slice none 0 0], .agg #[.bool false, .slice none 0 0]] 8 rfl (World.shaped_of_RefB (by kernel_rfl) (by kernel_rfl)) (by kernel_rfl) (by kernel_rfl) (by kernel_rfl) (door_met os _)) ?_
  intro W base args ds gs before hval0 hW _ _ hL _
  have hval : ∀ (j : Nat) t v, Tryd.f3.params[j]? = some t → args[j]? = some v → Value.okWide Tryd.prog W .any base t v := hval0
  have hW' := hW
  obtain ⟨p, q, hA0, hV, rfl, hfz, hnd⟩ := hW
  have hA : DataW.TrodAll enc Tryd.prog W 0 (fun _ => true) true Tryd.f3.params.toList args.toList ds p := hA0
  rw [Tryd.params3] at hA hval
  obtain ⟨v1, v2, d1, d2, p1, p2, rfl, rfl, rfl, h1, h2⟩ := trodAll_two hA
  obtain ⟨rfl, rfl⟩ := trodVars_none hV
  have hv1 := hval 0 24 v1 rfl rfl
  have hv2 := hval 1 24 v2 rfl rfl
  obtain ⟨c0, c1, y0, y1, m, rfl, rfl, rfl, hy0, hy1⟩ := open_agg2 Tryd.underlying24 (by kernel_rfl) cells24 hv1 h1
  obtain ⟨b, e0, rfl⟩ := DataW.trod_bool Tryd.underlying4 hy0
  simp at e0
  subst e0
  obtain ⟨c2, c3, y2, y3, m2, rfl, rfl, rfl, hy2, hy3⟩ := open_agg2 Tryd.underlying24 (by kernel_rfl) cells24 hv2 h2
  obtain ⟨c, e2, rfl⟩ := DataW.trod_bool Tryd.underlying4 hy2
  simp at e2
  subst e2
  obtain ⟨xs, hx, he, hagain⟩ := open_digits (ok_cell1 hv1) hy1
  obtain ⟨ys, hy, hf, hagain2⟩ := open_digits (ok_cell1 hv2) hy3
  have ht := tab_of_laid hL
  clear hA0 hval0
  simp only [List.append_nil] at hW'
  refine (law_sums b c c1 c3 xs ys W hx hy he hf ht).mono fun e W' ⟨he2, hw⟩ => ?_
  subst he2
  have hre : ∃ pa, DataW.TrodAll enc Tryd.prog W' 0 (fun b => decide (b < W.heap.size)) true [24, 24] [.agg #[.bool b, c1], .agg #[.bool c, c3]] [.agg [.lit (.bool b), y1.1], .agg [.lit (.bool c), y3.1]] pa :=
    ⟨_, trodAll_mk2 (shut_agg2 (y0 := (.lit (.bool b), [])) (y1 := y1) Tryd.underlying24 (by kernel_rfl) cells24 ⟨1, by simp [DataW.trod, Tryd.underlying4]⟩ (hagain W' hw)) (shut_agg2 (y0 := (.lit (.bool c), [])) (y1 := y3) Tryd.underlying24 (by kernel_rfl) cells24 ⟨1, by simp [DataW.trod, Tryd.underlying4]⟩ (hagain2 W' hw))⟩
  exact ⟨_, rfl, post_true (ds := [_, _]) rfl hW' (by kernel_rfl) rfl rfl rfl hre hw⟩
theorem bigSums_row : Rows.BigSumsSaid :=
  OpenClaim.holds_of_wide 3 Tryd.f3 rfl rfl rfl rfl rfl rfl rfl ⟨rfl, rfl, rfl, rfl, rfl⟩ rfl rfl rfl rfl rfl (by kernel_rfl) Tryd.func3 (by kernel_rfl)
    (of_decide_eq_true (by kernel_rfl)) (by unfold Func.isWrapper; first | (rw [if_pos (by decide +kernel)]; kernel_rfl) | (rw [if_neg (by decide +kernel)]; exact ⟨rfl, rfl⟩))
    (fun os started H enc _ => lifted_sums os started H enc)
theorem bigSums_holds : Rows.BigSumsCardSaid :=
  Claim7.holds_tied_plain_at .later [] [.data, .data, .data] true (true, "663de95a76a66269ff48224f5c84205d81e78a175695fb9aa61ef280a977a55a") false
    bigSums_row (fun _ h => by cases h) (by kernel_rfl) (fun _ h => by cases h) bigSums_row_tie rfl ⟨rfl, rfl⟩ (by kernel_rfl) rfl
    (fun f fn hf hfn => by
      obtain rfl : f = 3 := Option.some.inj ((show Tryd.prog.funcNamed "pochoir/pochoirlaw02.BigSums" = some 3 by kernel_rfl).symm.trans hf) |>.symm
      obtain rfl : fn = Tryd.f3 := (Option.some.inj (Tryd.func3.symm.trans hfn)).symm
      exact ⟨by kernel_rfl, fun j t ht => by
        rw [Tryd.params3] at ht
        have hm : t ∈ [24, 24] := by simpa using Array.mem_of_getElem? ht
        have hall : ([24, 24].all fun u => !Tryd.prog.wantsStandIn u) = true := by kernel_rfl
        exact (show Tryd.prog.wantsStandIn t = false by simpa using List.all_eq_true.1 hall t hm)⟩)
    (by kernel_rfl)
#print axioms bigSums_holds
end Go.Proofs.YthmpkejdficmgaaDoor
