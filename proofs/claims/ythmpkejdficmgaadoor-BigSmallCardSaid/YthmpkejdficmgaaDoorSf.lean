/- Proved here: the statement BigSmall: numbers of 64 bits are what they are, and come back; others don't; places that are moved are products. -/
import Derived.Test.YthmpkejdficmgaaDoorSd
import Derived.Test.YthmpkejdficmgaaDoorPa
namespace Go.Proofs.YthmpkejdficmgaaDoor
open Go.ChangeShapes Go.WideShapes Go.ChangeAt Go.RowKit Go.Joins

set_option maxHeartbeats 2000000 in
theorem small_long (n k : Int) (b : Bool) (v : Value) (xs : List Nat) (w : World) (hv : Arr w .u32 v xs) (hxl : 40 < xs.length) (ht : Tab w) :
    Calls Tryd.prog 4 #[.int .i64 n, .agg #[.bool b, v], .int .i64 k] w fun e w' => e = .returned (.bool true) ∧ Below w.heap.size w w' := by
  obtain ⟨A, c, rfl⟩ := hv.slice
  obtain ⟨p, hp⟩ : ∃ p, p = xs.length := ⟨_, rfl⟩
  have hbel0 : Below w.heap.size w (w.alloc (.cells #[.bool b, .slice A p c] 24)) := bel_a w _
  rw [← hp] at hxl ⊢
  have HB := Lib.hid (And.intro (Bx.new 24 w b (.slice A p c)) hbel0)
  have HT := Lib.hid (ht.below hbel0)
  have hd : decide (40 < (p : Int)) = true := decide_eq_true (by omega)
  clear hv hp hbel0 ht
  go_enter Tryd.func4, Tryd.ntmps4
  go_wp2_with (go_at_call 8; (with_reducible refine (awake_any _ HT.out).mono ?_); rintro e w1 ⟨rfl, hb⟩; have HB := Lib.hid (And.intro (HB.out.1.bel hb) (bel_tr HB.out.2 hb)); have f1 := HB.out.1.c0; have f2 := HB.out.1.c1; clear hb)
  go_ret
  exact ⟨rfl, HB.out.2⟩
set_option maxHeartbeats 2000000 in
theorem small_far (n k : Int) (b : Bool) (v : Value) (xs : List Nat) (w : World) (hv : Arr w .u32 v xs) (hxl : xs.length ≤ 40) (hk : 200 < k) (ht : Tab w) :
    Calls Tryd.prog 4 #[.int .i64 n, .agg #[.bool b, v], .int .i64 k] w fun e w' => e = .returned (.bool true) ∧ Below w.heap.size w w' := by
  obtain ⟨A, c, rfl⟩ := hv.slice
  obtain ⟨p, hp⟩ : ∃ p, p = xs.length := ⟨_, rfl⟩
  have hbel0 : Below w.heap.size w (w.alloc (.cells #[.bool b, .slice A p c] 24)) := bel_a w _
  rw [← hp] at hxl ⊢
  have HB := Lib.hid (And.intro (Bx.new 24 w b (.slice A p c)) hbel0)
  have HT := Lib.hid (ht.below hbel0)
  have hd : decide (40 < (p : Int)) = false := decide_eq_false (by omega)
  have hd2 : decide (200 < k) = true := decide_eq_true hk
  clear hv hp hbel0 ht
  go_enter Tryd.func4, Tryd.ntmps4
  go_wp2_with (go_at_call 8; (with_reducible refine (awake_any _ HT.out).mono ?_); rintro e w1 ⟨rfl, hb⟩; have HB := Lib.hid (And.intro (HB.out.1.bel hb) (bel_tr HB.out.2 hb)); have f1 := HB.out.1.c0; have f2 := HB.out.1.c1; clear hb)
  go_ret
  exact ⟨rfl, HB.out.2⟩
theorem law_small (n k : Int) (b : Bool) (v : Value) (xs : List Nat) (w : World) (hv : Arr w .u32 v xs) (hx : Eg xs) (hn1 : -9223372036854775808 ≤ n) (hn2 : n ≤ 9223372036854775807) (hk1 : -9223372036854775808 ≤ k) (ht : Tab w) :
    Calls Tryd.prog 4 #[.int .i64 n, .agg #[.bool b, v], .int .i64 k] w fun e w' => e = .returned (.bool true) ∧ Below w.heap.size w w' := by
  by_cases h1 : 40 < xs.length
  · exact small_long n k b v xs w hv h1 ht
  · by_cases h2 : 200 < k
    · exact small_far n k b v xs w hv (by omega) h2 ht
    · by_cases h3 : sv b (dw xs) < -9223372036854775808
      · exact small_low n k _ b v xs w hv hx (by omega) rfl hn1 hn2 hk1 (by omega) h3 ht
      · by_cases h4 : 9223372036854775807 < sv b (dw xs)
        · exact small_high n k _ b v xs w hv hx (by omega) rfl hn1 hn2 hk1 (by omega) h4 ht
        · exact small_fit n k _ b v xs w hv hx (by omega) rfl hn1 hn2 hk1 (by omega) (by omega) (by omega) ht

set_option maxRecDepth 100000 in
theorem lifted_small (os : Os) (started : os.Started) (H : Type) (enc : TypeId × Value → H) :
    ReturnsInHanded {} Tryd.checked os 4 .any (fun w args => (Rows.bigSmallSpec.pre enc Tryd.prog Tryd.f4 [] false w args ∧ laidMetH Tryd.prog laid3 w) ∧ sizedMet enc Tryd.prog Tryd.f4 (OpenSpec.ofChange Rows.bigSmallSpec) false w args)
      (Rows.bigSmallSpec.post enc Tryd.prog Tryd.f4 false true false false) := by
  refine returnsInHanded_of_change_and (C := Tryd.checked) (X := fun w _ => laidMetH Tryd.prog laid3 w) (fun _ _ _ hh h => h.of_heap hh) own started (by kernel_rfl) Tryd.func4
    (ChangeSpec.witness_shaped (enc := enc) (C := Tryd.checked) (os := os) (X := fun w _ => laidMetH Tryd.prog laid3 w) false (World.doorLaid Tryd.prog 400 os) #[.int .i64 0, .agg #[.bool false, .slice none 0 0], .int .i64 0] 8 rfl (World.shaped_of_RefB (by kernel_rfl) (by kernel_rfl)) (by kernel_rfl) (by kernel_rfl) (by kernel_rfl) (door_met os _)) ?_
  intro W base args ds gs before hval0 hW _ _ hL _
  have hval : ∀ (j : Nat) t v, Tryd.f4.params[j]? = some t → args[j]? = some v → Value.okWide Tryd.prog W .any base t v := hval0
  have hW' := hW
  obtain ⟨p, q, hA0, hV, rfl, hfz, hnd⟩ := hW
  have hA : DataW.TrodAll enc Tryd.prog W 0 (fun _ => true) true Tryd.f4.params.toList args.toList ds p := hA0
  rw [Tryd.params4] at hA hval
  obtain ⟨v0, v1, v2, d0, d1, d2, p0, p1, p2, rfl, rfl, rfl, h0, h1, h2⟩ := trodAll_three hA
  obtain ⟨rfl, rfl⟩ := trodVars_none hV
  obtain ⟨n, rfl, rfl, rfl, wn⟩ := open_int Tryd.underlying2 (hval 0 2 v0 rfl rfl) h0
  obtain ⟨k, rfl, rfl, rfl, wk⟩ := open_int Tryd.underlying3 (hval 2 3 v2 rfl rfl) h2
  have hv1 := hval 1 24 v1 rfl rfl
  obtain ⟨c0, c1, y0, y1, m, rfl, rfl, rfl, hy0, hy1⟩ := open_agg2 Tryd.underlying24 (by kernel_rfl) cells24 hv1 h1
  obtain ⟨b, e0, rfl⟩ := DataW.trod_bool Tryd.underlying4 hy0
  simp at e0
  subst e0
  obtain ⟨xs, hx, he, hagain⟩ := open_digits (ok_cell1 hv1) hy1
  have ht := tab_of_laid hL
  have bn := bounds_i64 wn
  have bk := bounds_i64 wk
  clear hA0 hval0
  simp only [List.append_nil] at hW'
  refine (law_small n k b c1 xs W hx he bn.1 bn.2 bk.1 ht).mono fun e W' ⟨he2, hw⟩ => ?_
  subst he2
  have hre : ∃ pa, DataW.TrodAll enc Tryd.prog W' 0 (fun b => decide (b < W.heap.size)) true [2, 24, 3] [.int .i64 n, .agg #[.bool b, c1], .int .i64 k] [.lit (.int .i64 n), .agg [.lit (.bool b), y1.1], .lit (.int .i64 k)] pa :=
    ⟨_, trodAll_cons_mk (shut_int Tryd.underlying2 wn) (trodAll_cons_mk (shut_agg2 (y0 := (.lit (.bool b), [])) (y1 := y1) Tryd.underlying24 (by kernel_rfl) cells24 ⟨1, by simp [DataW.trod, Tryd.underlying4]⟩ (hagain W' hw)) (trodAll_mk1 (shut_int Tryd.underlying3 wk)))⟩
  exact ⟨_, rfl, post_true (ds := [_, _, _]) rfl hW' (by kernel_rfl) rfl rfl rfl hre hw⟩
theorem bigSmall_row : Rows.BigSmallSaid :=
  OpenClaim.holds_of_wide 4 Tryd.f4 rfl rfl rfl rfl rfl rfl rfl ⟨rfl, rfl, rfl, rfl, rfl⟩ rfl rfl rfl rfl rfl (by kernel_rfl) Tryd.func4 (by kernel_rfl)
    (of_decide_eq_true (by kernel_rfl)) (by unfold Func.isWrapper; first | (rw [if_pos (by decide +kernel)]; kernel_rfl) | (rw [if_neg (by decide +kernel)]; exact ⟨rfl, rfl⟩))
    (fun os started H enc _ => lifted_small os started H enc)
theorem bigSmall_holds : Rows.BigSmallCardSaid :=
  Claim7.holds_tied_plain_at .later [] [.data, .data, .data] true (true, "663de95a76a66269ff48224f5c84205d81e78a175695fb9aa61ef280a977a55a") false
    bigSmall_row (fun _ h => by cases h) (by kernel_rfl) (fun _ h => by cases h) bigSmall_row_tie rfl ⟨rfl, rfl⟩ (by kernel_rfl) rfl
    (fun f fn hf hfn => by
      obtain rfl : f = 4 := Option.some.inj ((show Tryd.prog.funcNamed "pochoir/pochoirlaw02.BigSmall" = some 4 by kernel_rfl).symm.trans hf) |>.symm
      obtain rfl : fn = Tryd.f4 := (Option.some.inj (Tryd.func4.symm.trans hfn)).symm
      exact ⟨by kernel_rfl, fun j t ht => by
        rw [Tryd.params4] at ht
        have hm : t ∈ [2, 24, 3] := by simpa using Array.mem_of_getElem? ht
        have hall : ([2, 24, 3].all fun u => !Tryd.prog.wantsStandIn u) = true := by kernel_rfl
        exact (show Tryd.prog.wantsStandIn t = false by simpa using List.all_eq_true.1 hall t hm)⟩)
    (by kernel_rfl)
#print axioms bigSmall_holds
end Go.Proofs.YthmpkejdficmgaaDoor
