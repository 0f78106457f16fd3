/- Proved here: the statement WideParts: for every number of 128 bits and every divisor of 64 bits, package wide's quotient and rest are the document's, and make the number again. -/
import Derived.Test.YtmhpfmhpilmfdaaDoorPb
namespace Go.Proofs.YtmhpfmhpilmfdaaDoor
open Go.ChangeShapes Go.WideShapes Go.ChangeAt Go.RowKit Go.Joins

/-- What a division answers, written out. -/
def DivT (f : Nat) (hi lo n qh ql r : Nat) (c : Int) : Prop := ∀ W, Calls Tryd.prog f #[.agg #[.int .u64 (hi : Int), .int .u64 (lo : Int)], .int .u64 (n : Int)] W fun e w' => e = .returned (.tuple #[.agg #[.int .u64 (qh : Int), .int .u64 (ql : Int)], .int .u64 (r : Int), .int .i64 c]) ∧ Below W.heap.size W w'
theorem DivT.of {f hi lo n : Nat} (hn : 0 < n) (h : ∀ W, Calls Tryd.prog f #[.agg #[.int .u64 (hi : Int), .int .u64 (lo : Int)], .int .u64 (n : Int)] W (DivE (numW hi lo) n W)) :
    DivT f hi lo n (hiW (numW hi lo / n)) (loW (numW hi lo / n)) (numW hi lo % n) 0 := fun W => (h W).mono fun _ _ ⟨a, b, r, c, he, hd, hb⟩ => by
  rcases hd with ⟨h0, _⟩ | ⟨_, rfl, rfl, rfl, rfl⟩
  · omega
  · exact ⟨he, hb⟩
theorem DivT.zero {f hi lo : Nat} (h : ∀ W, Calls Tryd.prog f #[.agg #[.int .u64 (hi : Int), .int .u64 (lo : Int)], .int .u64 ((0 : Nat) : Int)] W (DivE (numW hi lo) 0 W)) (W : World) :
    Calls Tryd.prog f #[.agg #[.int .u64 (hi : Int), .int .u64 (lo : Int)], .int .u64 0] W fun e w' => e = .returned (.tuple #[.agg #[.int .u64 0, .int .u64 0], .int .u64 0, .int .i64 13]) ∧ Below W.heap.size W w' := (h W).mono fun _ _ ⟨a, b, r, c, he, hd, hb⟩ => by
  rcases hd with ⟨_, rfl, rfl, rfl, rfl⟩ | ⟨h0, _⟩
  · exact ⟨he, hb⟩
  · omega
set_option maxHeartbeats 2000000 in
set_option maxRecDepth 100000 in
theorem parts_zero (hi lo : Nat) (w : World) (ht : Tab w) (hh : hi < 18446744073709551616) (hl : lo < 18446744073709551616) :
    Calls Tryd.prog 4 #[.agg #[.int .u64 (hi : Int), .int .u64 (lo : Int)], .int .u64 0] w fun e w' => e = .returned (.bool true) ∧ Below w.heap.size w w' := by
  have HT := Lib.hid (ht.below ((Below.refl _ _).alloc (Nat.le_refl _) (.cells #[.int .u64 (hi : Int), .int .u64 (lo : Int)] 24)))
  have HD := Lib.hid (DivT.zero fun W => div_any hi lo 0 W hl hh (by decide))
  have HR := Lib.hid (DivT.zero fun W => rdiv_any hi lo 0 W hl hh (by decide))
  have HB0 := Lib.hid (Box.new w hi lo)
  clear hh hl ht
  go_enter Tryd.func4, Tryd.ntmps4
  go_wp2_with (first
    | (go_at_call 7; (with_reducible refine (awake_any _ HT.out).mono ?_); rintro e w1 ⟨rfl, hb1⟩; have HX1 := Lib.hid (HB0.out.below hb1 (by simp)); have f1 := HX1.out.c0; have f2 := HX1.out.c1; have l1 := HX1.out.lt; have HB1 := Lib.hid (bel1 hb1); clear hb1)
    | (go_at_call 16; (with_reducible refine (HD.out _).mono ?_); rintro e w2 ⟨rfl, hb2⟩; have HX2 := Lib.hid (HX1.out.below hb2 HX1.out.lt); have g1 := HX2.out.c0; have g2 := HX2.out.c1; have l2 := HX2.out.lt; have HB2 := Lib.hid (HB1.out.trans (hb2.mono HB1.out.size)); clear hb2)
    | (go_at_call 17; (with_reducible refine (HR.out _).mono ?_); rintro e w3 ⟨rfl, hb3⟩; have HQ3 := Lib.hid ((Box.new w2 0 0).below hb3 (by simp)); have k1 := HQ3.out.c0; have k2 := HQ3.out.c1; have l3 := HQ3.out.lt; have HB3 := Lib.hid (HB2.out.trans ((bel1 hb3).mono HB2.out.size)); clear hb3))
  go_ret
  exact ⟨rfl, HB3.out.alloc HB3.out.size _⟩
set_option maxHeartbeats 4000000 in
set_option maxRecDepth 100000 in
theorem parts_core (hi lo n qh ql r ph pl : Nat) (w : World) (ht : Tab w) (hd : DivT 16 hi lo n qh ql r 0) (hr : DivT 17 hi lo n qh ql r 0) (hrn : r < n)
    (hs : ∀ W, Calls Tryd.prog 12 #[.agg #[.int .u64 (qh : Int), .int .u64 (ql : Int)], .int .u64 (n : Int)] W fun e w' => e = .returned (.tuple #[.agg #[.int .u64 (ph : Int), .int .u64 (pl : Int)], .int .i64 0]) ∧ Below W.heap.size W w')
    (ho : ∀ W, Calls Tryd.prog 15 #[.int .u64 (r : Int)] W fun e w' => e = .returned (.agg #[.int .u64 0, .int .u64 (r : Int)]) ∧ Below W.heap.size W w')
    (ha : ∀ W, Calls Tryd.prog 8 #[.agg #[.int .u64 (ph : Int), .int .u64 (pl : Int)], .agg #[.int .u64 0, .int .u64 (r : Int)]] W fun e w' => e = .returned (.tuple #[.agg #[.int .u64 (hi : Int), .int .u64 (lo : Int)], .int .i64 0]) ∧ Below W.heap.size W w') :
    Calls Tryd.prog 4 #[.agg #[.int .u64 (hi : Int), .int .u64 (lo : Int)], .int .u64 (n : Int)] w fun e w' => e = .returned (.bool true) ∧ Below w.heap.size w w' := by
  have HT := Lib.hid (ht.below ((Below.refl _ _).alloc (Nat.le_refl _) (.cells #[.int .u64 (hi : Int), .int .u64 (lo : Int)] 24)))
  have HD := Lib.hid (fun W => hd W)
  have HR := Lib.hid (fun W => hr W)
  have HS := Lib.hid hs
  have HO := Lib.hid ho
  have HA := Lib.hid ha
  have HB0 := Lib.hid (Box.new w hi lo)
  clear ht hd hr hs ho ha
  go_enter Tryd.func4, Tryd.ntmps4
  go_wp2_with (first
    | (go_at_call 7; (with_reducible refine (awake_any _ HT.out).mono ?_); rintro e w1 ⟨rfl, hb1⟩; have HX1 := Lib.hid (HB0.out.below hb1 (by simp)); have f1 := HX1.out.c0; have f2 := HX1.out.c1; have l1 := HX1.out.lt; have HB1 := Lib.hid (bel1 hb1); clear hb1)
    | (go_at_call 16; (with_reducible refine (HD.out _).mono ?_); rintro e w2 ⟨rfl, hb2⟩; have HX2 := Lib.hid (HX1.out.below hb2 HX1.out.lt); have g1 := HX2.out.c0; have g2 := HX2.out.c1; have l2 := HX2.out.lt; have HB2 := Lib.hid (HB1.out.trans (hb2.mono HB1.out.size)); clear hb2)
    | (go_at_call 17; (with_reducible refine (HR.out _).mono ?_); rintro e w3 ⟨rfl, hb3⟩; have HX3 := Lib.hid ((HX2.out.alloc (.cells #[.int .u64 (qh : Int), .int .u64 (ql : Int)] 24)).below hb3 (HX2.out.alloc (.cells #[.int .u64 (qh : Int), .int .u64 (ql : Int)] 24)).lt); have HQ3 := Lib.hid ((Box.new w2 qh ql).below hb3 (by simp)); have k1 := HQ3.out.c0; have k2 := HQ3.out.c1; have l3 := HQ3.out.lt; have HB3 := Lib.hid (HB2.out.trans ((bel1 hb3).mono HB2.out.size)); clear hb3)
    | (go_at_call 12; (with_reducible refine (HS.out _).mono ?_); rintro e w4 ⟨rfl, hb4⟩; have HX4 := Lib.hid ((HX3.out.alloc (.cells #[.int .u64 (qh : Int), .int .u64 (ql : Int)] 24)).below hb4 (HX3.out.alloc (.cells #[.int .u64 (qh : Int), .int .u64 (ql : Int)] 24)).lt); have HB4 := Lib.hid (HB3.out.trans ((bel1 hb4).mono HB3.out.size)); clear hb4))
  clear f1 f2 l1 g1 g2 l2 k1 k2 l3
  have f1 := HX4.out.c0
  have f2 := HX4.out.c1
  have l4 := HX4.out.lt
  have l5 : w.heap.size < w4.heap.size + 1 := by omega
  have l6 : w.heap.size < w4.heap.size + 1 + 1 := by omega
  go_region_with (first
    | (go_at_call 15; (with_reducible refine (HO.out _).mono ?_); rintro e w5 ⟨rfl, hb5⟩; obtain ⟨hc5, hf5, hz5⟩ := bel_cells hb5; (try simp at hz5 hc5 hf5); have q0 : w.heap.size < w5.heap.size := (by omega); have q1 : w4.heap.size < w5.heap.size := (by omega); (try have q2 : w4.heap.size + 1 < w5.heap.size := (by omega)); have HB5 := Lib.hid hb5; clear hb5)
    | (go_at_call 8; (with_reducible refine (HA.out _).mono ?_); rintro e w6 ⟨rfl, hb6⟩; obtain ⟨hc6, hf6, hz6⟩ := bel_cells hb6; (try simp at hz6 hc6 hf6); have q6 : w.heap.size < w6.heap.size := (by omega); have q3 : w4.heap.size < w6.heap.size := (by omega); (try have q4 : w4.heap.size + 1 < w6.heap.size := (by omega)); (try have q5 : w5.heap.size < w6.heap.size := (by omega)); have HB6 := Lib.hid hb6; clear hb6))
  all_goals
    go_wp2_with fail
    go_ret
    have a1 := HB4.out
    have s1 := a1.size
    have a2 : Below w.heap.size w w5 := by
      first
        | exact ((a1.alloc s1 _).drew).trans (HB5.out.mono (by simp; omega))
        | exact (((a1.alloc s1 _).alloc (by simp; omega) _).drew).trans (HB5.out.mono (by simp; omega))
    have s2 := a2.size
    have a3 : Below w.heap.size w w6 := by
      first
        | exact a2.trans (HB6.out.mono s2)
        | exact (a2.alloc s2 _).trans (HB6.out.mono (by simp; omega))
    have s3 := a3.size
    refine ⟨rfl, ?_⟩
    first
      | exact a3.alloc s3 _
      | exact (a3.setCell (by simp; omega) _).setCell (by simp; omega) _
theorem law_parts (hi lo n : Nat) (w : World) (ht : Tab w) (hh : hi < 18446744073709551616) (hl : lo < 18446744073709551616) (hn : n < 18446744073709551616) :
    Calls Tryd.prog 4 #[.agg #[.int .u64 (hi : Int), .int .u64 (lo : Int)], .int .u64 (n : Int)] w fun e w' => e = .returned (.bool true) ∧ Below w.heap.size w w' := by
  rcases Nat.eq_zero_or_pos n with h0 | h0
  · subst h0
    exact parts_zero hi lo w ht hh hl
  · have hx := numW_lt hh hl
    have hdm := Nat.div_add_mod' (numW hi lo) n
    have hrn := Nat.mod_lt (numW hi lo) h0
    have hq : numW hi lo / n < 65536 ^ 8 := Nat.lt_of_le_of_lt (Nat.div_le_self _ _) hx
    have hp : numW hi lo / n * n < 65536 ^ 8 := by omega
    have hrl : numW hi lo % n < 18446744073709551616 := Nat.lt_trans hrn hn
    refine parts_core hi lo n _ _ _ (hiW (numW hi lo / n * n)) (loW (numW hi lo / n * n)) w ht (DivT.of h0 fun W => div_any hi lo n W hl hh hn) (DivT.of h0 fun W => rdiv_any hi lo n W hl hh hn) hrn ?_ ?_ ?_
    · intro W
      refine (scale_any _ _ n W (hiW_lt hq) (loW_lt _) hn).mono fun _ _ ⟨h, l, c, he, hf, hb⟩ => ?_
      rw [numW_hl] at hf
      rcases hf with ⟨_, rfl, rfl, rfl⟩ | ⟨h1, _⟩
      · exact ⟨he, hb⟩
      · exact absurd hp h1
    · exact fun W => of_any _ W
    · intro W
      refine (add_any _ _ 0 _ W (hiW_lt hp) (loW_lt _) (by decide) hrl).mono fun _ _ ⟨h, l, c, he, hf, hb⟩ => ?_
      have e : numW (hiW (numW hi lo / n * n)) (loW (numW hi lo / n * n)) + numW 0 (numW hi lo % n) = numW hi lo := by
        rw [numW_hl]
        show _ + (0 * 18446744073709551616 + numW hi lo % n) = _
        rw [Nat.zero_mul, Nat.zero_add]
        exact hdm
      rw [e] at hf
      have e1 : hiW (numW hi lo) = hi := by unfold hiW numW; omega
      have e2 : loW (numW hi lo) = lo := by unfold loW numW; omega
      rcases hf with ⟨_, rfl, rfl, rfl⟩ | ⟨h1, _⟩
      · rw [e1, e2] at he
        exact ⟨he, hb⟩
      · exact absurd hx h1

set_option maxRecDepth 100000 in
theorem lifted_parts (os : Os) (started : os.Started) (H : Type) (enc : TypeId × Value → H) :
    ReturnsInHanded {} Tryd.checked os 4 .any (fun w args => (Rows.widePartsSpec.pre enc Tryd.prog Tryd.f4 [] false w args ∧ laidMetH Tryd.prog laid3 w) ∧ sizedMet enc Tryd.prog Tryd.f4 (OpenSpec.ofChange Rows.widePartsSpec) false w args)
      (Rows.widePartsSpec.post enc Tryd.prog Tryd.f4 false true false false) := by
  refine returnsInHanded_of_change_and (C := Tryd.checked) (X := fun w _ => laidMetH Tryd.prog laid3 w) (fun _ _ _ hh h => h.of_heap hh) own started (by kernel_rfl) Tryd.func4
    (ChangeSpec.witness_shaped (enc := enc) (C := Tryd.checked) (os := os) (X := fun w _ => laidMetH Tryd.prog laid3 w) false (World.doorLaid Tryd.prog 400 os) #[.agg #[.int .u64 0, .int .u64 0], .int .u64 0] 8 rfl (World.shaped_of_RefB (by kernel_rfl) (by kernel_rfl)) (by kernel_rfl) (by kernel_rfl) (by kernel_rfl) (door_met os _)) ?_
  intro W base args ds gs before hval0 hW _ _ hL _
  have hval : ∀ (j : Nat) t v, Tryd.f4.params[j]? = some t → args[j]? = some v → Value.okWide Tryd.prog W .any base t v := hval0
  have hW' := hW
  obtain ⟨p, q, hA0, hV, rfl, hfz, hnd⟩ := hW
  have hA : DataW.TrodAll enc Tryd.prog W 0 (fun _ => true) true Tryd.f4.params.toList args.toList ds p := hA0
  rw [Tryd.params4] at hA hval
  obtain ⟨v0, v1, d0, d1, p0, p1, rfl, rfl, rfl, h0, h1⟩ := trodAll_two hA
  obtain ⟨rfl, rfl⟩ := trodVars_none hV
  obtain ⟨c0, c1, y0, y1, m, rfl, rfl, rfl, hy0, hy1⟩ := open_agg2 Tryd.underlying24 (by kernel_rfl) cells24 (hval 0 24 v0 rfl rfl) h0
  obtain ⟨a, e0, rfl, wa⟩ := DataW.trod_int Tryd.underlying22 hy0
  obtain ⟨b, e1, rfl, wb⟩ := DataW.trod_int Tryd.underlying22 hy1
  obtain ⟨n, rfl, rfl, rfl, wn⟩ := open_int Tryd.underlying22 (hval 1 22 v1 rfl rfl) h1
  simp at e0 e1
  subst e0 e1
  have ht := tab_of_laid hL
  clear hA0 hval0
  simp only [List.append_nil] at hW'
  have ba := bounds_u64 wa
  have bb := bounds_u64 wb
  have bn := bounds_u64 wn
  obtain ⟨a', rfl⟩ := Int.eq_ofNat_of_zero_le ba.1
  obtain ⟨b', rfl⟩ := Int.eq_ofNat_of_zero_le bb.1
  obtain ⟨n', rfl⟩ := Int.eq_ofNat_of_zero_le bn.1
  have structReads : ∀ (V : World) (sp : Nat → Bool), DataW.Trod enc Tryd.prog V 0 sp true 24 (.agg #[.int .u64 (a' : Int), .int .u64 (b' : Int)]) (.agg [.lit (.int .u64 (a' : Int)), .lit (.int .u64 (b' : Int))]) [] := fun V sp =>
    shut_agg2 (y0 := (.lit (.int .u64 (a' : Int)), [])) (y1 := (.lit (.int .u64 (b' : Int)), [])) Tryd.underlying24 (by kernel_rfl) cells24 ⟨1, by simp [DataW.trod, Tryd.underlying22, wa]⟩ ⟨1, by simp [DataW.trod, Tryd.underlying22, wb]⟩
  refine (law_parts a' b' n' W ht (by omega) (by omega) (by omega)).mono fun e W' ⟨he, hw⟩ => ?_
  subst he
  exact ⟨_, rfl, post_plain (ds := [_, _]) rfl hW' (by kernel_rfl) rfl rfl rfl (fun V sp => trodAll_mk2 (structReads V sp) (shut_int Tryd.underlying22 wn)) hw⟩
theorem wideParts_row : Rows.WidePartsSaid :=
  OpenClaim.holds_of_wide 4 Tryd.f4 rfl rfl rfl rfl rfl rfl rfl ⟨rfl, rfl, rfl, rfl, rfl⟩ rfl rfl rfl rfl rfl (by kernel_rfl) Tryd.func4 (by kernel_rfl)
    (of_decide_eq_true (by kernel_rfl)) (by unfold Func.isWrapper; first | (rw [if_pos (by decide +kernel)]; kernel_rfl) | (rw [if_neg (by decide +kernel)]; exact ⟨rfl, rfl⟩))
    (fun os started H enc _ => lifted_parts os started H enc)
theorem wideParts_holds : Rows.WidePartsCardSaid :=
  Claim7.holds_tied_plain_at .later [] [.data, .data, .data] true (true, "a4448f60cc3838328132f51958cb197030f009beffd36e239ae103d15c994d3b") false
    wideParts_row (fun _ h => by cases h) (by kernel_rfl) (fun _ h => by cases h) wideParts_row_tie rfl ⟨rfl, rfl⟩ (by kernel_rfl) rfl
    (fun f fn hf hfn => by
      obtain rfl : f = 4 := Option.some.inj ((show Tryd.prog.funcNamed "pochoir/pochoirlaw01.WideParts" = some 4 by kernel_rfl).symm.trans hf) |>.symm
      obtain rfl : fn = Tryd.f4 := (Option.some.inj (Tryd.func4.symm.trans hfn)).symm
      exact ⟨by kernel_rfl, fun j t ht => by
        rw [Tryd.params4] at ht
        have hm : t ∈ [24, 22] := by simpa using Array.mem_of_getElem? ht
        have hall : ([24, 22].all fun u => !Tryd.prog.wantsStandIn u) = true := by kernel_rfl
        exact (show Tryd.prog.wantsStandIn t = false by simpa using List.all_eq_true.1 hall t hm)⟩)
    (by kernel_rfl)
#print axioms wideParts_holds
end Go.Proofs.YtmhpfmhpilmfdaaDoor
