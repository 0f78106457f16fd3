/- Proved here: the law PolyValues returns true, of a small list of numbers and a fraction that may be. Condition: these lie in memory. -/
import Derived.Test.YtfjlgemobkkhoaaSc
namespace Go.Proofs.Ytfjlgemobkkhoaa
open Go.RowKit

theorem woF_len (n d : Int) : ∀ (k : Nat) (p : List Int), (woF n d k p).1.length ≤ p.length
  | 0, p => Nat.le_refl _
  | k + 1, p => by
    simp only [woF]
    split
    · have := woF_len n d k (syn n d (p.drop 1))
      rw [syn_len, List.length_drop] at this
      simp only
      omega
    · exact Nat.le_refl _
theorem woP_len (n d : Int) (p : List Int) : (woP n d p).1.length ≤ p.length := woF_len n d _ p
set_option maxRecDepth 100000 in
set_option maxHeartbeats 4000000 in
theorem law_values_yes (A : Option Addr) (m c : Nat) (L : List Int) (l : Nat) (n d : Int) (w : World) (h : Pol .a w (.slice A m c) L l) (hn : Fit n) (hd : Fit d) (h1 : SmP w A m) (hmb : Maybe n d) :
    Calls Try.prog 4 #[.slice A m c, .agg #[.int .i64 n, .int .i64 d]] w fun e w' => e = .returned (.bool true) ∧ Below w.heap.size w w' := by
  have H1 := Lib.hid (fun W hW => small5_yes A m c L l w W h hW h1)
  have HP := Lib.hid (h.small h1.2)
  have hm := h1.1
  have hmL := h.cap.1
  have HAW := Lib.hid awake_any
  have hmd : decide (Maybe n d) = true := decide_eq_true hmb
  have HM := Lib.hid (fun W => may5_any n d W hn hd)
  rw [hmd] at HM
  obtain ⟨T, hT⟩ : ∃ T, T = trz L := ⟨_, rfl⟩
  obtain ⟨x, hx⟩ : ∃ x, x = T.length := ⟨_, rfl⟩
  have hxl : x ≤ 13 := by rw [hx, hT]; have := trz_le L; omega
  have hxp : x = pl L := by rw [hx, hT, trz_len]
  have E := Lib.hid (show trz L = T ∧ T.length = x ∧ Cf T ∧ x = pl L from ⟨hT.symm, hx.symm, by rw [hT]; exact cf_trz L, hxp⟩)
  have HA := Lib.hid (fun W (hW : Below w.heap.size w W) => pat_yes A m c L 10 n d W (HP.out.bel hW) (by omega) (by omega) hn hd hmb)
  have HRA := Lib.hid (fun W Ax cx (hq : Pol .n W (.slice Ax x cx) T 20) => rhor_any Ax x cx T 20 n d W hq (by omega) (by omega) hn hd)
  obtain ⟨z, hz⟩ : ∃ z, z = hor n d T := ⟨_, rfl⟩
  rw [hT.symm, ← hz] at HA
  rw [← hz] at HRA
  have HB := Lib.hid (rt_start w n d)
  obtain ⟨f0, f1⟩ := rt_facts HB.out.1
  rcases Nat.eq_zero_or_pos x with hx0 | hx0
  · have HW := Lib.hid (fun W (hW : Below w.heap.size w W) => pwo_zero A m c L 10 n d W (HP.out.bel hW) (by omega) (by omega) hn hd hmb (by rw [← hT]; exact List.eq_nil_of_length_eq_zero (by omega)))
    have hxz : ((x : Int) == 0) = true := by simp; omega
    clear h h1 hmd hmb hT hx hxp hz hmL hn hd hx0
    go_enter Try.func4, Try.ntmps4
    go_upto_region 7 with (first
      | (go_at_call 7; (with_reducible refine (HAW.out _).mono ?_); rintro e w1 ⟨rfl, hb⟩; have HB := Lib.hid (And.intro (HB.out.1.below hb HB.out.1.lt) (bel_tr HB.out.2 hb)); clear hb f0 f1; obtain ⟨f0, f1⟩ := rt_facts HB.out.1)
      | (go_at_call 8; (with_reducible refine (H1.out _ HB.out.2).mono ?_); rintro e w2 ⟨rfl, hb⟩; have HB := Lib.hid (And.intro (HB.out.1.below hb HB.out.1.lt) (bel_tr HB.out.2 hb)); clear hb f0 f1; obtain ⟨f0, f1⟩ := rt_facts HB.out.1)
      | (go_at_call 9; (with_reducible refine (from5_any A m c L 10 _ (HP.out.bel HB.out.2) (by omega) (by omega)).mono ?_); rintro e w4 he; rw [E.out.1] at he; obtain ⟨Ax, cx, rfl, hp, hb⟩ := he; rw [E.out.2.1] at hp ⊢; have HS := Lib.hid (show LvS w w4 n d (.slice Ax x cx) T from ⟨bel_tr HB.out.2 hb, HB.out.1.below hb HB.out.1.lt, hp⟩); clear hp hb f0 f1; obtain ⟨f0, f1⟩ := rt_facts HS.out.x)
      | (go_at_call 20; (with_reducible refine (HA.out _ HS.out.bel).mono ?_); rintro e w5 ⟨Z, rfl, hZ, hb⟩; obtain ⟨b5, B5, p5, q5, rfl⟩ := hZ.form; have HE5 := Lib.hid hZ; have HS := Lib.hid (HS.out.next hb); clear hZ hb f0 f1; obtain ⟨f0, f1⟩ := rt_facts HS.out.x))
    have HV := Lib.hid (VxS.new w5 HE5.out)
    have HS := Lib.hid (HS.out.next (bel_a w5 (.cells #[.bool b5, .slice B5 p5 q5] 38)))
    obtain ⟨gv, hgv⟩ : ∃ gv, gv = w5.heap.size := ⟨_, rfl⟩
    obtain ⟨W6, hW6⟩ : ∃ W6, W6 = w5.alloc (.cells #[.bool b5, .slice B5 p5 q5] 38) := ⟨_, rfl⟩
    rw [← hW6] at HV HS ⊢
    rw [← hgv] at HV ⊢
    clear hgv hW6 f0 f1 HB HE5
    obtain ⟨f0, f1⟩ := rt_facts HS.out.x
    have k0 := HV.out.1.c0
    have k1 := HV.out.1.c1
    go_upto_region 10 with (first
      | (go_at_call 21; (with_reducible refine (HW.out _ HS.out.bel).mono ?_); rintro e w7 ⟨rfl, hb⟩; have HV := Lib.hid (HV.out.next hb); have HS := Lib.hid (HS.out.next hb); clear hb f0 f1 k0 k1; obtain ⟨f0, f1⟩ := rt_facts HS.out.x; have k0 := HV.out.1.c0; have k1 := HV.out.1.c1)
      | (go_at_call 22; (with_reducible refine (HM.out _).mono ?_); rintro e w8 ⟨rfl, hb⟩; have HV := Lib.hid (HV.out.next hb); have HS := Lib.hid (HS.out.next hb); clear hb f0 f1 k0 k1; obtain ⟨f0, f1⟩ := rt_facts HS.out.x; have k0 := HV.out.1.c0; have k1 := HV.out.1.c1))
    go_region_held3 (fun w' => w'.cell? ⟨gv, 0, none⟩ = some (.bool b5) ∧ w'.cell? ⟨gv, 1, none⟩ = some (.slice B5 p5 q5) ∧ w'.cell? ⟨w.heap.size, 0, none⟩ = some (.int .i64 n) ∧ w'.cell? ⟨w.heap.size, 1, none⟩ = some (.int .i64 d))
      (exact ⟨k0, k1, f0, f1⟩)
      (first
      | (go_at_call 25; (with_reducible refine (HRA.out _ Ax cx HS.out.drew.py).mono ?_); rintro e w9 he; obtain ⟨n9, B9, p9, q9, rfl, he1, hb⟩ := he.open_; have HE9 := Lib.hid he1; have HS := Lib.hid (HS.out.drew.next hb); have HV := Lib.hid (HV.out.next ((Below.refl _ _).drew.trans hb)); clear he he1 hb f0 f1 k0 k1; obtain ⟨f0, f1⟩ := rt_facts HS.out.x; have k0 := HV.out.1.c0; have k1 := HV.out.1.c1)
      | (go_at_call 24; (with_reducible refine (to_any (.agg #[.bool n9, .slice B9 p9 q9]) z (20 + 10 + 6 * x) _ HE9.out.num_ (by omega)).mono ?_); rintro e wa he; obtain ⟨na, Ba, pa, qa, rfl, he1, hb⟩ := he.open1; have HEA := Lib.hid he1; have HS := Lib.hid (HS.out.next hb); have HV := Lib.hid (HV.out.next hb); clear he he1 hb f0 f1 k0 k1; obtain ⟨f0, f1⟩ := rt_facts HS.out.x; have k0 := HV.out.1.c0; have k1 := HV.out.1.c1)
      | (go_at_call 23; (with_reducible refine (same_any (.agg #[.bool b5, .slice B5 p5 q5]) (.agg #[.bool na, .slice Ba pa qa]) z (10 + 6 * m + 20) ((20 + 10 + 6 * x + 1) / 2) _ HV.out.big (El.bigc HEA.out) (by omega)).mono ?_); rintro e wb ⟨rfl, hb⟩; have HS := Lib.hid (HS.out.next hb); have HV := Lib.hid (HV.out.next hb); clear hb f0 f1 k0 k1; obtain ⟨f0, f1⟩ := rt_facts HS.out.x; have k0 := HV.out.1.c0; have k1 := HV.out.1.c1))
    all_goals
      go_wp2_with fail
      go_ret
      exact ⟨rfl, HS.out.bel⟩
  · have HW := Lib.hid (fun W (hW : Below w.heap.size w W) => pwo_yes A m c L 10 n d W (HP.out.bel hW) (by omega) (by omega) hn hd hmb (by omega))
    have HRW := Lib.hid (fun W Ax cx (hq : Pol .n W (.slice Ax x cx) T 20) => rwo_any Ax x cx T 20 n d W hq (by omega) (by omega) hn hd hmb E.out.2.2.1 hx0)
    rw [← hT] at HW
    obtain ⟨R, hR⟩ : ∃ R, R = woP n d T := ⟨_, rfl⟩
    rw [← hR] at HW HRW
    obtain ⟨nR, hnR⟩ : ∃ nR, nR = R.1.length := ⟨_, rfl⟩
    have hnl : nR ≤ 1000 := by
      have := woP_len n d T
      rw [hnR, hR]; omega
    have HNR := Lib.hid hnR.symm
    obtain ⟨tR, htR⟩ : ∃ tR, tR = R.2 := ⟨_, rfl⟩
    have HTR := Lib.hid htR.symm
    clear hR hnR htR
    have hxz : ((x : Int) == 0) = false := by simp; omega
    clear h h1 hmd hmb hT hx hxp hz hmL hn hd hx0
    go_enter Try.func4, Try.ntmps4
    go_upto_region 7 with (first
      | (go_at_call 7; (with_reducible refine (HAW.out _).mono ?_); rintro e w1 ⟨rfl, hb⟩; have HB := Lib.hid (And.intro (HB.out.1.below hb HB.out.1.lt) (bel_tr HB.out.2 hb)); clear hb f0 f1; obtain ⟨f0, f1⟩ := rt_facts HB.out.1)
      | (go_at_call 8; (with_reducible refine (H1.out _ HB.out.2).mono ?_); rintro e w2 ⟨rfl, hb⟩; have HB := Lib.hid (And.intro (HB.out.1.below hb HB.out.1.lt) (bel_tr HB.out.2 hb)); clear hb f0 f1; obtain ⟨f0, f1⟩ := rt_facts HB.out.1)
      | (go_at_call 9; (with_reducible refine (from5_any A m c L 10 _ (HP.out.bel HB.out.2) (by omega) (by omega)).mono ?_); rintro e w4 he; rw [E.out.1] at he; obtain ⟨Ax, cx, rfl, hp, hb⟩ := he; rw [E.out.2.1] at hp ⊢; have HS := Lib.hid (show LvS w w4 n d (.slice Ax x cx) T from ⟨bel_tr HB.out.2 hb, HB.out.1.below hb HB.out.1.lt, hp⟩); clear hp hb f0 f1; obtain ⟨f0, f1⟩ := rt_facts HS.out.x)
      | (go_at_call 20; (with_reducible refine (HA.out _ HS.out.bel).mono ?_); rintro e w5 ⟨Z, rfl, hZ, hb⟩; obtain ⟨b5, B5, p5, q5, rfl⟩ := hZ.form; have HE5 := Lib.hid hZ; have HS := Lib.hid (HS.out.next hb); clear hZ hb f0 f1; obtain ⟨f0, f1⟩ := rt_facts HS.out.x))
    have HV := Lib.hid (VxS.new w5 HE5.out)
    have HS := Lib.hid (HS.out.next (bel_a w5 (.cells #[.bool b5, .slice B5 p5 q5] 38)))
    obtain ⟨gv, hgv⟩ : ∃ gv, gv = w5.heap.size := ⟨_, rfl⟩
    obtain ⟨W6, hW6⟩ : ∃ W6, W6 = w5.alloc (.cells #[.bool b5, .slice B5 p5 q5] 38) := ⟨_, rfl⟩
    rw [← hW6] at HV HS ⊢
    rw [← hgv] at HV ⊢
    clear hgv hW6 f0 f1 HB HE5
    obtain ⟨f0, f1⟩ := rt_facts HS.out.x
    have k0 := HV.out.1.c0
    have k1 := HV.out.1.c1
    go_upto_region 10 with (first
      | (go_at_call 21; (with_reducible refine (HW.out _ HS.out.bel).mono ?_); rintro e w7 ⟨Aq, cq, rfl, hq, hb⟩; rw [HNR.out] at hq ⊢; rw [HTR.out]; have HQ := Lib.hid hq; clear hq; have HV := Lib.hid (HV.out.next hb); have HS := Lib.hid (HS.out.next hb); clear hb f0 f1 k0 k1; obtain ⟨f0, f1⟩ := rt_facts HS.out.x; have k0 := HV.out.1.c0; have k1 := HV.out.1.c1)
      | (go_at_call 22; (with_reducible refine (HM.out _).mono ?_); rintro e w8 ⟨rfl, hb⟩; have HQ := Lib.hid (HQ.out.bel hb); have HV := Lib.hid (HV.out.next hb); have HS := Lib.hid (HS.out.next hb); clear hb f0 f1 k0 k1; obtain ⟨f0, f1⟩ := rt_facts HS.out.x; have k0 := HV.out.1.c0; have k1 := HV.out.1.c1))
    go_region_held3 (fun w' => w'.cell? ⟨gv, 0, none⟩ = some (.bool b5) ∧ w'.cell? ⟨gv, 1, none⟩ = some (.slice B5 p5 q5) ∧ w'.cell? ⟨w.heap.size, 0, none⟩ = some (.int .i64 n) ∧ w'.cell? ⟨w.heap.size, 1, none⟩ = some (.int .i64 d))
      (exact ⟨k0, k1, f0, f1⟩)
      (first
      | (go_at_call 25; (with_reducible refine (HRA.out _ Ax cx HS.out.drew.py).mono ?_); rintro e w9 he; obtain ⟨n9, B9, p9, q9, rfl, he1, hb⟩ := he.open_; have HE9 := Lib.hid he1; have HQ := Lib.hid (HQ.out.bel ((Below.refl _ _).drew.trans hb)); have HS := Lib.hid (HS.out.drew.next hb); have HV := Lib.hid (HV.out.next ((Below.refl _ _).drew.trans hb)); clear he he1 hb f0 f1 k0 k1; obtain ⟨f0, f1⟩ := rt_facts HS.out.x; have k0 := HV.out.1.c0; have k1 := HV.out.1.c1)
      | (go_at_call 24; (with_reducible refine (to_any (.agg #[.bool n9, .slice B9 p9 q9]) z (20 + 10 + 6 * x) _ HE9.out.num_ (by omega)).mono ?_); rintro e wa he; obtain ⟨na, Ba, pa, qa, rfl, he1, hb⟩ := he.open1; have HEA := Lib.hid he1; have HQ := Lib.hid (HQ.out.bel hb); have HS := Lib.hid (HS.out.next hb); have HV := Lib.hid (HV.out.next hb); clear he he1 hb f0 f1 k0 k1; obtain ⟨f0, f1⟩ := rt_facts HS.out.x; have k0 := HV.out.1.c0; have k1 := HV.out.1.c1)
      | (go_at_call 23; (with_reducible refine (same_any (.agg #[.bool b5, .slice B5 p5 q5]) (.agg #[.bool na, .slice Ba pa qa]) z (10 + 6 * m + 20) ((20 + 10 + 6 * x + 1) / 2) _ HV.out.big (El.bigc HEA.out) (by omega)).mono ?_); rintro e wb ⟨rfl, hb⟩; have HQ := Lib.hid (HQ.out.bel hb); have HS := Lib.hid (HS.out.next hb); have HV := Lib.hid (HV.out.next hb); clear hb f0 f1 k0 k1; obtain ⟨f0, f1⟩ := rt_facts HS.out.x; have k0 := HV.out.1.c0; have k1 := HV.out.1.c1))
    all_goals
      go_wp2_with (first
        | (go_at_call 26; (with_reducible refine (HRW.out _ Ax cx HS.out.py).mono ?_); rintro e wc ⟨Ar, cr, rfl, hq, hb⟩; rw [HNR.out] at hq ⊢; rw [HTR.out]; have HQ2 := Lib.hid hq; have HQ := Lib.hid (HQ.out.bel hb); have HS := Lib.hid (HS.out.next hb); clear hq hb f0 f1; obtain ⟨f0, f1⟩ := rt_facts HS.out.x)
        | (go_at_call 10; (with_reducible refine (same5_any Aq Ar nR cq cr R.1 (10 + 30001) (20 + 546) _ HQ.out HQ2.out hnl (by omega) (by omega)).mono ?_); rintro e wd ⟨rfl, hb⟩; have HS := Lib.hid (HS.out.next hb); clear hb))
      go_ret
      exact ⟨rfl, HS.out.bel⟩
end Go.Proofs.Ytfjlgemobkkhoaa
