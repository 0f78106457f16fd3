/- Proved here: the law PolyRoots returns true, of at most 8 numbers of which one at least isn't 0, and a fraction that may be. Condition: the numbers lie in memory. -/
import Derived.Test.YtfjlgemobkkhoaaSf
import Derived.Test.YtfjlgemobkkhoaaPc
namespace Go.Proofs.Ytfjlgemobkkhoaa
open Go.RowKit

theorem woF_times (n d : Int) : ∀ (k : Nat) (p : List Int), (woF n d k p).2 ≤ p.length
  | 0, p => Nat.zero_le _
  | k + 1, p => by
    simp only [woF]
    split
    · next h =>
      have := woF_times n d k (syn n d (p.drop 1))
      rw [syn_len, List.length_drop] at this
      simp only
      omega
    · exact Nat.zero_le _
theorem woP_times (n d : Int) (p : List Int) : (woP n d p).2 ≤ p.length := woF_times n d _ p
set_option maxRecDepth 100000 in
set_option maxHeartbeats 4000000 in
theorem law_roots_main (A : Option Addr) (m c : Nat) (xs : List Int) (n d : Int) (w : World) (h : Ia w (.slice A m c) xs) (hn : Fit n) (hd : Fit d) (h8 : m ≤ 8) (hmb : Maybe n d) (hmin : n ≠ -9223372036854775808) (h0 : trz xs ≠ []) :
    Calls Try.prog 6 #[.slice A m c, .agg #[.int .i64 n, .int .i64 d]] w fun e w' => e = .returned (.bool true) ∧ Below w.heap.size w w' := by
  have HAW := Lib.hid awake_any
  have HB := Lib.hid (rt_start w n d)
  obtain ⟨f0, f1⟩ := rt_facts HB.out.1
  have hn8 : ¬ 8 < m := by omega
  have hmd : decide (Maybe n d) = true := decide_eq_true hmb
  have HM := Lib.hid (fun W => may5_any n d W hn hd)
  rw [hmd] at HM
  have HI := Lib.hid h
  have hnm : (n == -9223372036854775808) = false := by simpa using hmin
  obtain ⟨T, hT⟩ : ∃ T, T = trz xs := ⟨_, rfl⟩
  obtain ⟨x, hx⟩ : ∃ x, x = T.length := ⟨_, rfl⟩
  have hTc : Cf T := by rw [hT]; exact cf_trz xs
  have hx0 : 0 < x := by
    rcases Nat.eq_zero_or_pos x with h1 | h1
    · exact absurd (List.eq_nil_of_length_eq_zero (by rw [← hT, ← hx]; exact h1)) h0
    · exact h1
  have hxl : x ≤ 8 := by rw [hx, hT]; have := trz_le xs; have := h.cap.1; omega
  have hneg : IntKind.i64.wrap (-n) = -n := IntWalk.i64_in _ (by have h1 := hn.1; have h2 := hn.2; omega)
  have hfm : Fit (-n) := ⟨by have h2 := hn.2; omega, by have h1 := hn.1; omega⟩
  have hfit : ∀ i, Fit (co [-n, d] i) := by
    intro i
    rcases i with _ | _ | i
    · exact hfm
    · exact hd
    · rw [lin_beyond]; exact ⟨by omega, by omega⟩
  have HLT := Lib.hid (fun W => of_lit W [-n, d] [-n, d] 2 #[.int .i64 (-n), .int .i64 d] rfl rfl hfit (by omega) (lin_cf hmb.1))
  obtain ⟨Q, hQ⟩ : ∃ Q, Q = mulP T [-n, d] := ⟨_, rfl⟩
  have hQl : Q.length = x + 1 := by rw [hQ, hx]; exact lin_len hTc (by omega) (-n) d (by have := hmb.1; omega)
  have hQc : Cf Q := by rw [hQ]; exact cf_trz _
  obtain ⟨hr1, hr2⟩ := lin_root hTc (by omega) hmb.1 hmb.2
  rw [← hQ] at hr1 hr2
  obtain ⟨y, hy⟩ : ∃ y, y = Q.length := ⟨_, rfl⟩
  have hyl : y ≤ 9 := by omega
  have E := Lib.hid (show trz xs = T ∧ T.length = x ∧ Cf T ∧ trz T = T ∧ trz [-n, d] = [-n, d] ∧ mulP T [-n, d] = Q ∧ Q.length = y ∧ trz Q = Q ∧ pl T = x from
    ⟨hT.symm, hx.symm, hTc, trz_cf hTc, lin_cf hmb.1, hQ.symm, hy.symm, trz_cf hQc, by rw [pl_cf hTc, hx]⟩)
  have HA := Lib.hid (fun W Aq cq (hq : Pol .a W (.slice Aq y cq) Q 104) => pat_yes Aq y cq Q 104 n d W hq (by omega) (by omega) hn hd hmb)
  have HW := Lib.hid (fun W Aq cq (hq : Pol .a W (.slice Aq y cq) Q 104) => pwo_yes Aq y cq Q 104 n d W hq (by omega) (by omega) hn hd hmb (by rw [pl_cf hQc]; omega))
  have HRW := Lib.hid (fun W Ax cx (hq : Pol .n W (.slice Ax x cx) T 4) => rwo_any Ax x cx T 4 n d W hq (by omega) (by omega) hn hd hmb hTc hx0)
  rw [trz_cf hQc, hr1] at HA
  rw [trz_cf hQc, hr2] at HW
  obtain ⟨R, hR⟩ : ∃ R, R = (woP n d T).1 := ⟨_, rfl⟩
  obtain ⟨tR, htR⟩ : ∃ tR, tR = (woP n d T).2 := ⟨_, rfl⟩
  have hpair : woP n d T = (R, tR) := by rw [hR, htR]
  rw [hpair] at HW HRW
  obtain ⟨nR, hnR⟩ : ∃ nR, nR = R.length := ⟨_, rfl⟩
  have hnl : nR ≤ 1000 := by
    have := woP_len n d T
    rw [hnR, hR]; omega
  have htl : tR ≤ 1000 := by
    have h9 := woP_times n d T
    rw [htR]; omega
  have HNR := Lib.hid hnR.symm
  have hdx : ¬ ((x : Int) - 1 < 0) := by omega
  clear h hmd hmb hn hd hmin h0 hT hx hTc hfm hfit hQ hQl hQc hr1 hr2 hy hR htR hpair hnR
  go_enter Try.func6, Try.ntmps6
  go_upto_region 10 with (first
    | (go_at_call 7; (with_reducible refine (HAW.out _).mono ?_); rintro e w1 ⟨rfl, hb⟩; have HB := Lib.hid (And.intro (HB.out.1.below hb HB.out.1.lt) (bel_tr HB.out.2 hb)); clear hb f0 f1; obtain ⟨f0, f1⟩ := rt_facts HB.out.1)
    | (go_at_call 22; (with_reducible refine (HM.out _).mono ?_); rintro e w2 ⟨rfl, hb⟩; have HB := Lib.hid (And.intro (HB.out.1.below hb HB.out.1.lt) (bel_tr HB.out.2 hb)); clear hb f0 f1; obtain ⟨f0, f1⟩ := rt_facts HB.out.1)
    | (go_at_call 29; (with_reducible refine (pof_any A m c xs _ (HI.out.bel HB.out.2) (by omega)).mono ?_); rintro e w3 he; rw [E.out.1] at he; obtain ⟨A3, c3, rfl, hp, hb⟩ := he; rw [E.out.2.1] at hp ⊢; have HP := Lib.hid hp; have HB := Lib.hid (And.intro (HB.out.1.below hb HB.out.1.lt) (bel_tr HB.out.2 hb)); clear hb hp f0 f1; obtain ⟨f0, f1⟩ := rt_facts HB.out.1)
    | (go_at_call 19; (with_reducible refine (degree_any A3 x c3 T 2 _ HP.out.any).mono ?_); rw [E.out.2.2.2.2.2.2.2.2]; rintro e w4 ⟨rfl, hb⟩; have HP := Lib.hid (HP.out.bel hb); have HB := Lib.hid (And.intro (HB.out.1.below hb HB.out.1.lt) (bel_tr HB.out.2 hb)); clear hb f0 f1; obtain ⟨f0, f1⟩ := rt_facts HB.out.1)
    | (go_at_call 29; (with_reducible refine (HLT.out _).mono ?_); rintro e w5 ⟨A5, c5, rfl, hp, hb⟩; rw [show [-n, d].length = 2 from rfl] at hp ⊢; have HP5 := Lib.hid hp; have HP := Lib.hid ((HP.out.bel (bel_a _ _)).bel hb); have HB := Lib.hid (And.intro ((HB.out.1.alloc _).below hb (HB.out.1.alloc _).lt) (bel_tr (bel_tr HB.out.2 (bel_a _ _)) hb)); clear hb hp f0 f1; obtain ⟨f0, f1⟩ := rt_facts HB.out.1)
    | (go_at_call 15; (with_reducible refine (pmul_small A3 A5 x c3 2 c5 T [-n, d] 2 2 _ HP.out.any HP5.out.any (by omega) (by omega) (by omega) (by omega)).mono ?_); rintro e w6 he; rw [E.out.2.2.2.1, E.out.2.2.2.2.1, E.out.2.2.2.2.2.1] at he; obtain ⟨A6, c6, rfl, hp, hb⟩ := he; rw [E.out.2.2.2.2.2.2.1] at hp ⊢; have HQ := Lib.hid hp; have HB := Lib.hid (And.intro (HB.out.1.below hb HB.out.1.lt) (bel_tr HB.out.2 hb)); clear hb hp f0 f1; obtain ⟨f0, f1⟩ := rt_facts HB.out.1)
    | (go_at_call 20; (with_reducible refine (HA.out _ A6 c6 HQ.out.any).mono ?_); rintro e w7 ⟨Z, rfl, hZ, hb⟩; obtain ⟨b7, B7, p7, q7, rfl⟩ := hZ.form; obtain rfl := dig_zero hZ; have HQ := Lib.hid (HQ.out.bel hb); have HE7 := Lib.hid hZ; have HB := Lib.hid (And.intro (HB.out.1.below hb HB.out.1.lt) (bel_tr HB.out.2 hb)); clear hZ hb f0 f1; obtain ⟨f0, f1⟩ := rt_facts HB.out.1))
  have HV := Lib.hid (VxS.new w7 HE7.out)
  have HQ := Lib.hid (HQ.out.bel (bel_a w7 (.cells #[.bool b7, .slice B7 0 q7] 38)))
  have HB := Lib.hid (And.intro (HB.out.1.alloc (.cells #[.bool b7, .slice B7 0 q7] 38)) (bel_tr HB.out.2 (bel_a w7 (.cells #[.bool b7, .slice B7 0 q7] 38))))
  obtain ⟨gv, hgv⟩ : ∃ gv, gv = w7.heap.size := ⟨_, rfl⟩
  obtain ⟨W8, hW8⟩ : ∃ W8, W8 = w7.alloc (.cells #[.bool b7, .slice B7 0 q7] 38) := ⟨_, rfl⟩
  rw [← hW8] at HV HQ HB ⊢
  rw [← hgv] at HV ⊢
  clear hgv hW8 f0 f1 HE7 HP HP5
  obtain ⟨f0, f1⟩ := rt_facts HB.out.1
  have k1 := HV.out.1.c1
  go_upto_region 11 with (go_at_call 21; (with_reducible refine (HW.out _ A6 c6 HQ.out.any).mono ?_); rintro e w9 ⟨Aq, cq, rfl, hq, hb⟩; have hq' : Pol .c w9 (.slice Aq nR cq) R (104 + 30001) := (by rw [← HNR.out]; exact hq); (try simp only [HNR.out]); have HG := Lib.hid hq'; have HV := Lib.hid (HV.out.next hb); have HB := Lib.hid (And.intro (HB.out.1.below hb HB.out.1.lt) (bel_tr HB.out.2 hb)); clear hb hq hq' f0 f1 k1; obtain ⟨f0, f1⟩ := rt_facts HB.out.1; have k1 := HV.out.1.c1)
  go_region_held3 (fun w' => w'.cell? ⟨w.heap.size, 0, none⟩ = some (.int .i64 n) ∧ w'.cell? ⟨w.heap.size, 1, none⟩ = some (.int .i64 d))
    (exact ⟨f0, f1⟩)
    (first
    | (go_at_call 30; (with_reducible refine (rof5_any A m c xs _ (HI.out.bel (HB.out.2.trans (Below.refl _ _).drew)) (by omega)).mono ?_); rintro e wa he; rw [E.out.1] at he; obtain ⟨Ax, cx, rfl, hp, hb⟩ := he; rw [E.out.2.1] at hp ⊢; have HX := Lib.hid hp; have hb2 := (Below.refl w9.heap.size w9).drew.trans hb; have HG := Lib.hid (HG.out.bel hb2); have HV := Lib.hid (HV.out.next hb2); have HB := Lib.hid (And.intro (HB.out.1.below hb2 HB.out.1.lt) (bel_tr HB.out.2 hb2)); clear hb hb2 hp f0 f1 k1; obtain ⟨f0, f1⟩ := rt_facts HB.out.1; have k1 := HV.out.1.c1)
    | (go_at_call 26; (with_reducible refine (HRW.out _ Ax cx HX.out).mono ?_); rintro e wb ⟨Ar, cr, rfl, hq, hb⟩; have hq' : Pol .n wb (.slice Ar nR cr) R (4 + 546) := (by rw [← HNR.out]; exact hq); (try simp only [HNR.out]); have HG2 := Lib.hid hq'; have HG := Lib.hid (HG.out.bel hb); have HV := Lib.hid (HV.out.next hb); have HB := Lib.hid (And.intro (HB.out.1.below hb HB.out.1.lt) (bel_tr HB.out.2 hb)); clear hb hq hq' f0 f1 k1; obtain ⟨f0, f1⟩ := rt_facts HB.out.1; have k1 := HV.out.1.c1))
  all_goals
    go_wp2_with (go_at_call 10; (with_reducible refine (same5_any Aq Ar nR cq cr R (104 + 30001) (4 + 546) _ HG.out HG2.out hnl (by omega) (by omega)).mono ?_); rintro e wc ⟨rfl, hb⟩; have HB := Lib.hid (And.intro (HB.out.1.below hb HB.out.1.lt) (bel_tr HB.out.2 hb)); clear hb)
    go_ret
    exact ⟨rfl, HB.out.2⟩
end Go.Proofs.Ytfjlgemobkkhoaa
