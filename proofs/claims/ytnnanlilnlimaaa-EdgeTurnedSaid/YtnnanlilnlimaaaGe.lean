/- Proved here: what the law EdgeTurned answers, over memory. Condition: points that lie in memory; no fewer room than points. -/
import Derived.Test.YtnnanlilnlimaaaGd
import Derived.Deep.RegionLaw
namespace Go.Proofs.Ytnnanlilnlimaaa
open Go.RowKit

set_option maxHeartbeats 8000000 in
set_option maxRecDepth 100000 in
theorem turned_good (ad : Addr) (m c : Nat) (L : List Pt) (a : Nat) (w : World) (hP : Ptl w (some ad) m L) (hm : m ≤ 60) (hc : m ≤ c) (ha : a < m) (ho : po L a = true) : Calls Try.prog 5 #[.slice (some ad) m c, .int .i64 (a : Int)] w fun e w' => e = .returned (.bool true) ∧ Below w.heap.size w w' := by
  have CA := Lib.hid (awake_any w)
  have hlen := hP.len
  have e0 : ((m : Int) == 0) = false := by simp; omega
  have e1 : decide (60 < (m : Int)) = false := decide_eq_false (by omega)
  have e2 : decide ((a : Int) < 0) = false := decide_eq_false (by omega)
  have e3 : decide ((m : Int) ≤ (a : Int)) = false := decide_eq_false (by omega)
  have g1 : (0 : Int) ≤ (a : Int) := by omega
  have g2 : (a : Int) < (m : Int) := by omega
  have HP := Lib.hid hP
  have HOn := Lib.hid ho
  have CM := Lib.hid (fun W (hb : Below w.heap.size w W) => rmay_any (some ⟨W.heap.size, 0, none⟩) 1 1 [L] (W.alloc (.cells #[.slice (some ad) m c] 38)) (ctl_one (hP.bel hb)) (by omega) (one_few (by omega)))
  by_cases hM : MayG [L]
  rotate_left
  · rw [decide_eq_false hM] at CM
    clear hP hlen ho hM
    go_enter Try.func5, Try.ntmps5
    go_upto_region 3 with (go_at_call 6; (with_reducible refine CA.out.mono ?_); rintro e w1 ⟨rfl, hb⟩; have B := Lib.hid hb; clear hb)
    obtain ⟨ad', hA, c0, c1, c2⟩ := HP.out.at_ B.out ha
    injection hA with hA
    subst hA
    rw [HOn.out] at c2
    go_wp2_with (go_at_call 17; (with_reducible refine (CM.out _ B.out).mono ?_); rintro e w2 ⟨rfl, hb⟩; have B2 := Lib.hid ((B.out.alloc B.out.size _).trans (hb.mono (B.out.alloc B.out.size _).size)); clear hb)
    go_ret
    exact ⟨rfl, B2.out⟩
  rw [decide_eq_true hM] at CM
  obtain ⟨E, E', hE, hE', hT, hM'⟩ := edges_turn hM (show a < L.length by omega) ho
  have hEl : E.length ≤ 1000 := by
    have h := cE_len 3 0 L
    have h2 := EdP_one hM (px := 3) (by decide) (by decide)
    rw [hE] at h2
    injection h2 with _ h2
    rw [h2]; omega
  have CE := Lib.hid (fun W (hb : Below w.heap.size w W) => show Calls Try.prog 8 #[.slice (some ⟨W.heap.size, 0, none⟩) 1 1, .int .i64 3] (W.alloc (.cells #[.slice (some ad) m c] 38)) (EdK (0, E) (W.alloc (.cells #[.slice (some ad) m c] 38))) from by
    have h := edgesK_any (some ⟨W.heap.size, 0, none⟩) 1 1 [L] 3 (W.alloc (.cells #[.slice (some ad) m c] 38)) (ctl_one (hP.bel hb)) (by omega) (one_few (by omega))
    rw [hE] at h
    exact h)
  obtain ⟨R, hR⟩ : ∃ R, R = L.drop a ++ L.take a := ⟨_, rfl⟩
  have hRl : R.length = m := by rw [hR, List.length_append, List.length_drop, List.length_take, hlen]; omega
  rw [← hR] at hE'
  have CF := Lib.hid (fun A' c' W (h : Ptl W A' m R) => show Calls Try.prog 8 #[.slice (some ⟨W.heap.size, 0, none⟩) 1 1, .int .i64 3] (W.alloc (.cells #[.slice A' m c'] 38)) (EdK (0, E') (W.alloc (.cells #[.slice A' m c'] 38))) from by
    have h2 := edgesK_any (some ⟨W.heap.size, 0, none⟩) 1 1 [R] 3 (W.alloc (.cells #[.slice A' m c'] 38)) (ctl_one h) (by omega) (one_few (by omega))
    rw [hE'] at h2
    exact h2)
  have CG := Lib.hid (fun A' c' W (h : Ptl W A' m R) => show Calls Try.prog 8 #[.slice (some ⟨W.heap.size, 0, none⟩) 1 1, .int .i64 3] (W.alloc (.cells #[.slice A' m c'] 38)).drew (EdK (0, E') (W.alloc (.cells #[.slice A' m c'] 38)).drew) from by
    have h2 := edgesK_any (some ⟨W.heap.size, 0, none⟩) 1 1 [R] 3 (W.alloc (.cells #[.slice A' m c'] 38)).drew (ctl_oneD h) (by omega) (one_few (by omega))
    rw [hE'] at h2
    exact h2)
  have HR := Lib.hid hR
  have HRl := Lib.hid hRl
  have HT := Lib.hid hT
  have hl1 : (L.drop a).length = m - a := by rw [List.length_drop, hlen]
  have hl2 : (L.take a).length = a := by rw [List.length_take, hlen]; omega
  have HL1 := Lib.hid hl1
  have HL2 := Lib.hid hl2
  have hEl2 := Turn.len hT
  have HEl := Lib.hid hEl
  have HEl2 := Lib.hid hEl2
  have s1 := pcut_low ad m c a ha hc
  have s2 := pcut_high ad m c a (by omega) (by omega)
  clear hP hlen ho hM hM' hE hE' hT hR hRl hl1 hl2 hEl hEl2
  go_enter Try.func5, Try.ntmps5
  go_upto_region 3 with (go_at_call 6; (with_reducible refine CA.out.mono ?_); rintro e w1 ⟨rfl, hb⟩; have B := Lib.hid hb; clear hb)
  obtain ⟨ad', hA, c0, c1, c2⟩ := HP.out.at_ B.out ha
  injection hA with hA
  subst hA
  rw [HOn.out] at c2
  go_upto_region 5 with (go_at_call 17; (with_reducible refine (CM.out _ B.out).mono ?_); rintro e w2 ⟨rfl, hb⟩; have B2 := Lib.hid ((B.out.alloc B.out.size (.cells #[.slice (some ad) m c] 38)).trans (hb.mono (B.out.alloc B.out.size (.cells #[.slice (some ad) m c] 38)).size)); clear hb)
  clear c0 c1 c2
  go_upto_region 6 with (go_at_call 8; (with_reducible refine (CE.out _ B2.out).mono ?_); rintro e w5 ⟨A1, n, d1, rfl, hX, hn, hb⟩; have HX := Lib.hid hX; have HN := Lib.hid hn; have B5 := Lib.hid ((B2.out.alloc B2.out.size (.cells #[.slice (some ad) m c] 38)).trans (hb.mono (B2.out.alloc B2.out.size (.cells #[.slice (some ad) m c] 38)).size)); clear hX hn hb)
  have hA0 : Below w5.heap.size w5 (w5.alloc (.cells #[] 40)) := (Below.refl _ _).alloc (Nat.le_refl _) _
  have HG0 := Lib.hid (show PgS w5 (w5.alloc (.cells #[] 40)) (.slice (some ⟨w5.heap.size, 0, none⟩) 0 0) 0 [] from ⟨World.ownsRow_lit w5 #[] 0 (Nat.le_refl _) (by unfold maxLen; omega) rfl, hA0⟩)
  have HG1 := Lib.hid (HG0.out.next (Below.drew (Below.refl _ _)))
  have hm60 : m ≤ 1000000 := by omega
  have hma : m - a ≤ 1000000 := by omega
  have hm1 : 0 + (m - a) = m - a := by omega
  have hm2 : m - a + a = m := by omega
  clear hA0
  go_region_law (first
    | (refine step_pts rfl (.tmp 51) (.tmp 54) rfl w5 (.slice (some ⟨w5.heap.size, 0, none⟩) 0 0) 0 [] rfl HG0.out _ (m - a) (c - a) (L.drop a) rfl HL1.out (HP.out.low (B5.out.trans (HG0.out.bel.mono B5.out.size)) (by omega) _) (m - a) (L.drop a) hm1 (List.nil_append _) hma ?_; intro A7 c7 w7 hS; have HG7 := Lib.hid hS; clear hS)
    | (refine step_pts rfl (.tmp 51) (.tmp 54) rfl w5 (.slice (some ⟨w5.heap.size, 0, none⟩) 0 0) 0 [] rfl HG1.out _ (m - a) (c - a) (L.drop a) rfl HL1.out (HP.out.low (B5.out.trans (HG1.out.bel.mono B5.out.size)) (by omega) _) (m - a) (L.drop a) hm1 (List.nil_append _) hma ?_; intro A7 c7 w7 hS; have HG7 := Lib.hid hS; clear hS)
    | (refine step_pts rfl (.tmp 55) (.tmp 58) rfl w5 (.slice A7 (m - a) c7) (m - a) (L.drop a) rfl HG7.out _ a c (L.take a) rfl HL2.out (HP.out.high (B5.out.trans (HG7.out.bel.mono B5.out.size)) (by omega) _) m R hm2 HR.out.symm hm60 ?_; intro A9 c9 w9 hS; have HG9 := Lib.hid hS; clear hS)
    | (go_simp; go_at_call 8; (with_reducible refine (CF.out _ _ _ (own_ptl HG9.out.own HRl.out)).mono ?_); rintro e w8 ⟨A2, n2, d2, rfl, hY, _, hb⟩; have HB8 := Lib.hid (HG9.out.bel.trans (((Below.refl w9.heap.size w9).alloc (Nat.le_refl _) (.cells #[.slice A9 m c9] 38)).mono HG9.out.bel.size |>.trans (hb.mono (by rw [size_a]; have := HG9.out.bel.size; omega)))); have HY := Lib.hid hY; clear hY hb)
    | (go_simp; go_at_call 8; (with_reducible refine (CG.out _ _ _ (own_ptl HG9.out.own HRl.out)).mono ?_); rintro e w8 ⟨A2, n2, d2, rfl, hY, _, hb⟩; have HY := Lib.hid hY; clear hY hb))
  have hnn : n2 = n := by rw [← HY.out.len, ← HX.out.len]; exact HEl2.out.symm
  subst hnn
  have HX8 := Lib.hid (HX.out.bel HB8.out)
  have B8 := Lib.hid (B5.out.trans (HB8.out.mono B5.out.size))
  have hn1 : n2 ≤ 1000 := by rw [← HX.out.len]; exact HEl.out
  go_wp2_with fail
  go_loopw [71] (fun i wr => ∃ k : Nat, i = .int .i64 (k : Int) ∧ k ≤ n2 ∧ (∀ j, j < k → ¬ E.drop j ++ E.take j = E') ∧ Below w8.heap.size w8 wr) (fun i _ => n2 - (intOf i).toNat)
  case atStart => exact ⟨0, rfl, Nat.zero_le _, fun j hj => by omega, Below.refl _ _⟩
  case round =>
    obtain ⟨k, rfl, hk, hnot, hb⟩ := hrel
    have HB := Lib.hid hb
    have HNot := Lib.hid hnot
    by_cases hgo : k < n2
    · obtain ⟨ad1, rfl, _⟩ := HX8.out.get k hgo
      have s3 := ecut_low ad1 n2 d1 k hgo HN.out
      have s4 := ecut_high ad1 n2 d1 k (by have := HN.out; omega) (by have := HN.out; omega)
      have hl3 : (E.drop k).length = n2 - k := by rw [List.length_drop, HX8.out.len]
      have hl4 : (E.take k).length = k := by rw [List.length_take, HX8.out.len]; omega
      obtain ⟨S, hS⟩ : ∃ S, S = E.drop k ++ E.take k := ⟨_, rfl⟩
      have hSl : S.length = n2 := by rw [hS, List.length_append, hl3, hl4]; omega
      obtain ⟨q, hq⟩ : ∃ q, q = decide (S = E') := ⟨_, rfl⟩
      have CS := Lib.hid (fun A9 c9 W (h1 : Edl W A9 n2 S) (h2 : Edl W A2 n2 E') => show Calls Try.prog 10 #[.slice A9 n2 c9, .slice A2 n2 d2] W fun e w' => e = .returned (.bool q) ∧ Below W.heap.size W w' from by
        have h := esame_any A9 A2 n2 n2 c9 d2 S E' W h1 h2 (by omega) (by omega)
        rw [← hq] at h
        exact h)
      have HS := Lib.hid hS
      have HSl := Lib.hid hSl
      have HL3 := Lib.hid hl3
      have HL4 := Lib.hid hl4
      have HQ := Lib.hid hq
      have HK0 := Lib.hid (show AlS wr (wr.alloc (.cells #[] 43)) (.slice (some ⟨wr.heap.size, 0, none⟩) 0 0) 0 [] from ⟨World.ownsRow_lit wr #[] 0 (Nat.le_refl _) (by unfold maxLen; omega) rfl, (Below.refl _ _).alloc (Nat.le_refl _) _⟩)
      have HK1 := Lib.hid (HK0.out.next (Below.drew (Below.refl _ _)))
      have hk1 : n2 ≤ 1000000 := by omega
      have hk2 : n2 - k ≤ 1000000 := by omega
      have hk3 : 0 + (n2 - k) = n2 - k := by omega
      have hk4 : n2 - k + k = n2 := by omega
      clear hb hnot hl3 hl4 hS hSl hq
      go_wp2_with fail
      go_region_law (first
        | (refine step_eds rfl (.tmp 74) (.tmp 77) rfl wr (.slice (some ⟨wr.heap.size, 0, none⟩) 0 0) 0 [] rfl HK0.out _ (n2 - k) (d1 - k) (E.drop k) rfl HL3.out (HX8.out.low (HB.out.trans (HK0.out.bel.mono HB.out.size)) (by omega) _) (n2 - k) (E.drop k) hk3 (List.nil_append _) hk2 ?_; intro A7 c7 w7 hS; have HK7 := Lib.hid hS; clear hS)
        | (refine step_eds rfl (.tmp 74) (.tmp 77) rfl wr (.slice (some ⟨wr.heap.size, 0, none⟩) 0 0) 0 [] rfl HK1.out _ (n2 - k) (d1 - k) (E.drop k) rfl HL3.out (HX8.out.low (HB.out.trans (HK1.out.bel.mono HB.out.size)) (by omega) _) (n2 - k) (E.drop k) hk3 (List.nil_append _) hk2 ?_; intro A7 c7 w7 hS; have HK7 := Lib.hid hS; clear hS)
        | (refine step_eds rfl (.tmp 78) (.tmp 81) rfl wr (.slice A7 (n2 - k) c7) (n2 - k) (E.drop k) rfl HK7.out _ k d1 (E.take k) rfl HL4.out (HX8.out.high (HB.out.trans (HK7.out.bel.mono HB.out.size)) (by omega) _) n2 S hk4 HS.out.symm hk1 ?_; intro A9 c9 w9 hS; have HK9 := Lib.hid hS; clear hS)
        | (go_simp; go_at_call 10; (with_reducible refine (CS.out _ _ _ (own_edl HK9.out.own HSl.out) (HY.out.bel (HB.out.trans (HK9.out.bel.mono HB.out.size)))).mono ?_); rintro e w10 ⟨rfl, hb⟩; have HB10 := Lib.hid ((HB.out.trans (HK9.out.bel.mono HB.out.size)).trans (hb.mono (HB.out.trans (HK9.out.bel.mono HB.out.size)).size)); clear hb))
      cases q with
      | true =>
        go_wp2_with fail
        go_ret
        exact ⟨rfl, B8.out.trans (HB10.out.mono B8.out.size)⟩
      | false =>
        go_wp2_with fail
        exact ⟨⟨k + 1, by simp, by omega, all_succ HNot.out (by rw [← HS.out]; exact of_decide_eq_false HQ.out.symm), HB10.out⟩, by simp [intOf]; omega⟩
    · obtain rfl : k = n2 := by omega
      have h0 : k = 0 := by
        rcases HT.out.at_ with h | ⟨j, hj, h⟩
        · rw [← HX8.out.len, h]; rfl
        · rw [HX8.out.len] at hj
          exact absurd h (hnot j hj)
      subst h0
      clear hnot hb
      go_wp2_with fail
      go_ret
      exact ⟨rfl, B8.out.trans (HB.out.mono B8.out.size)⟩
theorem law_turned (A : Option Addr) (m c : Nat) (L : List Pt) (at_ : Int) (w : World) (hP : Ptl w A m L) (hc : m ≤ c) (hmx : m ≤ maxLen) : Calls Try.prog 5 #[.slice A m c, .int .i64 at_] w fun e w' => e = .returned (.bool true) ∧ Below w.heap.size w w' := by
  have hlen := hP.len
  by_cases hbad : badT L at_
  · exact turned_bad A m c L at_ w hP hmx hbad
  · unfold badT at hbad
    rw [hlen] at hbad
    obtain ⟨a, rfl⟩ : ∃ a : Nat, at_ = (a : Int) := ⟨at_.toNat, by omega⟩
    have ho : po L a = true := by
      rcases hp : po L a with _ | _
      · exact absurd (.inr (.inr (.inr (.inr (by rw [Int.toNat_natCast]; exact hp))))) hbad
      · rfl
    obtain ⟨ad, rfl, _⟩ := hP.get 0 (by omega)
    exact turned_good ad m c L a w hP (by omega) hc (by omega) ho
end Go.Proofs.Ytnnanlilnlimaaa
