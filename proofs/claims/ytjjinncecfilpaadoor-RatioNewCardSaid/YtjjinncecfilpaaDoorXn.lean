/- Proved here: what the document's Parse of layer 3 answers. Condition: a text that isn't too long to be held. -/
import Derived.Test.YtjjinncecfilpaaDoorXm
import Derived.IntWalk
namespace Go.Proofs.YtjjinncecfilpaaDoor
open Go.RowKit

theorem parse_long (s : ByteArray) (w : World) (h1 : 40 < s.size) (h2 : s.size ≤ 1000000000) : Calls Tryd.prog 30 #[.string s] w (RatE (parL s.data.toList) w) := by
  have hl : s.data.toList.length = s.size := by simp
  have hr : parL s.data.toList = (0, 0, 6) := by unfold parL; rw [if_pos (by omega)]
  rw [hr]
  obtain ⟨n, hn⟩ : ∃ n, n = s.size := ⟨_, rfl⟩
  have hsz : s.size = n := hn.symm
  rw [← hn] at h1 h2
  clear hn hl hr
  have hd : decide (40 < (n : Int)) = true := decide_eq_true (by omega)
  go_enter Tryd.func30, Tryd.ntmps30
  go_wp2_with fail
  exact bodyPost_ret (ret_rt_2 rfl rfl rfl (Rt.new w 0 0)) rfl ⟨rfl, bel_a w _⟩
set_option maxHeartbeats 8000000 in
set_option maxRecDepth 100000 in
theorem parse_short (s : ByteArray) (w : World) (h1 : s.size ≤ 40) : Calls Tryd.prog 30 #[.string s] w (RatE (parL s.data.toList) w) := by
  obtain ⟨l, hl⟩ : ∃ l, l = s.data.toList := ⟨_, rfl⟩
  obtain ⟨m, hm⟩ : ∃ m, m = s.size := ⟨_, rfl⟩
  have hsz : s.size = m := hm.symm
  have hm40 : m ≤ 40 := by omega
  have hlm : l.length = m := by rw [hl, hm]; simp
  obtain ⟨k, hk⟩ : ∃ k, k = ks l := ⟨_, rfl⟩
  have hkm : k ≤ m := by rw [hk, ← hlm]; exact ks_le l
  have HNE := Lib.hid (show ∀ j, j < k → bat l j ≠ 47 from fun j hj => ks_ne l j (by rw [← hk]; exact hj))
  have HEQ := Lib.hid (show k < m → bat l k = 47 from fun h => by rw [hk]; exact ks_eq l (by rw [← hk, hlm]; exact h))
  have HI := Lib.hid (show ∀ j, j < m → ∀ W, (Instr.index 9 (.string s) (.int .i64 (j : Int))).run Tryd.prog W = .ok (.int .u8 (bat l j : Int)) W from fun j hj W => by rw [hl]; exact idx_run s j (by rw [← hl, hlm]; exact hj) (j : Int) rfl W)
  obtain ⟨P1, hP1⟩ : ∃ P : ByteArray, P = ⟨(l.take k).toArray⟩ := ⟨_, rfl⟩
  obtain ⟨P2, hP2⟩ : ∃ P : ByteArray, P = ⟨(l.drop (k + 1)).toArray⟩ := ⟨_, rfl⟩
  have hc1 : ∀ W, (Instr.slice 9 (.string s) none (some (.int .i64 (k : Int))) none).run Tryd.prog W = .ok (.string P1) W := fun W => by rw [hP1, hl]; exact cut_to s k (by omega) W
  have HC2 := Lib.hid (show k < m → ∀ W, (Instr.slice 9 (.string s) (some (.int .i64 ((k + 1 : Nat) : Int))) none none).run Tryd.prog W = .ok (.string P2) W from fun h W => by rw [hP2, hl]; exact cut_from s (k + 1) (by omega) W)
  obtain ⟨c1, hcc1⟩ : ∃ c, c = pcode (l.take k) := ⟨_, rfl⟩
  obtain ⟨z1, hz1⟩ : ∃ z, z = pnum (l.take k) := ⟨_, rfl⟩
  obtain ⟨c2, hcc2⟩ : ∃ c, c = pcode (l.drop (k + 1)) := ⟨_, rfl⟩
  obtain ⟨z2, hz2⟩ : ∃ z, z = pnum (l.drop (k + 1)) := ⟨_, rfl⟩
  have HP1 := Lib.hid (fun W => rparse_pt (l.take k) (by rw [List.length_take]; omega) W)
  have HP2 := Lib.hid (fun W => rparse_pt (l.drop (k + 1)) (by rw [List.length_drop]; omega) W)
  rw [← hP1, ← hcc1, ← hz1] at HP1
  rw [← hP2, ← hcc2, ← hz2] at HP2
  have HPL := Lib.hid (show parL l = if (if c1 = 0 ∧ k < m then c2 else c1) = 0 ∧ Fit z1 ∧ Fit (if c1 = 0 ∧ k < m then z2 else 1) ∧ Maybe z1 (if c1 = 0 ∧ k < m then z2 else 1) ∧ rtxt z1 (if c1 = 0 ∧ k < m then z2 else 1) = l then (z1, (if c1 = 0 ∧ k < m then z2 else 1), 0) else (0, 0, 4) by
    unfold parL
    rw [if_neg (by omega), ← hk, ← hcc1, ← hz1, ← hcc2, ← hz2, hlm])
  have HS := Lib.hid (show ∀ t : List UInt8, (⟨t.toArray⟩ : ByteArray) = s ↔ t = l from fun t => by
    rw [hl]
    constructor
    · intro h
      rw [← h]
    · intro h
      rw [h])
  rw [← hl]
  obtain ⟨R, hR⟩ : ∃ R, R = parL l := ⟨_, rfl⟩
  rw [← hR] at HPL ⊢
  have hd : decide (40 < (m : Int)) = false := decide_eq_false (by omega)
  have HO1 := Lib.hid (fun W => rof_any 1 W (by decide) (by decide))
  have HB := Lib.hid (And.intro (Rt.new w 0 0) (bel_a w (.cells #[.int .i64 0, .int .i64 0] 24)))
  clear hl hm hlm hk hP1 hP2 hcc1 hz1 hcc2 hz2 h1 hR
  go_enter Tryd.func30, Tryd.ntmps30
  go_wp2_with fail
  go_loop [4] (fun i => ∃ j : Nat, i = .int .i64 (j : Int) ∧ j ≤ k) (fun i => k - (intOf i).toNat)
  case atStart => exact ⟨0, rfl, Nat.zero_le _⟩
  case round =>
    obtain ⟨j, rfl, hj⟩ := hrel
    rcases Nat.lt_or_ge j k with hjk | hjk
    · have hi : ∀ W, (Instr.index 9 (.string s) (.int .i64 (j : Int))).run Tryd.prog W = .ok (.int .u8 (bat l j : Int)) W := fun W => HI.out j (by omega) W
      have hb1 : ((bat l j : Int) == 47) = false ∧ ((bat l j : Int) != 47) = true := by have := HNE.out j hjk; simp; omega
      obtain ⟨hb1, hb2⟩ := hb1
      have hd2 : decide ((j : Int) < (m : Int)) = true := decide_eq_true (by omega)
      go_wp2_with fail
      exact ⟨⟨j + 1, by simp, by omega⟩, by simp [intOf]; omega⟩
    · obtain rfl : j = k := by omega
      clear hjk hj
      by_cases hc0 : c1 = 0
      · subst hc0
        have hdk : decide ((j : Int) < (m : Int)) = true ∨ decide ((j : Int) < (m : Int)) = false := by cases decide ((j : Int) < (m : Int)) <;> simp
        rcases Nat.lt_or_ge j m with hkm2 | hkm2
        · have hi : ∀ W, (Instr.index 9 (.string s) (.int .i64 (j : Int))).run Tryd.prog W = .ok (.int .u8 (bat l j : Int)) W := fun W => HI.out j hkm2 W
          have hb47 := HEQ.out hkm2
          have hb1 : ((bat l j : Int) == 47) = true ∧ ((bat l j : Int) != 47) = false := by simp; omega
          obtain ⟨hb1, hb2⟩ := hb1
          have hd2 : decide ((j : Int) < (m : Int)) = true := decide_eq_true (by omega)
          have hc2 := HC2.out hkm2
          have hj1 : ((j + 1 : Nat) : Int) = (j : Int) + 1 := by simp
          rw [hj1] at hc2
          have HKM := Lib.hid hkm2
          have HSP := Lib.hid (show (if (0 : Nat) = 0 ∧ j < m then c2 else 0) = c2 ∧ (if (0 : Nat) = 0 ∧ j < m then z2 else 1) = z2 from ⟨if_pos ⟨rfl, hkm2⟩, if_pos ⟨rfl, hkm2⟩⟩)
          rw [HSP.out.1, HSP.out.2] at HPL
          clear hb47 hj1 hkm2 hdk
          by_cases hcz : c2 = 0
          · subst hcz
            go_upto_region 12 with (first
              | (go_at_call 56; (with_reducible refine (HP1.out _).mono ?_); rintro e w1 ⟨b1, C1, r1, q1, rfl, hz, hb⟩; have H1 := Lib.hid (And.intro ((HB.out.1.bel hb).alloc (.cells #[.bool b1, .slice C1 r1 q1] 65)) (And.intro (Bx.new 65 w1 b1 (.slice C1 r1 q1)) (And.intro (NumC.bel hz (bel_a w1 (.cells #[.bool b1, .slice C1 r1 q1] 65))) (And.intro (show w.heap.size < w1.heap.size from Nat.lt_of_lt_of_le HB.out.1.lt hb.size) (bel_tr (bel_tr HB.out.2 hb) (bel_a w1 (.cells #[.bool b1, .slice C1 r1 q1] 65))))))); clear hz hb)
              | (go_at_call 51; (with_reducible refine (HO1.out _).mono ?_); rintro e w2 he; obtain ⟨b2, C2, r2, q2, zs, rfl, hs, hb⟩ := he.open_; have hz : NumC w2 (.agg #[.bool b2, .slice C2 r2 q2]) 1 500 := NumC.le ⟨b2, _, zs, rfl, hs⟩ (by decide); have H := Lib.hid (show PpH w (w2.alloc (.cells #[.bool b2, .slice C2 r2 q2] 65)) w1.heap.size b1 (.slice C1 r1 q1) z1 w2.heap.size b2 (.slice C2 r2 q2) 1 from ⟨(H1.out.1.bel hb).alloc _, (H1.out.2.1.bel hb).alloc _, (H1.out.2.2.1.bel hb).bel (bel_a _ _), Bx.new 65 w2 b2 _, hz.bel (bel_a _ _), H1.out.2.2.2.1, Nat.lt_of_lt_of_le H1.out.2.1.lt hb.size, bel_tr (bel_tr H1.out.2.2.2.2 hb) (bel_a _ _)⟩); obtain ⟨f1, f2, f3, f4, f5, f6⟩ := H.out.facts; obtain ⟨k1, k2, k3, k4⟩ := H.out.res; clear he hs hb hz)
              | (go_at_call 56; (with_reducible refine (HP2.out _).mono ?_); rintro e w3 ⟨b3, C3, r3, q3, rfl, hz, hb⟩; have H := Lib.hid (H.out.next hb); clear f1 f2 f3 f4 f5 f6 k1 k2 k3 k4; obtain ⟨f1, f2, f3, f4, f5, f6⟩ := H.out.facts; have H := Lib.hid (PpH.put (m := b3) (z := .slice C3 r3 q3) H.out hz); clear hz hb; obtain ⟨k1, k2, k3, k4⟩ := H.out.res; have x1 := H.out.X.c0; have x2 := H.out.X.c1; have x3 := H.out.Y.c0; have x4 := H.out.Y.c1))
            by_cases hf1 : Fit z1
            · have e1 : decide (Fit z1) = true := decide_eq_true hf1
              have E1 := Lib.hid e1
              have HF1 := Lib.hid hf1
              clear e1 hf1
              by_cases hf2 : Fit z2
              · have e2 : decide (Fit z2) = true := decide_eq_true hf2
                have E2 := Lib.hid e2
                have HF2 := Lib.hid hf2
                clear e2 hf2
                by_cases hmb : Maybe z1 z2
                · have e3 : decide (Maybe z1 z2) = true := decide_eq_true hmb
                  have E3 := Lib.hid e3
                  have HMB := Lib.hid hmb
                  clear e3 hmb
                  obtain ⟨T, hT⟩ : ∃ T : ByteArray, T = ⟨(rtxt z1 z2).toArray⟩ := ⟨_, rfl⟩
                  have HTX := Lib.hid (fun W => rttext_any z1 z2 W HF1.out HF2.out)
                  rw [← hT] at HTX
                  by_cases htx : rtxt z1 z2 = l
                  · have hTs : T = s := by rw [hT]; exact (HS.out _).2 htx
                    subst hTs
                    have HTE := Lib.hid htx
                    clear htx hT
                    go_wp2_with (first
                      | (go_at_call 57; (with_reducible refine (smalln_any (.agg #[.bool b1, .slice C1 r1 q1]) z1 500 _ H.out.NX (by decide)).mono ?_); rintro e w4 ⟨⟨v1, he, hv1, _⟩, hb⟩; rw [E1.out] at he; subst he; rw [hv1 HF1.out]; have H := Lib.hid (H.out.next hb); clear x1 x2 x3 x4 k1 k2 k3 k4 hv1 hb; obtain ⟨x1, x2, x3, x4, _, _⟩ := H.out.facts)
                      | (go_at_call 57; (with_reducible refine (smalln_any (.agg #[.bool b3, .slice C3 r3 q3]) z2 500 _ H.out.NY (by decide)).mono ?_); rintro e w5 ⟨⟨v2, he, hv2, _⟩, hb⟩; rw [E2.out] at he; subst he; rw [hv2 HF2.out]; have H := Lib.hid (H.out.next hb); have hl5 := H.out.rr.lt; clear x1 x2 x3 x4 hv2 hb; obtain ⟨k1, k2, k3, k4⟩ := H.out.res)
                      | (go_at_call 12; (with_reducible refine (may_any z1 z2 _ HF1.out HF2.out).mono ?_); rintro e w6 ⟨he, hb⟩; rw [E3.out] at he; subst he; have H := Lib.hid ((H.out.next (bel_a w5 (.cells #[.int .i64 z1, .int .i64 z2] 24))).next hb); have HR := Lib.hid ((Rt.new w5 z1 z2).bel hb); clear k1 k2 k3 k4 hb; obtain ⟨k1, k2, k3, k4⟩ := H.out.res; have y1 := HR.out.c0; have y2 := HR.out.c1; have ny1 : ¬ w5.heap.size = w.heap.size := (by omega); have ny2 : ¬ w.heap.size = w5.heap.size := (by omega))
                      | (go_at_call 29; (with_reducible refine (HTX.out _).mono ?_); rintro e w7 ⟨rfl, hb⟩; have H := Lib.hid (H.out.next hb); have HR := Lib.hid (HR.out.bel hb); clear k1 k2 k3 k4 y1 y2 hb; obtain ⟨k1, k2, k3, k4⟩ := H.out.res; have y1 := HR.out.c0; have y2 := HR.out.c1))
                    exact bodyPost_ret (ret_rt_2 rfl rfl rfl ((H.out.rr.set0 z1).set1 z2)) rfl ⟨by rw [HPL.out, if_pos ⟨by first | exact rfl | trivial, HF1.out, HF2.out, HMB.out, HTE.out⟩]; rfl, bel_set (bel_set H.out.bel (Nat.le_refl _) _ _) (Nat.le_refl _) _ _⟩
                  · have hne : ¬ T = s := fun h => htx ((HS.out _).1 (by rw [← hT]; exact h))
                    have hb5 : (T.toList == s.toList) = false := beq_eq_false_iff_ne.2 (fun h => hne (by rw [ByteArray.toList_eq, ByteArray.toList_eq] at h; exact ByteArray.ext (Array.toList_inj.1 h)))
                    have HTE := Lib.hid htx
                    clear htx hT
                    go_wp2_with (first
                      | (go_at_call 57; (with_reducible refine (smalln_any (.agg #[.bool b1, .slice C1 r1 q1]) z1 500 _ H.out.NX (by decide)).mono ?_); rintro e w4 ⟨⟨v1, he, hv1, _⟩, hb⟩; rw [E1.out] at he; subst he; rw [hv1 HF1.out]; have H := Lib.hid (H.out.next hb); clear x1 x2 x3 x4 k1 k2 k3 k4 hv1 hb; obtain ⟨x1, x2, x3, x4, _, _⟩ := H.out.facts)
                      | (go_at_call 57; (with_reducible refine (smalln_any (.agg #[.bool b3, .slice C3 r3 q3]) z2 500 _ H.out.NY (by decide)).mono ?_); rintro e w5 ⟨⟨v2, he, hv2, _⟩, hb⟩; rw [E2.out] at he; subst he; rw [hv2 HF2.out]; have H := Lib.hid (H.out.next hb); have hl5 := H.out.rr.lt; clear x1 x2 x3 x4 hv2 hb; obtain ⟨k1, k2, k3, k4⟩ := H.out.res)
                      | (go_at_call 12; (with_reducible refine (may_any z1 z2 _ HF1.out HF2.out).mono ?_); rintro e w6 ⟨he, hb⟩; rw [E3.out] at he; subst he; have H := Lib.hid ((H.out.next (bel_a w5 (.cells #[.int .i64 z1, .int .i64 z2] 24))).next hb); have HR := Lib.hid ((Rt.new w5 z1 z2).bel hb); clear k1 k2 k3 k4 hb; obtain ⟨k1, k2, k3, k4⟩ := H.out.res; have y1 := HR.out.c0; have y2 := HR.out.c1; have ny1 : ¬ w5.heap.size = w.heap.size := (by omega); have ny2 : ¬ w.heap.size = w5.heap.size := (by omega))
                      | (go_at_call 29; (with_reducible refine (HTX.out _).mono ?_); rintro e w7 ⟨rfl, hb⟩; have H := Lib.hid (H.out.next hb); have HR := Lib.hid (HR.out.bel hb); clear k1 k2 k3 k4 y1 y2 hb; obtain ⟨k1, k2, k3, k4⟩ := H.out.res; have y1 := HR.out.c0; have y2 := HR.out.c1))
                    exact bodyPost_ret (ret_rt_2 rfl rfl rfl ((H.out.rr.set0 0).set1 0)) rfl ⟨by rw [HPL.out, if_neg (fun h => HTE.out h.2.2.2.2)]; rfl, bel_set (bel_set H.out.bel (Nat.le_refl _) _ _) (Nat.le_refl _) _ _⟩
                · have e3 : decide (Maybe z1 z2) = false := decide_eq_false hmb
                  have E3 := Lib.hid e3
                  have HMB := Lib.hid hmb
                  clear e3 hmb
                  go_wp2_with (first
                    | (go_at_call 57; (with_reducible refine (smalln_any (.agg #[.bool b1, .slice C1 r1 q1]) z1 500 _ H.out.NX (by decide)).mono ?_); rintro e w4 ⟨⟨v1, he, hv1, _⟩, hb⟩; rw [E1.out] at he; subst he; rw [hv1 HF1.out]; have H := Lib.hid (H.out.next hb); clear x1 x2 x3 x4 k1 k2 k3 k4 hv1 hb; obtain ⟨x1, x2, x3, x4, _, _⟩ := H.out.facts)
                    | (go_at_call 57; (with_reducible refine (smalln_any (.agg #[.bool b3, .slice C3 r3 q3]) z2 500 _ H.out.NY (by decide)).mono ?_); rintro e w5 ⟨⟨v2, he, hv2, _⟩, hb⟩; rw [E2.out] at he; subst he; rw [hv2 HF2.out]; have H := Lib.hid (H.out.next hb); have hl5 := H.out.rr.lt; clear x1 x2 x3 x4 hv2 hb; obtain ⟨k1, k2, k3, k4⟩ := H.out.res)
                    | (go_at_call 12; (with_reducible refine (may_any z1 z2 _ HF1.out HF2.out).mono ?_); rintro e w6 ⟨he, hb⟩; rw [E3.out] at he; subst he; have H := Lib.hid ((H.out.next (bel_a w5 (.cells #[.int .i64 z1, .int .i64 z2] 24))).next hb); have HR := Lib.hid ((Rt.new w5 z1 z2).bel hb); clear k1 k2 k3 k4 hb; obtain ⟨k1, k2, k3, k4⟩ := H.out.res; have y1 := HR.out.c0; have y2 := HR.out.c1; have ny1 : ¬ w5.heap.size = w.heap.size := (by omega); have ny2 : ¬ w.heap.size = w5.heap.size := (by omega)))
                  exact bodyPost_ret (ret_rt_2 rfl rfl rfl ((H.out.rr.set0 0).set1 0)) rfl ⟨by rw [HPL.out, if_neg (fun h => HMB.out h.2.2.2.1)]; rfl, bel_set (bel_set H.out.bel (Nat.le_refl _) _ _) (Nat.le_refl _) _ _⟩
              · have e2 : decide (Fit z2) = false := decide_eq_false hf2
                have E2 := Lib.hid e2
                have HF2 := Lib.hid hf2
                clear e2 hf2
                go_wp2_with (first
                  | (go_at_call 57; (with_reducible refine (smalln_any (.agg #[.bool b1, .slice C1 r1 q1]) z1 500 _ H.out.NX (by decide)).mono ?_); rintro e w4 ⟨⟨v1, he, hv1, _⟩, hb⟩; rw [E1.out] at he; subst he; rw [hv1 HF1.out]; have H := Lib.hid (H.out.next hb); clear x1 x2 x3 x4 k1 k2 k3 k4 hv1 hb; obtain ⟨x1, x2, x3, x4, _, _⟩ := H.out.facts)
                  | (go_at_call 57; (with_reducible refine (smalln_any (.agg #[.bool b3, .slice C3 r3 q3]) z2 500 _ H.out.NY (by decide)).mono ?_); rintro e w5 ⟨⟨v2, he, hv2, _⟩, hb⟩; rw [E2.out] at he; subst he; have H := Lib.hid (H.out.next hb); have hl5 := H.out.rr.lt; clear x1 x2 x3 x4 hv2 hb; obtain ⟨k1, k2, k3, k4⟩ := H.out.res))
                exact bodyPost_ret (ret_rt_2 rfl rfl rfl (((H.out.rr.set0 0).set1 0).alloc _)) rfl ⟨by rw [HPL.out, if_neg (fun h => HF2.out h.2.2.1)]; rfl, bel_tr (bel_set (bel_set H.out.bel (Nat.le_refl _) _ _) (Nat.le_refl _) _ _) (bel_a _ _)⟩
            · have e1 : decide (Fit z1) = false := decide_eq_false hf1
              have E1 := Lib.hid e1
              have HF1 := Lib.hid hf1
              clear e1 hf1
              have hff : Fit z2 ∨ ¬ Fit z2 := Decidable.em _
              by_cases hf2 : Fit z2
              · have e2 : decide (Fit z2) = true := decide_eq_true hf2
                have E2 := Lib.hid e2
                have HF2 := Lib.hid hf2
                clear e2 hf2
                go_wp2_with (first
                  | (go_at_call 57; (with_reducible refine (smalln_any (.agg #[.bool b1, .slice C1 r1 q1]) z1 500 _ H.out.NX (by decide)).mono ?_); rintro e w4 ⟨⟨v1, he, hv1, _⟩, hb⟩; rw [E1.out] at he; subst he; have H := Lib.hid (H.out.next hb); clear x1 x2 x3 x4 k1 k2 k3 k4 hv1 hb; obtain ⟨x1, x2, x3, x4, _, _⟩ := H.out.facts)
                  | (go_at_call 57; (with_reducible refine (smalln_any (.agg #[.bool b3, .slice C3 r3 q3]) z2 500 _ H.out.NY (by decide)).mono ?_); rintro e w5 ⟨⟨v2, he, hv2, _⟩, hb⟩; rw [E2.out] at he; subst he; rw [hv2 HF2.out]; have H := Lib.hid (H.out.next hb); have hl5 := H.out.rr.lt; clear x1 x2 x3 x4 hv2 hb; obtain ⟨k1, k2, k3, k4⟩ := H.out.res))
                exact bodyPost_ret (ret_rt_2 rfl rfl rfl (((H.out.rr.set0 0).set1 0).alloc _)) rfl ⟨by rw [HPL.out, if_neg (fun h => HF1.out h.2.1)]; rfl, bel_tr (bel_set (bel_set H.out.bel (Nat.le_refl _) _ _) (Nat.le_refl _) _ _) (bel_a _ _)⟩
              · have e2 : decide (Fit z2) = false := decide_eq_false hf2
                have E2 := Lib.hid e2
                have HF2 := Lib.hid hf2
                clear e2 hf2
                go_wp2_with (first
                  | (go_at_call 57; (with_reducible refine (smalln_any (.agg #[.bool b1, .slice C1 r1 q1]) z1 500 _ H.out.NX (by decide)).mono ?_); rintro e w4 ⟨⟨v1, he, hv1, _⟩, hb⟩; rw [E1.out] at he; subst he; have H := Lib.hid (H.out.next hb); clear x1 x2 x3 x4 k1 k2 k3 k4 hv1 hb; obtain ⟨x1, x2, x3, x4, _, _⟩ := H.out.facts)
                  | (go_at_call 57; (with_reducible refine (smalln_any (.agg #[.bool b3, .slice C3 r3 q3]) z2 500 _ H.out.NY (by decide)).mono ?_); rintro e w5 ⟨⟨v2, he, hv2, _⟩, hb⟩; rw [E2.out] at he; subst he; have H := Lib.hid (H.out.next hb); have hl5 := H.out.rr.lt; clear x1 x2 x3 x4 hv2 hb; obtain ⟨k1, k2, k3, k4⟩ := H.out.res))
                exact bodyPost_ret (ret_rt_2 rfl rfl rfl (((H.out.rr.set0 0).set1 0).alloc _)) rfl ⟨by rw [HPL.out, if_neg (fun h => HF1.out h.2.1)]; rfl, bel_tr (bel_set (bel_set H.out.bel (Nat.le_refl _) _ _) (Nat.le_refl _) _ _) (bel_a _ _)⟩
          · have hb3 : ((c2 : Int) == 0) = false ∧ ((c2 : Int) != 0) = true := by simp; omega
            obtain ⟨hb3, hb4⟩ := hb3
            have HCZ := Lib.hid hcz
            clear hcz
            go_wp2_with (first
              | (go_at_call 56; (with_reducible refine (HP1.out _).mono ?_); rintro e w1 ⟨b1, C1, r1, q1, rfl, hz, hb⟩; have H1 := Lib.hid (And.intro ((HB.out.1.bel hb).alloc (.cells #[.bool b1, .slice C1 r1 q1] 65)) (And.intro (Bx.new 65 w1 b1 (.slice C1 r1 q1)) (And.intro (NumC.bel hz (bel_a w1 (.cells #[.bool b1, .slice C1 r1 q1] 65))) (And.intro (show w.heap.size < w1.heap.size from Nat.lt_of_lt_of_le HB.out.1.lt hb.size) (bel_tr (bel_tr HB.out.2 hb) (bel_a w1 (.cells #[.bool b1, .slice C1 r1 q1] 65))))))); clear hz hb)
              | (go_at_call 51; (with_reducible refine (HO1.out _).mono ?_); rintro e w2 he; obtain ⟨b2, C2, r2, q2, zs, rfl, hs, hb⟩ := he.open_; have hz : NumC w2 (.agg #[.bool b2, .slice C2 r2 q2]) 1 500 := NumC.le ⟨b2, _, zs, rfl, hs⟩ (by decide); have H := Lib.hid (show PpH w (w2.alloc (.cells #[.bool b2, .slice C2 r2 q2] 65)) w1.heap.size b1 (.slice C1 r1 q1) z1 w2.heap.size b2 (.slice C2 r2 q2) 1 from ⟨(H1.out.1.bel hb).alloc _, (H1.out.2.1.bel hb).alloc _, (H1.out.2.2.1.bel hb).bel (bel_a _ _), Bx.new 65 w2 b2 _, hz.bel (bel_a _ _), H1.out.2.2.2.1, Nat.lt_of_lt_of_le H1.out.2.1.lt hb.size, bel_tr (bel_tr H1.out.2.2.2.2 hb) (bel_a _ _)⟩); obtain ⟨f1, f2, f3, f4, f5, f6⟩ := H.out.facts; obtain ⟨k1, k2, k3, k4⟩ := H.out.res; clear he hs hb hz)
              | (go_at_call 56; (with_reducible refine (HP2.out _).mono ?_); rintro e w3 ⟨b3, C3, r3, q3, rfl, hz, hb⟩; have H := Lib.hid (H.out.next hb); clear f1 f2 f3 f4 f5 f6 k1 k2 k3 k4; obtain ⟨f1, f2, f3, f4, f5, f6⟩ := H.out.facts; have H := Lib.hid (PpH.put (m := b3) (z := .slice C3 r3 q3) H.out hz); clear hz hb; obtain ⟨k1, k2, k3, k4⟩ := H.out.res; have x1 := H.out.X.c0; have x2 := H.out.X.c1; have x3 := H.out.Y.c0; have x4 := H.out.Y.c1))
            exact bodyPost_ret (ret_rt_2 rfl rfl rfl ((H.out.rr.set0 0).set1 0)) rfl ⟨by rw [HPL.out, if_neg (fun h => HCZ.out h.1)]; rfl, bel_set (bel_set H.out.bel (Nat.le_refl _) _ _) (Nat.le_refl _) _ _⟩
        · obtain rfl : j = m := by omega
          have HSP := Lib.hid (show (if (0 : Nat) = 0 ∧ j < j then c2 else 0) = 0 ∧ (if (0 : Nat) = 0 ∧ j < j then z2 else 1) = 1 from ⟨if_neg (fun h => Nat.lt_irrefl _ h.2), if_neg (fun h => Nat.lt_irrefl _ h.2)⟩)
          rw [HSP.out.1, HSP.out.2] at HPL
          clear hkm2 hdk
          go_upto_region 12 with (first
            | (go_at_call 56; (with_reducible refine (HP1.out _).mono ?_); rintro e w1 ⟨b1, C1, r1, q1, rfl, hz, hb⟩; have H1 := Lib.hid (And.intro ((HB.out.1.bel hb).alloc (.cells #[.bool b1, .slice C1 r1 q1] 65)) (And.intro (Bx.new 65 w1 b1 (.slice C1 r1 q1)) (And.intro (NumC.bel hz (bel_a w1 (.cells #[.bool b1, .slice C1 r1 q1] 65))) (And.intro (show w.heap.size < w1.heap.size from Nat.lt_of_lt_of_le HB.out.1.lt hb.size) (bel_tr (bel_tr HB.out.2 hb) (bel_a w1 (.cells #[.bool b1, .slice C1 r1 q1] 65))))))); clear hz hb)
            | (go_at_call 51; (with_reducible refine (HO1.out _).mono ?_); rintro e w2 he; obtain ⟨b2, C2, r2, q2, zs, rfl, hs, hb⟩ := he.open_; have hz : NumC w2 (.agg #[.bool b2, .slice C2 r2 q2]) 1 500 := NumC.le ⟨b2, _, zs, rfl, hs⟩ (by decide); have H := Lib.hid (show PpH w (w2.alloc (.cells #[.bool b2, .slice C2 r2 q2] 65)) w1.heap.size b1 (.slice C1 r1 q1) z1 w2.heap.size b2 (.slice C2 r2 q2) 1 from ⟨(H1.out.1.bel hb).alloc _, (H1.out.2.1.bel hb).alloc _, (H1.out.2.2.1.bel hb).bel (bel_a _ _), Bx.new 65 w2 b2 _, hz.bel (bel_a _ _), H1.out.2.2.2.1, Nat.lt_of_lt_of_le H1.out.2.1.lt hb.size, bel_tr (bel_tr H1.out.2.2.2.2 hb) (bel_a _ _)⟩); obtain ⟨f1, f2, f3, f4, f5, f6⟩ := H.out.facts; obtain ⟨k1, k2, k3, k4⟩ := H.out.res; clear he hs hb hz))
          clear f1 f2 f3 f4 f5 f6
          obtain ⟨x1, x2, x3, x4, _, _⟩ := H.out.facts
          by_cases hf1 : Fit z1
          · have e1 : decide (Fit z1) = true := decide_eq_true hf1
            have E1 := Lib.hid e1
            have HF1 := Lib.hid hf1
            clear e1 hf1
            by_cases hf2 : Fit 1
            · have e2 : decide (Fit 1) = true := decide_eq_true hf2
              have E2 := Lib.hid e2
              have HF2 := Lib.hid hf2
              clear e2 hf2
              by_cases hmb : Maybe z1 1
              · have e3 : decide (Maybe z1 1) = true := decide_eq_true hmb
                have E3 := Lib.hid e3
                have HMB := Lib.hid hmb
                clear e3 hmb
                obtain ⟨T, hT⟩ : ∃ T : ByteArray, T = ⟨(rtxt z1 1).toArray⟩ := ⟨_, rfl⟩
                have HTX := Lib.hid (fun W => rttext_any z1 1 W HF1.out HF2.out)
                rw [← hT] at HTX
                by_cases htx : rtxt z1 1 = l
                · have hTs : T = s := by rw [hT]; exact (HS.out _).2 htx
                  subst hTs
                  have HTE := Lib.hid htx
                  clear htx hT
                  go_wp2_with (first
                    | (go_at_call 57; (with_reducible refine (smalln_any (.agg #[.bool b1, .slice C1 r1 q1]) z1 500 _ H.out.NX (by decide)).mono ?_); rintro e w4 ⟨⟨v1, he, hv1, _⟩, hb⟩; rw [E1.out] at he; subst he; rw [hv1 HF1.out]; have H := Lib.hid (H.out.next hb); clear x1 x2 x3 x4 k1 k2 k3 k4 hv1 hb; obtain ⟨x1, x2, x3, x4, _, _⟩ := H.out.facts)
                    | (go_at_call 57; (with_reducible refine (smalln_any (.agg #[.bool b2, .slice C2 r2 q2]) 1 500 _ H.out.NY (by decide)).mono ?_); rintro e w5 ⟨⟨v2, he, hv2, _⟩, hb⟩; rw [E2.out] at he; subst he; rw [hv2 HF2.out]; have H := Lib.hid (H.out.next hb); have hl5 := H.out.rr.lt; clear x1 x2 x3 x4 hv2 hb; obtain ⟨k1, k2, k3, k4⟩ := H.out.res)
                    | (go_at_call 12; (with_reducible refine (may_any z1 1 _ HF1.out HF2.out).mono ?_); rintro e w6 ⟨he, hb⟩; rw [E3.out] at he; subst he; have H := Lib.hid ((H.out.next (bel_a w5 (.cells #[.int .i64 z1, .int .i64 1] 24))).next hb); have HR := Lib.hid ((Rt.new w5 z1 1).bel hb); clear k1 k2 k3 k4 hb; obtain ⟨k1, k2, k3, k4⟩ := H.out.res; have y1 := HR.out.c0; have y2 := HR.out.c1; have ny1 : ¬ w5.heap.size = w.heap.size := (by omega); have ny2 : ¬ w.heap.size = w5.heap.size := (by omega))
                    | (go_at_call 29; (with_reducible refine (HTX.out _).mono ?_); rintro e w7 ⟨rfl, hb⟩; have H := Lib.hid (H.out.next hb); have HR := Lib.hid (HR.out.bel hb); clear k1 k2 k3 k4 y1 y2 hb; obtain ⟨k1, k2, k3, k4⟩ := H.out.res; have y1 := HR.out.c0; have y2 := HR.out.c1))
                  exact bodyPost_ret (ret_rt_2 rfl rfl rfl ((H.out.rr.set0 z1).set1 1)) rfl ⟨by rw [HPL.out, if_pos ⟨by first | exact rfl | trivial, HF1.out, HF2.out, HMB.out, HTE.out⟩]; rfl, bel_set (bel_set H.out.bel (Nat.le_refl _) _ _) (Nat.le_refl _) _ _⟩
                · have hne : ¬ T = s := fun h => htx ((HS.out _).1 (by rw [← hT]; exact h))
                  have hb5 : (T.toList == s.toList) = false := beq_eq_false_iff_ne.2 (fun h => hne (by rw [ByteArray.toList_eq, ByteArray.toList_eq] at h; exact ByteArray.ext (Array.toList_inj.1 h)))
                  have HTE := Lib.hid htx
                  clear htx hT
                  go_wp2_with (first
                    | (go_at_call 57; (with_reducible refine (smalln_any (.agg #[.bool b1, .slice C1 r1 q1]) z1 500 _ H.out.NX (by decide)).mono ?_); rintro e w4 ⟨⟨v1, he, hv1, _⟩, hb⟩; rw [E1.out] at he; subst he; rw [hv1 HF1.out]; have H := Lib.hid (H.out.next hb); clear x1 x2 x3 x4 k1 k2 k3 k4 hv1 hb; obtain ⟨x1, x2, x3, x4, _, _⟩ := H.out.facts)
                    | (go_at_call 57; (with_reducible refine (smalln_any (.agg #[.bool b2, .slice C2 r2 q2]) 1 500 _ H.out.NY (by decide)).mono ?_); rintro e w5 ⟨⟨v2, he, hv2, _⟩, hb⟩; rw [E2.out] at he; subst he; rw [hv2 HF2.out]; have H := Lib.hid (H.out.next hb); have hl5 := H.out.rr.lt; clear x1 x2 x3 x4 hv2 hb; obtain ⟨k1, k2, k3, k4⟩ := H.out.res)
                    | (go_at_call 12; (with_reducible refine (may_any z1 1 _ HF1.out HF2.out).mono ?_); rintro e w6 ⟨he, hb⟩; rw [E3.out] at he; subst he; have H := Lib.hid ((H.out.next (bel_a w5 (.cells #[.int .i64 z1, .int .i64 1] 24))).next hb); have HR := Lib.hid ((Rt.new w5 z1 1).bel hb); clear k1 k2 k3 k4 hb; obtain ⟨k1, k2, k3, k4⟩ := H.out.res; have y1 := HR.out.c0; have y2 := HR.out.c1; have ny1 : ¬ w5.heap.size = w.heap.size := (by omega); have ny2 : ¬ w.heap.size = w5.heap.size := (by omega))
                    | (go_at_call 29; (with_reducible refine (HTX.out _).mono ?_); rintro e w7 ⟨rfl, hb⟩; have H := Lib.hid (H.out.next hb); have HR := Lib.hid (HR.out.bel hb); clear k1 k2 k3 k4 y1 y2 hb; obtain ⟨k1, k2, k3, k4⟩ := H.out.res; have y1 := HR.out.c0; have y2 := HR.out.c1))
                  exact bodyPost_ret (ret_rt_2 rfl rfl rfl ((H.out.rr.set0 0).set1 0)) rfl ⟨by rw [HPL.out, if_neg (fun h => HTE.out h.2.2.2.2)]; rfl, bel_set (bel_set H.out.bel (Nat.le_refl _) _ _) (Nat.le_refl _) _ _⟩
              · have e3 : decide (Maybe z1 1) = false := decide_eq_false hmb
                have E3 := Lib.hid e3
                have HMB := Lib.hid hmb
                clear e3 hmb
                go_wp2_with (first
                  | (go_at_call 57; (with_reducible refine (smalln_any (.agg #[.bool b1, .slice C1 r1 q1]) z1 500 _ H.out.NX (by decide)).mono ?_); rintro e w4 ⟨⟨v1, he, hv1, _⟩, hb⟩; rw [E1.out] at he; subst he; rw [hv1 HF1.out]; have H := Lib.hid (H.out.next hb); clear x1 x2 x3 x4 k1 k2 k3 k4 hv1 hb; obtain ⟨x1, x2, x3, x4, _, _⟩ := H.out.facts)
                  | (go_at_call 57; (with_reducible refine (smalln_any (.agg #[.bool b2, .slice C2 r2 q2]) 1 500 _ H.out.NY (by decide)).mono ?_); rintro e w5 ⟨⟨v2, he, hv2, _⟩, hb⟩; rw [E2.out] at he; subst he; rw [hv2 HF2.out]; have H := Lib.hid (H.out.next hb); have hl5 := H.out.rr.lt; clear x1 x2 x3 x4 hv2 hb; obtain ⟨k1, k2, k3, k4⟩ := H.out.res)
                  | (go_at_call 12; (with_reducible refine (may_any z1 1 _ HF1.out HF2.out).mono ?_); rintro e w6 ⟨he, hb⟩; rw [E3.out] at he; subst he; have H := Lib.hid ((H.out.next (bel_a w5 (.cells #[.int .i64 z1, .int .i64 1] 24))).next hb); have HR := Lib.hid ((Rt.new w5 z1 1).bel hb); clear k1 k2 k3 k4 hb; obtain ⟨k1, k2, k3, k4⟩ := H.out.res; have y1 := HR.out.c0; have y2 := HR.out.c1; have ny1 : ¬ w5.heap.size = w.heap.size := (by omega); have ny2 : ¬ w.heap.size = w5.heap.size := (by omega)))
                exact bodyPost_ret (ret_rt_2 rfl rfl rfl ((H.out.rr.set0 0).set1 0)) rfl ⟨by rw [HPL.out, if_neg (fun h => HMB.out h.2.2.2.1)]; rfl, bel_set (bel_set H.out.bel (Nat.le_refl _) _ _) (Nat.le_refl _) _ _⟩
            · have e2 : decide (Fit 1) = false := decide_eq_false hf2
              have E2 := Lib.hid e2
              have HF2 := Lib.hid hf2
              clear e2 hf2
              go_wp2_with (first
                | (go_at_call 57; (with_reducible refine (smalln_any (.agg #[.bool b1, .slice C1 r1 q1]) z1 500 _ H.out.NX (by decide)).mono ?_); rintro e w4 ⟨⟨v1, he, hv1, _⟩, hb⟩; rw [E1.out] at he; subst he; rw [hv1 HF1.out]; have H := Lib.hid (H.out.next hb); clear x1 x2 x3 x4 k1 k2 k3 k4 hv1 hb; obtain ⟨x1, x2, x3, x4, _, _⟩ := H.out.facts)
                | (go_at_call 57; (with_reducible refine (smalln_any (.agg #[.bool b2, .slice C2 r2 q2]) 1 500 _ H.out.NY (by decide)).mono ?_); rintro e w5 ⟨⟨v2, he, hv2, _⟩, hb⟩; rw [E2.out] at he; subst he; have H := Lib.hid (H.out.next hb); have hl5 := H.out.rr.lt; clear x1 x2 x3 x4 hv2 hb; obtain ⟨k1, k2, k3, k4⟩ := H.out.res))
              exact bodyPost_ret (ret_rt_2 rfl rfl rfl (((H.out.rr.set0 0).set1 0).alloc _)) rfl ⟨by rw [HPL.out, if_neg (fun h => HF2.out h.2.2.1)]; rfl, bel_tr (bel_set (bel_set H.out.bel (Nat.le_refl _) _ _) (Nat.le_refl _) _ _) (bel_a _ _)⟩
          · have e1 : decide (Fit z1) = false := decide_eq_false hf1
            have E1 := Lib.hid e1
            have HF1 := Lib.hid hf1
            clear e1 hf1
            have hff : Fit 1 ∨ ¬ Fit 1 := Decidable.em _
            by_cases hf2 : Fit 1
            · have e2 : decide (Fit 1) = true := decide_eq_true hf2
              have E2 := Lib.hid e2
              have HF2 := Lib.hid hf2
              clear e2 hf2
              go_wp2_with (first
                | (go_at_call 57; (with_reducible refine (smalln_any (.agg #[.bool b1, .slice C1 r1 q1]) z1 500 _ H.out.NX (by decide)).mono ?_); rintro e w4 ⟨⟨v1, he, hv1, _⟩, hb⟩; rw [E1.out] at he; subst he; have H := Lib.hid (H.out.next hb); clear x1 x2 x3 x4 k1 k2 k3 k4 hv1 hb; obtain ⟨x1, x2, x3, x4, _, _⟩ := H.out.facts)
                | (go_at_call 57; (with_reducible refine (smalln_any (.agg #[.bool b2, .slice C2 r2 q2]) 1 500 _ H.out.NY (by decide)).mono ?_); rintro e w5 ⟨⟨v2, he, hv2, _⟩, hb⟩; rw [E2.out] at he; subst he; rw [hv2 HF2.out]; have H := Lib.hid (H.out.next hb); have hl5 := H.out.rr.lt; clear x1 x2 x3 x4 hv2 hb; obtain ⟨k1, k2, k3, k4⟩ := H.out.res))
              exact bodyPost_ret (ret_rt_2 rfl rfl rfl (((H.out.rr.set0 0).set1 0).alloc _)) rfl ⟨by rw [HPL.out, if_neg (fun h => HF1.out h.2.1)]; rfl, bel_tr (bel_set (bel_set H.out.bel (Nat.le_refl _) _ _) (Nat.le_refl _) _ _) (bel_a _ _)⟩
            · have e2 : decide (Fit 1) = false := decide_eq_false hf2
              have E2 := Lib.hid e2
              have HF2 := Lib.hid hf2
              clear e2 hf2
              go_wp2_with (first
                | (go_at_call 57; (with_reducible refine (smalln_any (.agg #[.bool b1, .slice C1 r1 q1]) z1 500 _ H.out.NX (by decide)).mono ?_); rintro e w4 ⟨⟨v1, he, hv1, _⟩, hb⟩; rw [E1.out] at he; subst he; have H := Lib.hid (H.out.next hb); clear x1 x2 x3 x4 k1 k2 k3 k4 hv1 hb; obtain ⟨x1, x2, x3, x4, _, _⟩ := H.out.facts)
                | (go_at_call 57; (with_reducible refine (smalln_any (.agg #[.bool b2, .slice C2 r2 q2]) 1 500 _ H.out.NY (by decide)).mono ?_); rintro e w5 ⟨⟨v2, he, hv2, _⟩, hb⟩; rw [E2.out] at he; subst he; have H := Lib.hid (H.out.next hb); have hl5 := H.out.rr.lt; clear x1 x2 x3 x4 hv2 hb; obtain ⟨k1, k2, k3, k4⟩ := H.out.res))
              exact bodyPost_ret (ret_rt_2 rfl rfl rfl (((H.out.rr.set0 0).set1 0).alloc _)) rfl ⟨by rw [HPL.out, if_neg (fun h => HF1.out h.2.1)]; rfl, bel_tr (bel_set (bel_set H.out.bel (Nat.le_refl _) _ _) (Nat.le_refl _) _ _) (bel_a _ _)⟩
      · have HSP := Lib.hid (show (if c1 = 0 ∧ j < m then c2 else c1) = c1 from if_neg (fun h => hc0 h.1))
        rw [HSP.out] at HPL
        have hb3 : ((c1 : Int) == 0) = false ∧ ((c1 : Int) != 0) = true := by simp; omega
        obtain ⟨hb3, hb4⟩ := hb3
        have HCZ := Lib.hid hc0
        clear hc0
        rcases Nat.lt_or_ge j m with hkm2 | hkm2
        · have hi : ∀ W, (Instr.index 9 (.string s) (.int .i64 (j : Int))).run Tryd.prog W = .ok (.int .u8 (bat l j : Int)) W := fun W => HI.out j hkm2 W
          have hb47 := HEQ.out hkm2
          have hb1 : ((bat l j : Int) == 47) = true ∧ ((bat l j : Int) != 47) = false := by simp; omega
          obtain ⟨hb1, hb2⟩ := hb1
          have hd2 : decide ((j : Int) < (m : Int)) = true := decide_eq_true (by omega)
          clear hb47
          go_wp2_with (first
            | (go_at_call 56; (with_reducible refine (HP1.out _).mono ?_); rintro e w1 ⟨b1, C1, r1, q1, rfl, hz, hb⟩; have H1 := Lib.hid (And.intro ((HB.out.1.bel hb).alloc (.cells #[.bool b1, .slice C1 r1 q1] 65)) (And.intro (Bx.new 65 w1 b1 (.slice C1 r1 q1)) (And.intro (NumC.bel hz (bel_a w1 (.cells #[.bool b1, .slice C1 r1 q1] 65))) (And.intro (show w.heap.size < w1.heap.size from Nat.lt_of_lt_of_le HB.out.1.lt hb.size) (bel_tr (bel_tr HB.out.2 hb) (bel_a w1 (.cells #[.bool b1, .slice C1 r1 q1] 65))))))); clear hz hb)
            | (go_at_call 51; (with_reducible refine (HO1.out _).mono ?_); rintro e w2 he; obtain ⟨b2, C2, r2, q2, zs, rfl, hs, hb⟩ := he.open_; have hz : NumC w2 (.agg #[.bool b2, .slice C2 r2 q2]) 1 500 := NumC.le ⟨b2, _, zs, rfl, hs⟩ (by decide); have H := Lib.hid (show PpH w (w2.alloc (.cells #[.bool b2, .slice C2 r2 q2] 65)) w1.heap.size b1 (.slice C1 r1 q1) z1 w2.heap.size b2 (.slice C2 r2 q2) 1 from ⟨(H1.out.1.bel hb).alloc _, (H1.out.2.1.bel hb).alloc _, (H1.out.2.2.1.bel hb).bel (bel_a _ _), Bx.new 65 w2 b2 _, hz.bel (bel_a _ _), H1.out.2.2.2.1, Nat.lt_of_lt_of_le H1.out.2.1.lt hb.size, bel_tr (bel_tr H1.out.2.2.2.2 hb) (bel_a _ _)⟩); obtain ⟨f1, f2, f3, f4, f5, f6⟩ := H.out.facts; obtain ⟨k1, k2, k3, k4⟩ := H.out.res; clear he hs hb hz))
          exact bodyPost_ret (ret_rt_2 rfl rfl rfl ((H.out.rr.set0 0).set1 0)) rfl ⟨by rw [HPL.out, if_neg (fun h => HCZ.out h.1)]; rfl, bel_set (bel_set H.out.bel (Nat.le_refl _) _ _) (Nat.le_refl _) _ _⟩
        · obtain rfl : j = m := by omega
          clear hkm2
          go_wp2_with (first
            | (go_at_call 56; (with_reducible refine (HP1.out _).mono ?_); rintro e w1 ⟨b1, C1, r1, q1, rfl, hz, hb⟩; have H1 := Lib.hid (And.intro ((HB.out.1.bel hb).alloc (.cells #[.bool b1, .slice C1 r1 q1] 65)) (And.intro (Bx.new 65 w1 b1 (.slice C1 r1 q1)) (And.intro (NumC.bel hz (bel_a w1 (.cells #[.bool b1, .slice C1 r1 q1] 65))) (And.intro (show w.heap.size < w1.heap.size from Nat.lt_of_lt_of_le HB.out.1.lt hb.size) (bel_tr (bel_tr HB.out.2 hb) (bel_a w1 (.cells #[.bool b1, .slice C1 r1 q1] 65))))))); clear hz hb)
            | (go_at_call 51; (with_reducible refine (HO1.out _).mono ?_); rintro e w2 he; obtain ⟨b2, C2, r2, q2, zs, rfl, hs, hb⟩ := he.open_; have hz : NumC w2 (.agg #[.bool b2, .slice C2 r2 q2]) 1 500 := NumC.le ⟨b2, _, zs, rfl, hs⟩ (by decide); have H := Lib.hid (show PpH w (w2.alloc (.cells #[.bool b2, .slice C2 r2 q2] 65)) w1.heap.size b1 (.slice C1 r1 q1) z1 w2.heap.size b2 (.slice C2 r2 q2) 1 from ⟨(H1.out.1.bel hb).alloc _, (H1.out.2.1.bel hb).alloc _, (H1.out.2.2.1.bel hb).bel (bel_a _ _), Bx.new 65 w2 b2 _, hz.bel (bel_a _ _), H1.out.2.2.2.1, Nat.lt_of_lt_of_le H1.out.2.1.lt hb.size, bel_tr (bel_tr H1.out.2.2.2.2 hb) (bel_a _ _)⟩); obtain ⟨f1, f2, f3, f4, f5, f6⟩ := H.out.facts; obtain ⟨k1, k2, k3, k4⟩ := H.out.res; clear he hs hb hz))
          exact bodyPost_ret (ret_rt_2 rfl rfl rfl ((H.out.rr.set0 0).set1 0)) rfl ⟨by rw [HPL.out, if_neg (fun h => HCZ.out h.1)]; rfl, bel_set (bel_set H.out.bel (Nat.le_refl _) _ _) (Nat.le_refl _) _ _⟩
theorem parse_all (s : ByteArray) (w : World) (h2 : s.size ≤ 1000000000) : Calls Tryd.prog 30 #[.string s] w (RatE (parL s.data.toList) w) := by
  by_cases h : 40 < s.size
  · exact parse_long s w h h2
  · exact parse_short s w (by omega)
end Go.Proofs.YtjjinncecfilpaaDoor
