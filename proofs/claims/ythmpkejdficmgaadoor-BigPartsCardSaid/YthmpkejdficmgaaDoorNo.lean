/- Proved here: what package big's Cmp and Mul answer and leave in memory. Condition: numbers in any form, of at most 50000 digits, that lie in memory. -/
import Derived.Test.YthmpkejdficmgaaDoorNn
namespace Go.Proofs.YthmpkejdficmgaaDoor
open Go.RowKit

theorem sgn_cases (x : Int) : sgn x = 0 ∨ sgn x = 1 ∨ sgn x = -1 := by
  unfold sgn cmpI
  split
  · exact .inr (.inr rfl)
  · split
    · exact .inr (.inl rfl)
    · exact .inl rfl
theorem cmpI_cases (x y : Int) : cmpI x y = 0 ∨ cmpI x y = 1 ∨ cmpI x y = -1 := by
  unfold cmpI
  split
  · exact .inr (.inr rfl)
  · split
    · exact .inr (.inl rfl)
    · exact .inl rfl
theorem cmp_signs {x y : Int} (h : sgn x ≠ sgn y) : cmpI (sgn x) (sgn y) = cmpI x y := by
  unfold sgn cmpI at *
  split at h <;> split at h <;> (try split at h) <;> (try split at h) <;> (try split) <;> (try split) <;> (try split) <;> (try split) <;> omega
theorem cmp_sizes {n m : Bool} {a b : Nat} (h : sgn (sv n a) = sgn (sv m b)) : sgn (sv n a) * cmpI a b = cmpI (sv n a) (sv m b) := by
  unfold sgn at *
  rw [← sign_val, ← sign_val] at h
  rw [← sign_val]
  unfold isNeg at *
  by_cases ha : a = 0
  · rw [if_pos ha] at h ⊢
    by_cases hb : b = 0
    · subst ha hb
      cases n <;> cases m <;> decide
    · rw [if_neg hb] at h
      cases m <;> simp at h
  · rw [if_neg ha] at h ⊢
    by_cases hb : b = 0
    · rw [if_pos hb] at h
      cases n <;> simp at h
    · rw [if_neg hb] at h
      cases n <;> cases m <;> simp at h ⊢ <;> simp only [sv_true, sv_false, cmpI] <;> (try split) <;> (try split) <;> (try split) <;> (try split) <;> omega
set_option maxHeartbeats 1000000 in
set_option maxRecDepth 100000 in
theorem cmp_any (X Y : Value) (x y : Int) (l k : Nat) (w : World) (hX : BigA w X x l) (hY : BigA w Y y k) (hl : l ≤ 1000000) : Calls Tryd.prog 20 #[X, Y] w fun e w' => e = .returned (.int .i64 (cmpI x y)) ∧ Below w.heap.size w w' := by
  obtain ⟨n, v, xs, rfl, hv, hx, hxl, rfl⟩ := hX
  obtain ⟨m, u, ys, rfl, hu, hy, hyl, rfl⟩ := hY
  obtain ⟨A, c, rfl⟩ := hv.slice
  obtain ⟨B, d, rfl⟩ := hu.slice
  have HX := Lib.hid (show ∀ W, Below w.heap.size w W → BigA W (.agg #[.bool n, .slice A xs.length c]) (sv n (dw xs)) l from fun W hb => BigA.bel ⟨n, _, xs, rfl, hv, hx, hxl, rfl⟩ hb)
  have HY := Lib.hid (show ∀ W, Below w.heap.size w W → BigA W (.agg #[.bool m, .slice B ys.length d]) (sv m (dw ys)) k from fun W hb => BigA.bel ⟨m, _, ys, rfl, hu, hy, hyl, rfl⟩ hb)
  have HG := Lib.hid (And.intro (And.intro hx hy) (show (tr xs).length ≤ 1000000 by rw [tr_len]; have := tr_le xs; omega))
  obtain ⟨p, hp⟩ : ∃ p, p = xs.length := ⟨_, rfl⟩
  obtain ⟨q, hq⟩ : ∃ q, q = ys.length := ⟨_, rfl⟩
  rw [← hp] at HX hv ⊢
  rw [← hq] at HY hu ⊢
  have HV := Lib.hid hv
  have HU := Lib.hid hu
  obtain ⟨s, hs⟩ : ∃ s, s = sgn (sv n (dw xs)) := ⟨_, rfl⟩
  obtain ⟨t, ht⟩ : ∃ t, t = sgn (sv m (dw ys)) := ⟨_, rfl⟩
  obtain ⟨r, hr⟩ : ∃ r, r = cmpI (sv n (dw xs)) (sv m (dw ys)) := ⟨_, rfl⟩
  have H0 := Lib.hid (show B3 24 w (((w.alloc (.cells #[.bool n, .slice A p c] 24)).alloc (.cells #[.bool m, .slice B q d] 24)).alloc (.cells #[.bool false, .slice none 0 0] 24)) n (.slice A p c) m (.slice B q d) from B3.start 24 w n (.slice A p c) m (.slice B q d))
  have hB0 : Below w.heap.size w ((w.alloc (.cells #[.bool n, .slice A p c] 24)).alloc (.cells #[.bool m, .slice B q d] 24)) := (bel_a w _).alloc (by simp) _
  have HB := Lib.hid (And.intro ((Bx.new 24 w n (.slice A p c)).alloc (.cells #[.bool m, .slice B q d] 24)) (And.intro (show Bx 24 ((w.alloc (.cells #[.bool n, .slice A p c] 24)).alloc (.cells #[.bool m, .slice B q d] 24)) (w.heap.size + 1) m (.slice B q d) by simpa using Bx.new 24 (w.alloc (.cells #[.bool n, .slice A p c] 24)) m (.slice B q d)) hB0))
  have HC := Lib.hid (cmpI_cases (dw xs) (dw ys))
  have HSZ := Lib.hid (fun h => @cmp_sizes n m (dw xs) (dw ys) h)
  have HSG := Lib.hid (fun h => @cmp_signs (sv n (dw xs)) (sv m (dw ys)) h)
  have hsc := sgn_cases (sv n (dw xs))
  rw [← hs] at hsc
  have HS := Lib.hid hs
  have HT := Lib.hid ht
  have HR := Lib.hid hr
  have HSC := Lib.hid hsc
  rw [← hr]
  clear hv hu hx hy hxl hyl hp hq hs ht hr H0 hB0 hsc
  have arm1 := Lib.hid (fun W hb => HS.out ▸ sign_any _ _ _ W (HX.out W hb))
  have arm2 := Lib.hid (fun W hb => HT.out ▸ sign_any _ _ _ W (HY.out W hb))
  by_cases hst : s = t
  · have hb : (s != t) = false := by simp [hst]
    obtain ⟨cv, hcv⟩ : ∃ cv, cv = cmpI (dw (tr xs)) (dw (tr ys)) := ⟨_, rfl⟩
    have hval : s * cv = r := by
      rw [HR.out, ← HSZ.out (by rw [← HS.out, ← HT.out]; exact hst), HS.out, hcv, tr_dw, tr_dw]
    have hrl : -1 ≤ r ∧ r ≤ 1 := by
      rw [HR.out]
      rcases cmpI_cases (sv n (dw xs)) (sv m (dw ys)) with h | h | h <;> rw [h] <;> decide
    have F : IntKind.i64.wrap (s * cv) = r := by rw [hval]; exact IntWalk.i64_in _ (by omega)
    have HCV := Lib.hid hcv
    clear hcv hst hval hrl
    go_enter Tryd.func20, Tryd.ntmps20
    go_wp2_with (first
      | (go_at_call 22; (with_reducible refine (arm1.out _ HB.out.2.2).mono ?_); rintro e w1 ⟨rfl, hb1⟩; have K1 := Lib.hid (And.intro (HB.out.1.bel hb1) (And.intro (HB.out.2.1.bel hb1) (bel_tr HB.out.2.2 hb1))); clear hb1; have g1 := K1.out.1.c0; have g2 := K1.out.1.c1; have g3 := K1.out.2.1.c0; have g4 := K1.out.2.1.c1)
      | (go_at_call 22; (with_reducible refine (arm2.out _ K1.out.2.2).mono ?_); rintro e w2 ⟨rfl, hb2⟩; have K2 := Lib.hid (And.intro (K1.out.1.bel hb2) (And.intro (K1.out.2.1.bel hb2) (bel_tr K1.out.2.2 hb2))); clear hb2 g1 g2 g3 g4; have g1 := K2.out.1.c0; have g2 := K2.out.1.c1; have g3 := K2.out.2.1.c0; have g4 := K2.out.2.1.c1))
    have HV2 := Lib.hid (HV.out.bel K2.out.2.2)
    have HU2 := Lib.hid (HU.out.bel K2.out.2.2)
    go_quiet ((first | (go_at_call 37; with_reducible exact Calls.quiet_of_same (trim32_q A p c xs _ (HV2.out.drewN _))) | (go_at_call 37; with_reducible exact Calls.quiet_of_same (trim32_q B q d ys _ (HU2.out.drewN _))) | (go_at_call 40; exact Calls.quiet_of (HCV.out ▸ compare_any (.slice A (tl xs) c) (.slice B (tl ys) d) (tr xs) (tr ys) _ (HV2.out.drewN _).tr (HU2.out.drewN _).tr (tr_eg HG.out.1.1) (tr_eg HG.out.1.2) (tr_top xs) (tr_top ys) HG.out.2))))
    go_wp2_with fail
    go_ret
    exact ⟨rfl, below_drewN K2.out.2.2 _⟩
  · have hb : (s != t) = true := by simp [hst]
    have HST := Lib.hid (show cmpI s t = r by rw [HR.out, HS.out, HT.out]; exact HSG.out (by rw [← HS.out, ← HT.out]; exact hst))
    clear hst
    go_enter Tryd.func20, Tryd.ntmps20
    go_wp2_with (first
      | (go_at_call 22; (with_reducible refine (arm1.out _ HB.out.2.2).mono ?_); rintro e w1 ⟨rfl, hb1⟩; have K1 := Lib.hid (And.intro (HB.out.1.bel hb1) (And.intro (HB.out.2.1.bel hb1) (bel_tr HB.out.2.2 hb1))); clear hb1; have g1 := K1.out.1.c0; have g2 := K1.out.1.c1; have g3 := K1.out.2.1.c0; have g4 := K1.out.2.1.c1)
      | (go_at_call 22; (with_reducible refine (arm2.out _ K1.out.2.2).mono ?_); rintro e w2 ⟨rfl, hb2⟩; have K2 := Lib.hid (And.intro (K1.out.1.bel hb2) (And.intro (K1.out.2.1.bel hb2) (bel_tr K1.out.2.2 hb2))); clear hb2 g1 g2 g3 g4; have g1 := K2.out.1.c0; have g2 := K2.out.1.c1; have g3 := K2.out.2.1.c0; have g4 := K2.out.2.1.c1)
      | (go_at_call 48; (with_reducible refine (cmpint_any s t _).mono ?_); rintro e w3 ⟨he, rfl⟩; rw [HST.out] at he; subst he))
    go_ret
    exact ⟨rfl, K2.out.2.2⟩
end Go.Proofs.YthmpkejdficmgaaDoor
