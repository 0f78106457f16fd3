/- Proved here: what readContours answers. Condition: a reader of a text of at most a billion bytes that stands at 10; from 1 to 256 contours. -/
import Derived.Test.YtcpphbogadjgfaaTg
namespace Go.Proofs.Ytcpphbogadjgfaa
open Go.RowKit

/-- What readContours and Parse answer. -/
def CtP (R : Int × List (List Pt)) (g : Nat) (w : World) (e : Ending) (w' : World) : Prop :=
  Onl g w w' ∧ ∃ A k c, e = .returned (.tuple #[.slice A k c, .int .i64 R.1]) ∧ Ctl w' A k R.2
theorem ctP_err {R : Int × List (List Pt)} {g : Nat} {w w' : World} {x : Int} (h : R = (x, [])) (ho : Onl g w w') : CtP R g w (.returned (.tuple #[.slice none 0 0, .int .i64 x])) w' := by
  subst h
  exact ⟨ho, none, 0, 0, rfl, Ctl.nil _⟩
theorem ptR_len (l : List UInt8) (n a : Nat) (h : (ptR l n a).1 = 0) : (ptR l n a).2.length = n := by
  unfold ptR at h ⊢
  split
  · rename_i h1; rw [if_pos h1] at h; exact absurd h h1
  · rename_i h1
    rw [if_neg h1] at h
    split
    · rename_i h2; rw [if_pos h2] at h; exact absurd h h2
    · rename_i h2
      rw [if_neg h2] at h
      split
      · rename_i h3; rw [if_pos h3] at h; exact absurd h h3
      · simp [pnts]
theorem prC_err {l : List UInt8} {n : Nat} (h : plE l n ≠ 0) : prC l n = (plE l n, []) := by
  unfold prC plE at *
  by_cases h1 : l.length < 10 + 2 * n
  · rw [if_pos h1, if_pos h1]
  · rw [if_neg h1, if_neg h1]
    rw [if_neg h1] at h
    by_cases h2 : ¬ rise l n
    · rw [if_pos h2, if_pos h2]
    · rw [if_neg h2, if_neg h2]
      rw [if_neg h2] at h
      by_cases h3 : 4096 < frm l n
      · rw [if_pos h3, if_pos h3]
      · rw [if_neg h3] at h; exact absurd rfl h
theorem plE_ok {l : List UInt8} {n : Nat} (h : plE l n = 0) : 10 + 2 * n ≤ l.length ∧ rise l n ∧ frm l n ≤ 4096 := by
  unfold plE at h
  by_cases h1 : l.length < 10 + 2 * n
  · rw [if_pos h1] at h; exact absurd h (by decide)
  · rw [if_neg h1] at h
    by_cases h2 : ¬ rise l n
    · rw [if_pos h2] at h; exact absurd h (by decide)
    · rw [if_neg h2] at h
      by_cases h3 : 4096 < frm l n
      · rw [if_pos h3] at h; exact absurd h (by decide)
      · exact ⟨by omega, by simpa using h2, by omega⟩
theorem prC_go {l : List UInt8} {n : Nat} (h : plE l n = 0) : prC l n = if l.length < 10 + 2 * n + 2 then (3, []) else if l.length < 10 + 2 * n + 2 + n2 l (10 + 2 * n) then (3, []) else prF l n (10 + 2 * n + 2 + n2 l (10 + 2 * n)) := by
  obtain ⟨h1, h2, h3⟩ := plE_ok h
  unfold prC
  rw [if_neg (by omega), if_neg (fun h => h h2), if_neg (by omega)]
set_option maxHeartbeats 8000000 in
set_option maxRecDepth 100000 in
theorem readContours_any (g n : Nat) (s : ByteArray) (w : World) (h : Rd 79 w g s 10 false) (hs : s.size ≤ 1000000000) (ha : 10 ≤ s.size) (hn0 : 1 ≤ n) (hn : n ≤ 256) :
    Calls Try.prog 27 #[.pointer (some ⟨g, 0, none⟩), .int .i64 (n : Int)] w (CtP (prC s.data.toList n) g w) := by
  have CL := Lib.hid (readPlaces_any g n s w h hs ha hn)
  have HS := Lib.hid hs
  have HE := Lib.hid (show ∀ x w', prC s.data.toList n = (x, []) → Onl g w w' → CtP (prC s.data.toList n) g w (.returned (.tuple #[.slice none 0 0, .int .i64 x])) w' from fun x w' h1 h3 => ctP_err h1 h3)
  by_cases hE : plE s.data.toList n = 0
  · have hgo := prC_go hE
    rw [size_list] at hgo
    obtain ⟨e1, e2, e3⟩ := plE_ok hE
    rw [size_list] at e1
    have CL2 := Lib.hid (CL.out.mono fun e w' hh => hh.ok (R := (plE s.data.toList n, plL s.data.toList n, 10 + 2 * n)) hE (n := n) (gen_len _ _))
    obtain ⟨N1, hN1⟩ : ∃ N1, N1 = n - 1 := ⟨_, rfl⟩
    have hNn : n = N1 + 1 := by omega
    have hfn : frm s.data.toList n = pl s.data.toList N1 + 1 := by rw [hNn]; rfl
    have w1 : IntKind.i64.wrap ((n : Int) - 1) = (N1 : Int) := by rw [i64_in _ (by omega)]; omega
    have hlt : N1 < n := by omega
    have hv1 := pl_lt s.data.toList N1
    have HLN := Lib.hid (show co (plL s.data.toList n) N1 = (pl s.data.toList N1 : Int) from co_gen hlt)
    obtain ⟨p, hp⟩ : ∃ p, p = pl s.data.toList N1 := ⟨_, rfl⟩
    rw [← hp] at hfn hv1 HLN
    have HFR := Lib.hid (And.intro hfn (And.intro e2 (And.intro e3 hn)))
    have HA := Lib.hid e1
    have HGo := Lib.hid hgo
    clear h hs ha hE hgo e1 e2 e3 hN1 hNn hfn hp CL hn0 hn
    go_enter Try.func27, Try.ntmps27
    go_upto_region 6 with (first
      | (go_at_call 41; (with_reducible refine CL2.out.mono ?_); rintro e w2 ⟨A1, c1, rfl, ho, hI, hr⟩; have H1 := Lib.hid (And.intro ho (And.intro hI hr)); have CU := Lib.hid (rd16_any g s _ _ w2 hr HS.out HA.out); clear ho hI hr)
      | (go_at_call 42; (with_reducible refine CU.out.mono ?_); rintro e w3 ⟨v, a2, f2, rfl, hv, hnx, hq, hr, ho⟩; have H2 := Lib.hid (And.intro hnx (And.intro hq (And.intro hr ho))); have CK := Lib.hid (rdskip_any g s _ _ v w3 hr HS.out hnx.le); clear hnx hq hr ho)
      | (go_at_call 25; (with_reducible refine CK.out.mono ?_); rintro e w4 ⟨a3, f3, rfl, hnx, hr, ho⟩; have H3 := Lib.hid (And.intro hnx (And.intro hr ho)); clear hnx hr ho))
    have HO := Lib.hid ((H1.out.1.trans H2.out.2.2.2).trans H3.out.2.2)
    have CE := Lib.hid (err_any g s a3 f3 w4 H3.out.2.1)
    cases f3
    · obtain ⟨hf2, h5, ha3⟩ := H3.out.1.yes rfl
      obtain ⟨_, h4, ha2⟩ := H2.out.1.yes hf2
      have hvv := H2.out.2.1 hf2
      have hrr := H3.out.2.1
      have haa : a3 = 10 + 2 * n + 2 + v := by omega
      rw [haa] at hrr
      have hgo := HGo.out
      rw [← hvv, if_neg (by omega), if_neg (by omega)] at hgo
      have CP := Lib.hid (readPoints_any g (frm s.data.toList n) s (10 + 2 * n + 2 + v) w4 hrr HS.out (by omega) (by have := HFR.out.2.2.1; omega))
      have hpl := ptR_len s.data.toList (frm s.data.toList n) (10 + 2 * n + 2 + v)
      unfold prF at hgo
      obtain ⟨R, hR⟩ : ∃ R, R = ptR s.data.toList (frm s.data.toList n) (10 + 2 * n + 2 + v) := ⟨_, rfl⟩
      rw [← hR] at CP hgo hpl
      have HL4 := Lib.hid ((H1.out.2.1.1.onl H1.out.2.1.2 H2.out.2.2.2).onl H1.out.2.1.2 H3.out.2.2)
      have CP : Hid (Calls Try.prog 43 #[.pointer (some ⟨g, 0, none⟩), .int .i64 ((p : Int) + 1)] w4 (PtP R g w4)) := by
        rw [HFR.out.1] at CP
        rw [show (p : Int) + 1 = ((p + 1 : Nat) : Int) by omega]
        exact CP
      obtain ⟨ax, rfl, hx⟩ := HL4.out.at_ (Below.refl _ _) hlt
      rw [HLN.out] at hx
      by_cases hR0 : R.1 = 0
      · rw [if_neg (fun h => h hR0)] at hgo
        have hl := hpl hR0
        have HX := Lib.hid (show ∀ A k w', Onl g w w' → Ctl w' A n (cuts s.data.toList R.2 n) → CtP (prC s.data.toList n) g w (.returned (.tuple #[.slice A n k, .int .i64 0])) w' from fun A k w' h1 h2 => by rw [hgo]; exact ⟨h1, A, n, k, rfl, h2⟩)
        have CP2 := Lib.hid (CP.out.mono fun e w' hh => show Onl g w4 w' ∧ ∃ A c, e = .returned (.tuple #[.slice A (frm s.data.toList n) c, .int .i64 0]) ∧ Ptl w' A (frm s.data.toList n) R.2 ∧ frm s.data.toList n ≤ c from by
          obtain ⟨h1, A, k, c, h2, h3⟩ := hh
          obtain ⟨h4, h6⟩ := h3 hR0
          have : k = frm s.data.toList n := by rw [← h4.len]; exact hl
          subst this
          exact ⟨h1, A, c, by rw [h2, hR0], h4, h6⟩)
        have CS := Lib.hid (fun A c A2 c2 W (hP : Ptl W A (frm s.data.toList n) R.2) (hc : frm s.data.toList n ≤ c) (hI : Il .i64 W A2 n (plL s.data.toList n)) => split_any A A2 (frm s.data.toList n) c c2 n s.data.toList R.2 W hP hc hI HFR.out.2.1 rfl HFR.out.2.2.1 HFR.out.2.2.2)
        obtain ⟨fr, hfr⟩ : ∃ fr, fr = frm s.data.toList n := ⟨_, rfl⟩
        rw [← hfr] at CP2 CS
        clear hf2 h5 ha3 h4 ha2 hvv hrr haa hgo hR hR0 hl hpl CP hfr
        go_wp2_with (first
          | (go_at_call 26; (with_reducible refine CE.out.mono ?_); rintro e w5 ⟨rfl, rfl⟩)
          | (go_at_call 43; (with_reducible refine CP2.out.mono ?_); rintro e w6 ⟨ho, A6, c6, rfl, hP, hc⟩; have H6 := Lib.hid (And.intro ho (And.intro hP hc)); have J6 := Lib.hid (HL4.out.onl H1.out.2.1.2 ho); clear ho hP hc)
          | (go_at_call 44; (with_reducible refine (CS.out _ _ _ _ _ H6.out.2.1 H6.out.2.2 J6.out).mono ?_); rintro e w7 ⟨A7, c7, rfl, hC, hb⟩; have H7 := Lib.hid (And.intro hC hb); clear hC hb))
        go_ret2
        exact HX.out _ _ _ ((HO.out.trans H6.out.1).trans (Onl.of H7.out.2)) H7.out.1
      · rw [if_pos hR0] at hgo
        have HX := Lib.hid (fun w' ho => HE.out _ w' hgo ho)
        have CP2 := Lib.hid (CP.out.mono fun e w' hh => show Onl g w4 w' ∧ ∃ A k c, e = .returned (.tuple #[.slice A k c, .int .i64 R.1]) from by
          obtain ⟨h1, A, k, c, h2, _⟩ := hh
          exact ⟨h1, A, k, c, h2⟩)
        obtain ⟨E1, P1⟩ := R
        simp only at hR0 HX CP2
        have e9 : (E1 != 0) = true := by simp [hR0]
        clear hf2 h5 ha3 h4 ha2 hvv hrr haa hgo hR hR0 hpl CP
        go_wp2_with (first
          | (go_at_call 26; (with_reducible refine CE.out.mono ?_); rintro e w5 ⟨rfl, rfl⟩)
          | (go_at_call 43; (with_reducible refine CP2.out.mono ?_); rintro e w6 ⟨ho, A6, k6, c6, rfl⟩; have H6 := Lib.hid ho; clear ho))
        go_ret2
        exact HX.out _ (HO.out.trans H6.out)
    · have hX : prC s.data.toList n = (3, []) := by
        rw [HGo.out]
        rcases H3.out.1.no rfl with h | h
        · rcases H2.out.1.no h with h2 | h2
          · cases h2
          · rw [if_pos (by omega)]
        · cases f2
          · obtain ⟨_, h4, ha2⟩ := H2.out.1.yes rfl
            have hvv := H2.out.2.1 rfl
            rw [← hvv, if_neg (by omega), if_pos (by omega)]
          · rcases H2.out.1.no rfl with h2 | h2
            · cases h2
            · rw [if_pos (by omega)]
      have HX := Lib.hid (fun w' ho => HE.out 3 w' hX ho)
      clear hX
      go_wp2_with (go_at_call 26; (with_reducible refine CE.out.mono ?_); rintro e w5 ⟨rfl, rfl⟩)
      go_ret2
      exact HX.out _ HO.out
  · have HX := Lib.hid (fun w' ho => HE.out _ w' (prC_err hE) ho)
    have CL2 := Lib.hid (CL.out.mono fun e w' hh => hh.err)
    obtain ⟨E1, hE1⟩ : ∃ x, x = plE s.data.toList n := ⟨_, rfl⟩
    have CL2 : Hid (Calls Try.prog 41 #[.pointer (some ⟨g, 0, none⟩), .int .i64 (n : Int)] w (FgN E1 g w)) := by rw [hE1]; exact CL2
    rw [← hE1] at hE HX
    have e9 : (E1 != 0) = true := by simp [hE]
    clear h hs ha hE hE1 CL
    go_enter Try.func27, Try.ntmps27
    go_wp2_with (go_at_call 41; (with_reducible refine CL2.out.mono ?_); rintro e w2 ⟨A1, k1, c1, rfl, ho⟩; have H1 := Lib.hid ho; clear ho)
    go_ret2
    exact HX.out _ H1.out
end Go.Proofs.Ytcpphbogadjgfaa
