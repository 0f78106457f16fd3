/- Proved here: what Parse answers. Condition: a text of at most a billion bytes. -/
import Derived.Test.YtcpphbogadjgfaaTh
namespace Go.Proofs.Ytcpphbogadjgfaa
open Go.RowKit

/-- What Parse answers. -/
def PaP (R : Int × List (List Pt)) (w : World) (e : Ending) (w' : World) : Prop :=
  ∃ A k c, e = .returned (.tuple #[.slice A k c, .int .i64 R.1]) ∧ Ctl w' A k R.2 ∧ Below w.heap.size w w'
theorem paP_err {R : Int × List (List Pt)} {w w' : World} {x : Int} (h : R = (x, [])) (ho : Below w.heap.size w w') : PaP R w (.returned (.tuple #[.slice none 0 0, .int .i64 x])) w' := by
  subst h
  exact ⟨none, 0, 0, rfl, Ctl.nil _, ho⟩
set_option maxHeartbeats 8000000 in
set_option maxRecDepth 100000 in
theorem parse_any (s : ByteArray) (w : World) (hs : s.size ≤ 1000000000) : Calls Try.prog 12 #[.string s] w (PaP (prs s.data.toList) w) := by
  have HE := Lib.hid (show ∀ x w', prs s.data.toList = (x, []) → Below w.heap.size w w' → PaP (prs s.data.toList) w (.returned (.tuple #[.slice none 0 0, .int .i64 x])) w' from fun x w' h1 h2 => paP_err h1 h2)
  have HS := Lib.hid hs
  by_cases h0 : s.size = 0
  · have hX : prs s.data.toList = (0, []) := by unfold prs; rw [size_list, if_pos h0]
    have hse : s = ⟨#[]⟩ := by
      apply ByteArray.ext
      apply Array.eq_empty_of_size_eq_zero
      exact h0
    have HX := Lib.hid (HE.out 0 w hX (Below.refl _ _))
    subst hse
    clear hX h0 hs
    go_enter Try.func12, Try.ntmps12
    go_wp2_with fail
    go_ret2
    exact HX.out
  · have hne : s.toList.isEmpty = false := by
      rw [Go.ByteArray.toList_eq]
      cases hl : s.data.toList with
      | nil => rw [← size_list, hl] at h0; exact absurd rfl h0
      | cons c r => rfl
    have hP : prs s.data.toList = if s.size < 10 then (3, []) else if sg16 (n2 s.data.toList 0) < 0 then (4, []) else if 256 < sg16 (n2 s.data.toList 0) then (6, []) else if sg16 (n2 s.data.toList 0) = 0 then (0, []) else prC s.data.toList (sg16 (n2 s.data.toList 0)).toNat := by unfold prs; rw [size_list, if_neg h0]
    have CN := Lib.hid (new_any s w)
    have HP := Lib.hid hP
    clear hP
    go_enter Try.func12, Try.ntmps12
    go_upto_region 6 with (first
      | (go_at_call 23; (with_reducible refine CN.out.mono ?_); rintro e w2 ⟨rfl, hb, hr, hsz⟩; have H1 := Lib.hid (And.intro hb (And.intro hr hsz)); have CU := Lib.hid (rdi16_any _ s 0 false w2 hr HS.out (Nat.zero_le _)); clear hb hr hsz)
      | (go_at_call 24; (with_reducible refine CU.out.mono ?_); rintro e w3 ⟨v, a2, f2, rfl, ⟨hv1, hv2⟩, hnx, hq, hr, ho⟩; have H2 := Lib.hid (And.intro hnx (And.intro hq (And.intro hr ho))); have CK := Lib.hid (show Calls Try.prog 25 #[.pointer (some ⟨w.heap.size, 0, none⟩), .int .i64 8] w3 _ from rdskip_any _ s _ _ 8 w3 hr HS.out hnx.le); clear hnx hq hr ho)
      | (go_at_call 25; (with_reducible refine CK.out.mono ?_); rintro e w4 ⟨a3, f3, rfl, hnx, hr, ho⟩; have H3 := Lib.hid (And.intro hnx (And.intro hr ho)); clear hnx hr ho))
    have hB : Below w.heap.size w w4 := (H1.out.1.trans (H2.out.2.2.2.below (Nat.le_refl _) H1.out.1.size)).trans (H3.out.2.2.below (Nat.le_refl _) (Nat.le_trans H1.out.1.size H2.out.2.2.2.size))
    have HB := Lib.hid hB
    have CE := Lib.hid (err_any w.heap.size s a3 f3 w4 H3.out.2.1)
    clear hB
    cases f3
    · obtain ⟨hf2, h5, ha3⟩ := H3.out.1.yes rfl
      obtain ⟨_, h4, ha2⟩ := H2.out.1.yes hf2
      have hvv := H2.out.2.1 hf2
      have hrr := H3.out.2.1
      have haa : a3 = 10 := by omega
      rw [haa] at hrr
      have hP := HP.out
      rw [← hvv, if_neg (by omega)] at hP
      have H10 := Lib.hid (show 10 ≤ s.size by omega)
      have HRR := Lib.hid hrr
      clear hf2 h5 ha3 h4 ha2 hvv hrr haa
      by_cases c1 : v < 0
      · rw [if_pos c1] at hP
        have HX := Lib.hid (HE.out 4 w4 hP HB.out)
        clear hP
        go_wp2_with (go_at_call 26; (with_reducible refine CE.out.mono ?_); rintro e w5 ⟨rfl, rfl⟩)
        go_ret2
        exact HX.out
      · rw [if_neg c1] at hP
        by_cases c2 : 256 < v
        · rw [if_pos c2] at hP
          have HX := Lib.hid (HE.out 6 w4 hP HB.out)
          clear hP
          go_wp2_with (go_at_call 26; (with_reducible refine CE.out.mono ?_); rintro e w5 ⟨rfl, rfl⟩)
          go_ret2
          exact HX.out
        · rw [if_neg c2] at hP
          by_cases c3 : v = 0
          · rw [if_pos c3] at hP
            have HX := Lib.hid (HE.out 0 w4 hP HB.out)
            have e1 : (v == 0) = true := by simp [c3]
            clear hP c3
            go_wp2_with (go_at_call 26; (with_reducible refine CE.out.mono ?_); rintro e w5 ⟨rfl, rfl⟩)
            go_ret2
            exact HX.out
          · rw [if_neg c3] at hP
            have e1 : (v == 0) = false := by simp [c3]
            obtain ⟨n, hn⟩ : ∃ n : Nat, v = (n : Int) := ⟨v.toNat, by omega⟩
            have CC := Lib.hid (show Calls Try.prog 27 #[.pointer (some ⟨w.heap.size, 0, none⟩), .int .i64 v] w4 (CtP (prC s.data.toList n) w.heap.size w4) by rw [hn]; exact readContours_any w.heap.size n s w4 HRR.out HS.out H10.out (by omega) (by omega))
            have hP2 : prs s.data.toList = prC s.data.toList n := by rw [hP, hn]; rfl
            have HX := Lib.hid (show ∀ A k c w', Ctl w' A k (prC s.data.toList n).2 → Onl w.heap.size w4 w' → PaP (prs s.data.toList) w (.returned (.tuple #[.slice A k c, .int .i64 (prC s.data.toList n).1])) w' from fun A k c w' h1 h2 => ⟨A, k, c, by rw [hP2], by rw [hP2]; exact h1, HB.out.trans (h2.below (Nat.le_refl _) HB.out.size)⟩)
            obtain ⟨R, hR⟩ : ∃ R, R = prC s.data.toList n := ⟨_, rfl⟩
            rw [← hR] at CC HX
            clear hP hP2 hR hn c3
            go_wp2_with (first
              | (go_at_call 26; (with_reducible refine CE.out.mono ?_); rintro e w5 ⟨rfl, rfl⟩)
              | (go_at_call 27; (with_reducible refine CC.out.mono ?_); rintro e w6 ⟨ho, A6, k6, c6, rfl, hC⟩; have H6 := Lib.hid (And.intro ho hC); clear ho hC))
            go_ret2
            exact HX.out _ _ _ _ H6.out.2 H6.out.1
    · have hX : prs s.data.toList = (3, []) := by
        rw [HP.out]
        rcases H3.out.1.no rfl with h | h
        · rcases H2.out.1.no h with h2 | h2
          · cases h2
          · rw [if_pos (by omega)]
        · cases f2
          · obtain ⟨_, h4, ha2⟩ := H2.out.1.yes rfl
            rw [if_pos (by omega)]
          · rcases H2.out.1.no rfl with h2 | h2
            · cases h2
            · rw [if_pos (by omega)]
      have HX := Lib.hid (HE.out 3 w4 hX HB.out)
      clear hX
      go_wp2_with (go_at_call 26; (with_reducible refine CE.out.mono ?_); rintro e w5 ⟨rfl, rfl⟩)
      go_ret2
      exact HX.out
end Go.Proofs.Ytcpphbogadjgfaa
