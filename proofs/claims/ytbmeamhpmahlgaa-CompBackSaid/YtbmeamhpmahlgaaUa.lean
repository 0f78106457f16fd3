/- Proved here: what Is and Parse answer; Same of a list and itself. Condition: a text of at most a billion bytes; at most 100000 parts. -/
import Derived.Test.YtbmeamhpmahlgaaSf
namespace Go.Proofs.Ytbmeamhpmahlgaa
open Go.RowKit

set_option maxHeartbeats 2000000 in
theorem u16_any (s : ByteArray) (a : Int) (w : World) (hs : s.size ≤ 1000000000) (ha : a < 9223372036854775808) :
    Calls Try.prog 30 #[.string s, .int .i64 a] w fun e w' => e = .returned (.tuple #[.int .u16 (bv (cutL s.data.toList a 2) 0 : Int), .int .i64 (cutE s.data.toList a 2)]) ∧ w = w' := by
  have hsz : s.data.toList.length = s.size := by simp
  have hh := fun W => has_any s a 2 W hs ha
  unfold cutL cutE
  rw [hsz]
  by_cases h : Has s.size a 2
  · rw [if_pos h, if_pos h]
    rw [decide_eq_true h] at hh
    obtain ⟨h0, h1, h2⟩ := h
    have hsub := fun W => sub_run s a (a + 2) h0 (by omega) (by omega) W
    rw [show (a + 2 - a).toNat = 2 by omega] at hsub
    have hwr := i64_in (a + 2) (by omega)
    have hpl := piece_len_le s.data.toList a.toNat 2
    obtain ⟨D, hD⟩ : ∃ D : ByteArray, D = ⟨(piece s.data.toList a.toNat 2).toArray⟩ := ⟨_, rfl⟩
    have hn := fun W => num_any D W (by rw [hD]; simp only; omega)
    rw [← hD] at hsub
    have hDl : D.data.toList = piece s.data.toList a.toNat 2 := by rw [hD]
    rw [hDl] at hn
    have hlt := bv_le _ 2 hpl
    show Calls _ _ _ _ fun e w' => e = .returned (.tuple #[.int .u16 (bv (piece s.data.toList a.toNat 2) 0 : Int), .int .i64 0]) ∧ w = w'
    obtain ⟨m, hm⟩ : ∃ m, m = bv (piece s.data.toList a.toNat 2) 0 := ⟨_, rfl⟩
    rw [← hm] at hn hlt ⊢
    have hwm := wrap_u16n m hlt
    have HH := Lib.hid hh
    have HN := Lib.hid hn
    clear hD hDl hm hpl hh hsz h0 h1 h2 hn
    go_enter Try.func30, Try.ntmps30
    go_wp2_with (first
      | (go_at_call 49; (with_reducible refine (HH.out _).mono ?_); rintro e w' ⟨rfl, rfl⟩)
      | (go_at_call 50; (with_reducible refine (HN.out _).mono ?_); rintro e w' ⟨rfl, rfl⟩))
    go_ret2
    exact ⟨rfl, rfl⟩
  · rw [if_neg h, if_neg h]
    rw [decide_eq_false h] at hh
    have HH := Lib.hid hh
    clear hh hsz h
    go_enter Try.func30, Try.ntmps30
    go_wp2_with (go_at_call 49; (with_reducible refine (HH.out _).mono ?_); rintro e w' ⟨rfl, rfl⟩)
    go_ret2
    exact ⟨rfl, rfl⟩
set_option maxHeartbeats 2000000 in
set_option maxRecDepth 100000 in
theorem is_any (s : ByteArray) (w : World) (hs : s.size ≤ 1000000000) : Calls Try.prog 13 #[.string s] w fun e w' => e = .returned (.bool (decide (isN s.data.toList))) ∧ w = w' := by
  have CU := fun W => u16_any s 0 W hs (by omega)
  have hsz := size_list s
  by_cases h1 : 2 ≤ s.size
  · obtain ⟨k1, k2⟩ := cutL_in (l := s.data.toList) (a := 0) (n := 2) (by rw [hsz]; omega)
    have k1 : cutL s.data.toList 0 2 = piece s.data.toList 0 2 := k1
    have k2 : cutE s.data.toList 0 2 = 0 := k2
    rw [k1, k2] at CU
    have hv : n2 s.data.toList 0 < 65536 := n2_lt _ _
    have hN : isN s.data.toList ↔ 32768 ≤ n2 s.data.toList 0 := ⟨fun h => h.2, fun h => ⟨by rw [hsz]; exact h1, h⟩⟩
    obtain ⟨v, hvv⟩ : ∃ v, v = n2 s.data.toList 0 := ⟨_, rfl⟩
    have CU : ∀ W, Calls Try.prog 30 #[.string s, .int .i64 0] W fun e w' => e = .returned (.tuple #[.int .u16 (v : Int), .int .i64 0]) ∧ W = w' := fun W => by rw [hvv]; exact CU W
    have HU := Lib.hid CU
    rw [← hvv] at hv hN
    have hw := wrap_i16n v hv
    have hs2 : sg16 v < 0 ↔ 32768 ≤ v := by unfold sg16; split <;> omega
    obtain ⟨t, ht⟩ : ∃ t, t = sg16 v := ⟨_, rfl⟩
    rw [← ht] at hw hs2
    by_cases h2 : t < 0
    · rw [decide_eq_true (hN.2 (hs2.1 h2))]
      have e2 : decide (t < 0) = true := decide_eq_true h2
      clear CU k1 k2 hvv hN hs2 ht hsz
      go_enter Try.func13, Try.ntmps13
      go_wp2_with (go_at_call 30; (with_reducible refine (HU.out _).mono ?_); rintro e w' ⟨rfl, rfl⟩)
      go_ret
      exact ⟨rfl, rfl⟩
    · rw [decide_eq_false (fun h => h2 (hs2.2 (hN.1 h)))]
      have e2 : decide (t < 0) = false := decide_eq_false h2
      clear CU k1 k2 hvv hN hs2 ht hsz
      go_enter Try.func13, Try.ntmps13
      go_wp2_with (go_at_call 30; (with_reducible refine (HU.out _).mono ?_); rintro e w' ⟨rfl, rfl⟩)
      go_ret
      exact ⟨rfl, rfl⟩
  · rw [decide_eq_false (fun h => h1 (by rw [← hsz]; exact h.1))]
    have k2 : cutE s.data.toList 0 2 = 3 := by
      unfold cutE
      rw [if_neg (fun h => by obtain ⟨_, _, h3⟩ := h; rw [hsz] at h3; omega)]
    rw [k2] at CU
    obtain ⟨v, hvv⟩ : ∃ v, v = bv (cutL s.data.toList 0 2) 0 := ⟨_, rfl⟩
    have CU : ∀ W, Calls Try.prog 30 #[.string s, .int .i64 0] W fun e w' => e = .returned (.tuple #[.int .u16 (v : Int), .int .i64 3]) ∧ W = w' := fun W => by rw [hvv]; exact CU W
    have HU := Lib.hid CU
    clear CU k2 hvv hsz
    go_enter Try.func13, Try.ntmps13
    go_wp2_with (go_at_call 30; (with_reducible refine (HU.out _).mono ?_); rintro e w' ⟨rfl, rfl⟩)
    go_ret
    exact ⟨rfl, rfl⟩
set_option maxHeartbeats 2000000 in
set_option maxRecDepth 100000 in
theorem same_any (A A' : Option Addr) (m c c' : Nat) (L : List Prt) (w : World) (h : Prl w A m L) (h' : Prl w A' m L) (hm : m ≤ 1000000) : Calls Try.prog 12 #[.slice A m c, .slice A' m c'] w fun e w' => e = .returned (.bool true) ∧ Below w.heap.size w w' := by
  have HX := Lib.hid h
  have HY := Lib.hid h'
  clear h h'
  go_enter Try.func12, Try.ntmps12
  go_wp2_with fail
  go_loopw [5] (fun i wr => ∃ k : Nat, i = .int .i64 (k : Int) ∧ k ≤ m ∧ Below w.heap.size w wr) (fun i _ => m - (intOf i).toNat)
  case atStart => exact ⟨0, rfl, Nat.zero_le _, Below.refl _ _⟩
  case round =>
    obtain ⟨k, rfl, hk, hb⟩ := hrel
    have HB := Lib.hid hb
    clear hb
    by_cases hgo : k < m
    · obtain ⟨ad, rfl, hc⟩ := HX.out.at_ HB.out hgo
      obtain ⟨ad2, rfl, hd⟩ := HY.out.at_ HB.out hgo
      obtain ⟨p, hp⟩ : ∃ p, p = qp L k := ⟨_, rfl⟩
      rw [← hp] at hc hd
      obtain ⟨g, x, y, a, b, c, d⟩ := p
      obtain ⟨c0, c1, c2, c3, c4, c5, c6⟩ := hc
      obtain ⟨d0, d1, d2, d3, d4, d5, d6⟩ := hd
      dsimp only at c0 c1 c2 c3 c4 c5 c6 d0 d1 d2 d3 d4 d5 d6
      clear hp
      go_wp2_with fail
      go_quiet (fail)
      all_goals
        go_wp2_with fail
        exact ⟨⟨k + 1, by simp, by omega, below_drewN HB.out _⟩, by simp [intOf]; omega⟩
    · have hkm : k = m := by omega
      subst hkm
      go_wp2_with fail
      go_ret
      exact ⟨rfl, HB.out⟩
set_option maxHeartbeats 4000000 in
set_option maxRecDepth 100000 in
theorem parse_any (s : ByteArray) (G : Int) (w : World) (hs : s.size ≤ 1000000000) :
    Calls Try.prog 11 #[.string s, .int .i64 G] w fun e w' => PsP (PA s.data.toList G) e w' ∧ Below w.heap.size w w' := by
  have HS := Lib.hid hs
  have hsz := size_list s
  have CG := Lib.hid (fun W => glyphs_any G W)
  have CI := Lib.hid (fun W => is_any s W hs)
  have CN := Lib.hid (new_any s w)
  by_cases hG : okG G
  rotate_left
  · have HX := Lib.hid (fun W => psP_err (R := PA s.data.toList G) (w := W) (x := 1) (by unfold PA; rw [if_pos hG]))
    rw [decide_eq_false hG] at CG
    clear hsz hG
    go_enter Try.func11, Try.ntmps11
    go_wp2_with (go_at_call 23; (with_reducible refine (CG.out _).mono ?_); rintro e w1 ⟨rfl, rfl⟩)
    go_ret2
    exact ⟨HX.out _, Below.refl _ _⟩
  rw [decide_eq_true hG] at CG
  have hG' : ¬ ¬ okG G := fun h => h hG
  by_cases c1 : s.size < 10
  · have HX := Lib.hid (fun W => psP_err (R := PA s.data.toList G) (w := W) (x := 3) (by unfold PA; rw [if_neg hG', if_pos (by rw [hsz]; exact c1)]))
    have HC := Lib.hid (show s.size < 0 + 10 by omega)
    clear hsz hG hG'
    go_enter Try.func11, Try.ntmps11
    go_wp2_with (first
      | (go_at_call 23; (with_reducible refine (CG.out _).mono ?_); rintro e w1 ⟨rfl, rfl⟩)
      | (go_at_call 26; (with_reducible refine CN.out.mono ?_); rintro e w1 ⟨rfl, hb1, rd1, _⟩; have H1 := Lib.hid rd1; have B1 := Lib.hid hb1; clear rd1 hb1)
      | (go_at_call 27; (with_reducible refine (skip_any _ s 0 false 10 _ H1.out HS.out (Nat.zero_le _)).mono ?_); rintro e w2 ⟨rfl, hp⟩; have H2 := Lib.hid (pse_out (n := 10) hp HC.out); clear hp)
      | (go_at_call 28; (with_reducible refine (err_bad _ _ _ _ H2.out.1).mono ?_); rintro e w3 ⟨rfl, rfl⟩))
    go_ret2
    exact ⟨HX.out _, B1.out.trans (H2.out.2.below (Nat.le_refl _) B1.out.size)⟩
  have HC := Lib.hid (show 0 + 10 ≤ s.size by omega)
  by_cases c2 : isN s.data.toList
  · have hPA : PA s.data.toList G = prs s.data.toList G 64 [] 10 := by unfold PA; rw [if_neg hG', if_neg (by rw [hsz]; exact c1), if_neg (fun h => h c2)]
    rw [hPA]
    have CR := Lib.hid (fun g W (h : Rd 79 W g s 10 false) => readParts_any g s 10 G W h HS.out (by have := HC.out; omega))
    rw [decide_eq_true c2] at CI
    obtain ⟨R, hR⟩ : ∃ R, R = prs s.data.toList G 64 [] 10 := ⟨_, rfl⟩
    rw [← hR] at CR ⊢
    have HPu := Lib.hid (show ∀ e W, PsP R e W → ∃ A k c, e = .returned (.tuple #[.slice A k c, .int .i64 R.1]) ∧ Prl W A k R.2 from fun e W h => h)
    obtain ⟨x, hx⟩ : ∃ x, x = R.1 := ⟨_, rfl⟩
    have HXx := Lib.hid hx
    rw [← hx] at HPu
    clear hsz hG hG' c2 hPA hR hx
    go_enter Try.func11, Try.ntmps11
    go_wp2_with (first
      | (go_at_call 23; (with_reducible refine (CG.out _).mono ?_); rintro e w1 ⟨rfl, rfl⟩)
      | (go_at_call 26; (with_reducible refine CN.out.mono ?_); rintro e w1 ⟨rfl, hb1, rd1, _⟩; have H1 := Lib.hid rd1; have B1 := Lib.hid hb1; clear rd1 hb1)
      | (go_at_call 27; (with_reducible refine (skip_any _ s 0 false 10 _ H1.out HS.out (Nat.zero_le _)).mono ?_); rintro e w2 ⟨rfl, hp⟩; have H2 := Lib.hid (pse_in (n := 10) hp HC.out); clear hp)
      | (go_at_call 28; (with_reducible refine (err_ok _ _ _ _ H2.out.1).mono ?_); rintro e w3 ⟨rfl, rfl⟩)
      | (go_at_call 13; (with_reducible refine (CI.out _).mono ?_); rintro e w3 ⟨rfl, rfl⟩)
      | (go_at_call 29; (with_reducible refine (CR.out _ _ H2.out.1).mono ?_); rintro e w4 ⟨hps, ho⟩; obtain ⟨A, k, c, rfl, hprl⟩ := HPu.out _ _ hps; have HO := Lib.hid (H2.out.2.trans ho); have HPr := Lib.hid hprl; clear hps ho hprl))
    go_ret2
    exact ⟨⟨A, k, c, by rw [← HXx.out]; rfl, HPr.out⟩, B1.out.trans (HO.out.below (Nat.le_refl _) B1.out.size)⟩
  · have HX := Lib.hid (fun W => psP_err (R := PA s.data.toList G) (w := W) (x := 4) (by unfold PA; rw [if_neg hG', if_neg (by rw [hsz]; exact c1), if_pos c2]))
    rw [decide_eq_false c2] at CI
    clear hsz hG hG' c2
    go_enter Try.func11, Try.ntmps11
    go_wp2_with (first
      | (go_at_call 23; (with_reducible refine (CG.out _).mono ?_); rintro e w1 ⟨rfl, rfl⟩)
      | (go_at_call 26; (with_reducible refine CN.out.mono ?_); rintro e w1 ⟨rfl, hb1, rd1, _⟩; have H1 := Lib.hid rd1; have B1 := Lib.hid hb1; clear rd1 hb1)
      | (go_at_call 27; (with_reducible refine (skip_any _ s 0 false 10 _ H1.out HS.out (Nat.zero_le _)).mono ?_); rintro e w2 ⟨rfl, hp⟩; have H2 := Lib.hid (pse_in (n := 10) hp HC.out); clear hp)
      | (go_at_call 28; (with_reducible refine (err_ok _ _ _ _ H2.out.1).mono ?_); rintro e w3 ⟨rfl, rfl⟩)
      | (go_at_call 13; (with_reducible refine (CI.out _).mono ?_); rintro e w3 ⟨rfl, rfl⟩))
    go_ret2
    exact ⟨HX.out _, B1.out.trans (H2.out.2.below (Nat.le_refl _) B1.out.size)⟩
end Go.Proofs.Ytbmeamhpmahlgaa
