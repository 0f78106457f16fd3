/- Proved here: what Is and Parse answer; Same of a list and itself. Condition: a text of at most a billion bytes; at most 100000 parts. · what Move answers: in the program and in the document. No condition. -/
import Derived.Test.YtlfnagfcggmeaaaKE
namespace Go.Proofs.Ytlfnagfcggmeaaa.C
open Go.RowKit

set_option maxHeartbeats 2000000 in
theorem u16_any (s : ByteArray) (a : Int) (w : World) (hs : s.size ≤ 1000000000) (ha : a < 9223372036854775808) :
    Calls Try.prog 59 #[.string s, .int .i64 a] w fun e w' => e = .returned (.tuple #[.int .u16 (bv (cutL s.data.toList a 2) 0 : Int), .int .i64 (cutE s.data.toList a 2)]) ∧ w = w' := by
  have hsz : s.data.toList.length = s.size := by simp
  have hh := fun W => has_any s a 2 W hs ha
  unfold cutL cutE
  rw [hsz]
  by_cases h : Has s.size a 2
  · rw [if_pos h, if_pos h]
    rw [decide_eq_true h] at hh
    obtain ⟨h0, h1, h2⟩ := h
    have hsub := fun W => sub_run s a (a + 2) h0 (by omega) (by omega) W
    rw [show (a + 2 - a).toNat = 2 by omega] at hsub
    have hwr := i64_in (a + 2) (by omega)
    have hpl := piece_len_le s.data.toList a.toNat 2
    obtain ⟨D, hD⟩ : ∃ D : ByteArray, D = ⟨(piece s.data.toList a.toNat 2).toArray⟩ := ⟨_, rfl⟩
    have hn := fun W => num_any D W (by rw [hD]; simp only; omega)
    rw [← hD] at hsub
    have hDl : D.data.toList = piece s.data.toList a.toNat 2 := by rw [hD]
    rw [hDl] at hn
    have hlt := bv_le _ 2 hpl
    show Calls _ _ _ _ fun e w' => e = .returned (.tuple #[.int .u16 (bv (piece s.data.toList a.toNat 2) 0 : Int), .int .i64 0]) ∧ w = w'
    obtain ⟨m, hm⟩ : ∃ m, m = bv (piece s.data.toList a.toNat 2) 0 := ⟨_, rfl⟩
    rw [← hm] at hn hlt ⊢
    have hwm := wrap_u16n m hlt
    have HH := Lib.hid hh
    have HN := Lib.hid hn
    clear hD hDl hm hpl hh hsz h0 h1 h2 hn
    go_enter Try.func59, Try.ntmps59
    go_wp2_with (first
      | (go_at_call 75; (with_reducible refine (HH.out _).mono ?_); rintro e w' ⟨rfl, rfl⟩)
      | (go_at_call 76; (with_reducible refine (HN.out _).mono ?_); rintro e w' ⟨rfl, rfl⟩))
    go_ret2
    exact ⟨rfl, rfl⟩
  · rw [if_neg h, if_neg h]
    rw [decide_eq_false h] at hh
    have HH := Lib.hid hh
    clear hh hsz h
    go_enter Try.func59, Try.ntmps59
    go_wp2_with (go_at_call 75; (with_reducible refine (HH.out _).mono ?_); rintro e w' ⟨rfl, rfl⟩)
    go_ret2
    exact ⟨rfl, rfl⟩
set_option maxHeartbeats 2000000 in
set_option maxRecDepth 100000 in
theorem is_any (s : ByteArray) (w : World) (hs : s.size ≤ 1000000000) : Calls Try.prog 42 #[.string s] w fun e w' => e = .returned (.bool (decide (isN s.data.toList))) ∧ w = w' := by
  have CU := fun W => u16_any s 0 W hs (by omega)
  have hsz := size_list s
  by_cases h1 : 2 ≤ s.size
  · obtain ⟨k1, k2⟩ := cutL_in (l := s.data.toList) (a := 0) (n := 2) (by rw [hsz]; omega)
    have k1 : cutL s.data.toList 0 2 = piece s.data.toList 0 2 := k1
    have k2 : cutE s.data.toList 0 2 = 0 := k2
    rw [k1, k2] at CU
    have hv : n2 s.data.toList 0 < 65536 := n2_lt _ _
    have hN : isN s.data.toList ↔ 32768 ≤ n2 s.data.toList 0 := ⟨fun h => h.2, fun h => ⟨by rw [hsz]; exact h1, h⟩⟩
    obtain ⟨v, hvv⟩ : ∃ v, v = n2 s.data.toList 0 := ⟨_, rfl⟩
    have CU : ∀ W, Calls Try.prog 59 #[.string s, .int .i64 0] W fun e w' => e = .returned (.tuple #[.int .u16 (v : Int), .int .i64 0]) ∧ W = w' := fun W => by rw [hvv]; exact CU W
    have HU := Lib.hid CU
    rw [← hvv] at hv hN
    have hw := wrap_i16n v hv
    have hs2 : sg16 v < 0 ↔ 32768 ≤ v := by unfold sg16; split <;> omega
    obtain ⟨t, ht⟩ : ∃ t, t = sg16 v := ⟨_, rfl⟩
    rw [← ht] at hw hs2
    by_cases h2 : t < 0
    · rw [decide_eq_true (hN.2 (hs2.1 h2))]
      have e2 : decide (t < 0) = true := decide_eq_true h2
      clear CU k1 k2 hvv hN hs2 ht hsz
      go_enter Try.func42, Try.ntmps42
      go_wp2_with (go_at_call 59; (with_reducible refine (HU.out _).mono ?_); rintro e w' ⟨rfl, rfl⟩)
      go_ret
      exact ⟨rfl, rfl⟩
    · rw [decide_eq_false (fun h => h2 (hs2.2 (hN.1 h)))]
      have e2 : decide (t < 0) = false := decide_eq_false h2
      clear CU k1 k2 hvv hN hs2 ht hsz
      go_enter Try.func42, Try.ntmps42
      go_wp2_with (go_at_call 59; (with_reducible refine (HU.out _).mono ?_); rintro e w' ⟨rfl, rfl⟩)
      go_ret
      exact ⟨rfl, rfl⟩
  · rw [decide_eq_false (fun h => h1 (by rw [← hsz]; exact h.1))]
    have k2 : cutE s.data.toList 0 2 = 3 := by
      unfold cutE
      rw [if_neg (fun h => by obtain ⟨_, _, h3⟩ := h; rw [hsz] at h3; omega)]
    rw [k2] at CU
    obtain ⟨v, hvv⟩ : ∃ v, v = bv (cutL s.data.toList 0 2) 0 := ⟨_, rfl⟩
    have CU : ∀ W, Calls Try.prog 59 #[.string s, .int .i64 0] W fun e w' => e = .returned (.tuple #[.int .u16 (v : Int), .int .i64 3]) ∧ W = w' := fun W => by rw [hvv]; exact CU W
    have HU := Lib.hid CU
    clear CU k2 hvv hsz
    go_enter Try.func42, Try.ntmps42
    go_wp2_with (go_at_call 59; (with_reducible refine (HU.out _).mono ?_); rintro e w' ⟨rfl, rfl⟩)
    go_ret
    exact ⟨rfl, rfl⟩
set_option maxHeartbeats 2000000 in
set_option maxRecDepth 100000 in
theorem same_any (A A' : Option Addr) (m c c' : Nat) (L : List Prt) (w : World) (h : Prl w A m L) (h' : Prl w A' m L) (hm : m ≤ 1000000) : Calls Try.prog 30 #[.slice A m c, .slice A' m c'] w fun e w' => e = .returned (.bool true) ∧ Below w.heap.size w w' := by
  have HX := Lib.hid h
  have HY := Lib.hid h'
  clear h h'
  go_enter Try.func30, Try.ntmps30
  go_wp2_with fail
  go_loopw [5] (fun i wr => ∃ k : Nat, i = .int .i64 (k : Int) ∧ k ≤ m ∧ Below w.heap.size w wr) (fun i _ => m - (intOf i).toNat)
  case atStart => exact ⟨0, rfl, Nat.zero_le _, Below.refl _ _⟩
  case round =>
    obtain ⟨k, rfl, hk, hb⟩ := hrel
    have HB := Lib.hid hb
    clear hb
    by_cases hgo : k < m
    · obtain ⟨ad, rfl, hc⟩ := HX.out.at_ HB.out hgo
      obtain ⟨ad2, rfl, hd⟩ := HY.out.at_ HB.out hgo
      obtain ⟨p, hp⟩ : ∃ p, p = qp L k := ⟨_, rfl⟩
      rw [← hp] at hc hd
      obtain ⟨g, x, y, a, b, c, d⟩ := p
      obtain ⟨c0, c1, c2, c3, c4, c5, c6⟩ := hc
      obtain ⟨d0, d1, d2, d3, d4, d5, d6⟩ := hd
      dsimp only at c0 c1 c2 c3 c4 c5 c6 d0 d1 d2 d3 d4 d5 d6
      clear hp
      go_wp2_with fail
      go_quiet (fail)
      all_goals
        go_wp2_with fail
        exact ⟨⟨k + 1, by simp, by omega, below_drewN HB.out _⟩, by simp [intOf]; omega⟩
    · have hkm : k = m := by omega
      subst hkm
      go_wp2_with fail
      go_ret
      exact ⟨rfl, HB.out⟩
set_option maxHeartbeats 4000000 in
set_option maxRecDepth 100000 in
theorem parse_any (s : ByteArray) (G : Int) (w : World) (hs : s.size ≤ 1000000000) :
    Calls Try.prog 43 #[.string s, .int .i64 G] w fun e w' => PsP (PA s.data.toList G) e w' ∧ Below w.heap.size w w' := by
  have HS := Lib.hid hs
  have hsz := size_list s
  have CG := Lib.hid (fun W => glyphs_any G W)
  have CI := Lib.hid (fun W => is_any s W hs)
  have CN := Lib.hid (new_any s w)
  by_cases hG : okG G
  rotate_left
  · have HX := Lib.hid (fun W => psP_err (R := PA s.data.toList G) (w := W) (x := 1) (by unfold PA; rw [if_pos hG]))
    rw [decide_eq_false hG] at CG
    clear hsz hG
    go_enter Try.func43, Try.ntmps43
    go_wp2_with (go_at_call 56; (with_reducible refine (CG.out _).mono ?_); rintro e w1 ⟨rfl, rfl⟩)
    go_ret2
    exact ⟨HX.out _, Below.refl _ _⟩
  rw [decide_eq_true hG] at CG
  have hG' : ¬ ¬ okG G := fun h => h hG
  by_cases c1 : s.size < 10
  · have HX := Lib.hid (fun W => psP_err (R := PA s.data.toList G) (w := W) (x := 3) (by unfold PA; rw [if_neg hG', if_pos (by rw [hsz]; exact c1)]))
    have HC := Lib.hid (show s.size < 0 + 10 by omega)
    clear hsz hG hG'
    go_enter Try.func43, Try.ntmps43
    go_wp2_with (first
      | (go_at_call 56; (with_reducible refine (CG.out _).mono ?_); rintro e w1 ⟨rfl, rfl⟩)
      | (go_at_call 60; (with_reducible refine CN.out.mono ?_); rintro e w1 ⟨rfl, hb1, rd1, _⟩; have H1 := Lib.hid rd1; have B1 := Lib.hid hb1; clear rd1 hb1)
      | (go_at_call 61; (with_reducible refine (skip_any _ s 0 false 10 _ H1.out HS.out (Nat.zero_le _)).mono ?_); rintro e w2 ⟨rfl, hp⟩; have H2 := Lib.hid (pse_out (n := 10) hp HC.out); clear hp)
      | (go_at_call 62; (with_reducible refine (err_bad _ _ _ _ H2.out.1).mono ?_); rintro e w3 ⟨rfl, rfl⟩))
    go_ret2
    exact ⟨HX.out _, B1.out.trans (H2.out.2.below (Nat.le_refl _) B1.out.size)⟩
  have HC := Lib.hid (show 0 + 10 ≤ s.size by omega)
  by_cases c2 : isN s.data.toList
  · have hPA : PA s.data.toList G = prs s.data.toList G 64 [] 10 := by unfold PA; rw [if_neg hG', if_neg (by rw [hsz]; exact c1), if_neg (fun h => h c2)]
    rw [hPA]
    have CR := Lib.hid (fun g W (h : Rd 127 W g s 10 false) => readParts_any g s 10 G W h HS.out (by have := HC.out; omega))
    rw [decide_eq_true c2] at CI
    obtain ⟨R, hR⟩ : ∃ R, R = prs s.data.toList G 64 [] 10 := ⟨_, rfl⟩
    rw [← hR] at CR ⊢
    have HPu := Lib.hid (show ∀ e W, PsP R e W → ∃ A k c, e = .returned (.tuple #[.slice A k c, .int .i64 R.1]) ∧ Prl W A k R.2 from fun e W h => h)
    obtain ⟨x, hx⟩ : ∃ x, x = R.1 := ⟨_, rfl⟩
    have HXx := Lib.hid hx
    rw [← hx] at HPu
    clear hsz hG hG' c2 hPA hR hx
    go_enter Try.func43, Try.ntmps43
    go_wp2_with (first
      | (go_at_call 56; (with_reducible refine (CG.out _).mono ?_); rintro e w1 ⟨rfl, rfl⟩)
      | (go_at_call 60; (with_reducible refine CN.out.mono ?_); rintro e w1 ⟨rfl, hb1, rd1, _⟩; have H1 := Lib.hid rd1; have B1 := Lib.hid hb1; clear rd1 hb1)
      | (go_at_call 61; (with_reducible refine (skip_any _ s 0 false 10 _ H1.out HS.out (Nat.zero_le _)).mono ?_); rintro e w2 ⟨rfl, hp⟩; have H2 := Lib.hid (pse_in (n := 10) hp HC.out); clear hp)
      | (go_at_call 62; (with_reducible refine (err_ok _ _ _ _ H2.out.1).mono ?_); rintro e w3 ⟨rfl, rfl⟩)
      | (go_at_call 42; (with_reducible refine (CI.out _).mono ?_); rintro e w3 ⟨rfl, rfl⟩)
      | (go_at_call 63; (with_reducible refine (CR.out _ _ H2.out.1).mono ?_); rintro e w4 ⟨hps, ho⟩; obtain ⟨A, k, c, rfl, hprl⟩ := HPu.out _ _ hps; have HO := Lib.hid (H2.out.2.trans ho); have HPr := Lib.hid hprl; clear hps ho hprl))
    go_ret2
    exact ⟨⟨A, k, c, by rw [← HXx.out]; rfl, HPr.out⟩, B1.out.trans (HO.out.below (Nat.le_refl _) B1.out.size)⟩
  · have HX := Lib.hid (fun W => psP_err (R := PA s.data.toList G) (w := W) (x := 4) (by unfold PA; rw [if_neg hG', if_neg (by rw [hsz]; exact c1), if_pos c2]))
    rw [decide_eq_false c2] at CI
    clear hsz hG hG' c2
    go_enter Try.func43, Try.ntmps43
    go_wp2_with (first
      | (go_at_call 56; (with_reducible refine (CG.out _).mono ?_); rintro e w1 ⟨rfl, rfl⟩)
      | (go_at_call 60; (with_reducible refine CN.out.mono ?_); rintro e w1 ⟨rfl, hb1, rd1, _⟩; have H1 := Lib.hid rd1; have B1 := Lib.hid hb1; clear rd1 hb1)
      | (go_at_call 61; (with_reducible refine (skip_any _ s 0 false 10 _ H1.out HS.out (Nat.zero_le _)).mono ?_); rintro e w2 ⟨rfl, hp⟩; have H2 := Lib.hid (pse_in (n := 10) hp HC.out); clear hp)
      | (go_at_call 62; (with_reducible refine (err_ok _ _ _ _ H2.out.1).mono ?_); rintro e w3 ⟨rfl, rfl⟩)
      | (go_at_call 42; (with_reducible refine (CI.out _).mono ?_); rintro e w3 ⟨rfl, rfl⟩))
    go_ret2
    exact ⟨HX.out _, B1.out.trans (H2.out.2.below (Nat.le_refl _) B1.out.size)⟩
end Go.Proofs.Ytlfnagfcggmeaaa.C
namespace Go.Proofs.Ytlfnagfcggmeaaa.C
open Go.RowKit

/-- The nearest whole number of n 2^14ths. -/
def rn (n : Int) : Int := (n + 8192) / 16384
theorem mul_bd {a x : Int} (ha : -32768 ≤ a ∧ a ≤ 32767) (hx : -32767 ≤ x ∧ x ≤ 32767) : -1073741824 ≤ a * x ∧ a * x ≤ 1073741824 := by
  have h1 : (a * x).natAbs = a.natAbs * x.natAbs := Int.natAbs_mul a x
  have h2 : a.natAbs * x.natAbs ≤ 32768 * 32768 := Nat.mul_le_mul (by omega) (by omega)
  omega
theorem turn_same {f : FuncId} {args : Array Value} {w : World} {v : Ending} (h : Calls Try.prog f args w fun e w' => e = v ∧ w = w') : Calls Try.prog f args w fun e w' => e = v ∧ w' = w := h.mono fun _ _ ⟨h1, h2⟩ => ⟨h1, h2.symm⟩
set_option maxHeartbeats 1000000 in
set_option maxRecDepth 100000 in
theorem nearest_any (n : Int) (w : World) (h : -2147483648 ≤ n ∧ n ≤ 2147483648) : Calls Try.prog 71 #[.int .i64 n] w fun e w' => e = .returned (.int .i64 (rn n)) ∧ w = w' := by
  have e1 : IntKind.i64.wrap (n + 8192) = n + 8192 := i64_in _ (by omega)
  have hr : rn n = (n + 8192) / 16384 := rfl
  obtain ⟨m, hm⟩ : ∃ m, m = n + 8192 := ⟨_, rfl⟩
  rw [← hm] at e1 hr
  rw [hr]
  have e2 : n + 8192 = m := hm.symm
  have hb : -2147483648 ≤ m ∧ m ≤ 2147500000 := by omega
  clear h hm hr
  go_enter Try.func71, Try.ntmps71
  go_wp2_with fail
  go_ret
  exact ⟨rfl, rfl⟩
set_option maxHeartbeats 1000000 in
set_option maxRecDepth 100000 in
theorem rround_any (n : Int) (w : World) (h : -2147483648 ≤ n ∧ n ≤ 2147483648) : Calls Try.prog 73 #[.int .i64 n] w fun e w' => e = .returned (.int .i64 (rn n)) ∧ w = w' := by
  have e1 : IntKind.i64.wrap (n + 8192) = n + 8192 := i64_in _ (by omega)
  have hr : rn n = (n + 8192) / 16384 := rfl
  obtain ⟨m, hm⟩ : ∃ m, m = n + 8192 := ⟨_, rfl⟩
  rw [← hm] at e1 hr
  have e2 : n + 8192 = m := hm.symm
  obtain ⟨q, hq⟩ : ∃ q, q = m.tdiv 16384 := ⟨_, rfl⟩
  obtain ⟨t, ht⟩ : ∃ t, t = m.tmod 16384 := ⟨_, rfl⟩
  have hdm : 16384 * q + t = m := by rw [hq, ht]; exact Int.mul_tdiv_add_tmod m 16384
  have htn : (0 ≤ m → 0 ≤ t ∧ t < 16384) ∧ (m ≤ 0 → -16384 < t ∧ t ≤ 0) := by
    refine ⟨fun h0 => ?_, fun h0 => ?_⟩
    · rw [ht]; exact ⟨Int.tmod_nonneg _ h0, Int.tmod_lt_of_pos _ (by omega)⟩
    · have h3 : (-m).tmod 16384 = -(m.tmod 16384) := Int.neg_tmod m 16384
      have h4 := Int.tmod_nonneg (a := -m) 16384 (by omega)
      have h5 := Int.tmod_lt_of_pos (-m) (b := 16384) (by omega)
      omega
  have w1 : IntKind.i64.wrap (m.tdiv 16384) = m.tdiv 16384 := i64_in _ (by omega)
  have w2 : IntKind.i64.wrap (m.tmod 16384) = m.tmod 16384 := i64_in _ (by omega)
  have w3 : IntKind.i64.wrap (m.tdiv 16384 - 1) = m.tdiv 16384 - 1 := i64_in _ (by omega)
  have hqb : -2147483648 ≤ q ∧ q ≤ 2147483648 := by omega
  have HQ := Lib.hid hq
  have h00 : m.tmod 16384 = t := ht.symm
  by_cases h0 : m.tmod 16384 < 0
  · have hR : rn n = q - 1 := by rw [hr]; omega
    rw [hR]
    clear h hm hr hdm htn hR h00 hq ht
    go_enter Try.func73, Try.ntmps73
    go_wp2_with fail
    go_ret
    exact ⟨by rw [HQ.out]; rfl, rfl⟩
  · have hR : rn n = q := by rw [hr]; omega
    rw [hR]
    clear h hm hr hdm htn hR h00 hq ht
    go_enter Try.func73, Try.ntmps73
    go_wp2_with fail
    go_ret
    exact ⟨by rw [HQ.out]; rfl, rfl⟩
/-- What Move answers. -/
def mvR (p : Prt) (x y : Int) : Int × Int := (rn (p.2.2.2.1 * x + p.2.2.2.2.2.1 * y) + p.2.1, rn (p.2.2.2.2.1 * x + p.2.2.2.2.2.2 * y) + p.2.2.1)
def mvA (p : Prt) (x y : Int) : Int × Int × Int := if ¬ (okP p 1024 ∧ okU x ∧ okU y) then (0, 0, 1) else if ¬ (okU (mvR p x y).1 ∧ okU (mvR p x y).2) then (0, 0, 2) else ((mvR p x y).1, (mvR p x y).2, 0)
set_option maxHeartbeats 8000000 in
set_option maxRecDepth 100000 in
theorem move_any (g dx dy a b c d x y : Int) (w : World) : Calls Try.prog 53 #[.agg #[.int .i64 g, .int .i64 dx, .int .i64 dy, .int .i64 a, .int .i64 b, .int .i64 c, .int .i64 d], .int .i64 x, .int .i64 y] w fun e w' =>
    e = .returned (.tuple #[.int .i64 (mvA (g, dx, dy, a, b, c, d) x y).1, .int .i64 (mvA (g, dx, dy, a, b, c, d) x y).2.1, .int .i64 (mvA (g, dx, dy, a, b, c, d) x y).2.2]) ∧ Below w.heap.size w w' := by
  have HB0 := Lib.hid (show Below w.heap.size w (w.alloc (.cells #[.int .i64 g, .int .i64 dx, .int .i64 dy, .int .i64 a, .int .i64 b, .int .i64 c, .int .i64 d] 54)) from (Below.refl _ _).alloc (Nat.le_refl _) _)
  have BX := Lib.hid (Bp.new w g dx dy a b c d)
  have CP := Lib.hid (fun W => mayPart_any g dx dy a b c d 1024 W)
  have CX := Lib.hid (fun W => unit_any x W)
  have CY := Lib.hid (fun W => unit_any y W)
  by_cases k1 : okP (g, dx, dy, a, b, c, d) 1024
  rotate_left
  · rw [decide_eq_false k1] at CP
    have hA : mvA (g, dx, dy, a, b, c, d) x y = (0, 0, 1) := by unfold mvA; rw [if_pos (fun h => k1 h.1)]
    rw [hA]
    clear hA k1
    go_enter Try.func53, Try.ntmps53
    go_wp2_with (first
      | (go_at_call 57; (with_reducible refine (CP.out _).mono ?_); rintro e w1 ⟨rfl, hb⟩; have B1 := Lib.hid (HB0.out.trans (hb.mono HB0.out.size)); have BX1 := Lib.hid (BX.out.bel hb); have BB := Lib.hid (Below.refl w1.heap.size w1); obtain ⟨c0, c1, c2, c3, c4, c5, c6⟩ := (BX.out.bel hb).cells; clear hb)
      | (go_at_call 70; (with_reducible refine (CX.out _).mono ?_); rintro e w2 ⟨rfl, rfl⟩)
      | (go_at_call 70; (with_reducible refine (CY.out _).mono ?_); rintro e w2 ⟨rfl, rfl⟩))
    go_ret3
    exact ⟨rfl, B1.out⟩
  by_cases k2 : okU x
  rotate_left
  · rw [decide_eq_true k1] at CP
    rw [decide_eq_false k2] at CX
    have hA : mvA (g, dx, dy, a, b, c, d) x y = (0, 0, 1) := by unfold mvA; rw [if_pos (fun h => k2 h.2.1)]
    rw [hA]
    clear hA k1 k2
    go_enter Try.func53, Try.ntmps53
    go_wp2_with (first
      | (go_at_call 57; (with_reducible refine (CP.out _).mono ?_); rintro e w1 ⟨rfl, hb⟩; have B1 := Lib.hid (HB0.out.trans (hb.mono HB0.out.size)); have BX1 := Lib.hid (BX.out.bel hb); have BB := Lib.hid (Below.refl w1.heap.size w1); obtain ⟨c0, c1, c2, c3, c4, c5, c6⟩ := (BX.out.bel hb).cells; clear hb)
      | (go_at_call 70; (with_reducible refine (CX.out _).mono ?_); rintro e w2 ⟨rfl, rfl⟩)
      | (go_at_call 70; (with_reducible refine (CY.out _).mono ?_); rintro e w2 ⟨rfl, rfl⟩))
    go_ret3
    exact ⟨rfl, B1.out⟩
  by_cases k3 : okU y
  rotate_left
  · rw [decide_eq_true k1] at CP
    rw [decide_eq_true k2] at CX
    rw [decide_eq_false k3] at CY
    have hA : mvA (g, dx, dy, a, b, c, d) x y = (0, 0, 1) := by unfold mvA; rw [if_pos (fun h => k3 h.2.2)]
    rw [hA]
    clear hA k1 k2 k3
    go_enter Try.func53, Try.ntmps53
    go_wp2_with (first
      | (go_at_call 57; (with_reducible refine (CP.out _).mono ?_); rintro e w1 ⟨rfl, hb⟩; have B1 := Lib.hid (HB0.out.trans (hb.mono HB0.out.size)); have BX1 := Lib.hid (BX.out.bel hb); have BB := Lib.hid (Below.refl w1.heap.size w1); obtain ⟨c0, c1, c2, c3, c4, c5, c6⟩ := (BX.out.bel hb).cells; clear hb)
      | (go_at_call 70; (with_reducible refine (CX.out _).mono ?_); rintro e w2 ⟨rfl, rfl⟩)
      | (go_at_call 70; (with_reducible refine (CY.out _).mono ?_); rintro e w2 ⟨rfl, rfl⟩))
    go_ret3
    exact ⟨rfl, B1.out⟩
  rw [decide_eq_true k1] at CP
  rw [decide_eq_true k2] at CX
  rw [decide_eq_true k3] at CY
  have hA : mvA (g, dx, dy, a, b, c, d) x y = if ¬ (okU (rn (a * x + c * y) + dx) ∧ okU (rn (b * x + d * y) + dy)) then (0, 0, 2) else (rn (a * x + c * y) + dx, rn (b * x + d * y) + dy, 0) := by
    unfold mvA; rw [if_neg (fun h => h ⟨k1, k2, k3⟩)]; rfl
  rw [hA]
  obtain ⟨_, i1, i2, i3, i4, i5, i6⟩ := k1
  have i1 : -32768 ≤ dx ∧ dx ≤ 32767 := i1
  have i2 : -32768 ≤ dy ∧ dy ≤ 32767 := i2
  have j1 := mul_bd i3 k2
  have j2 := mul_bd i5 k3
  have j3 := mul_bd i4 k2
  have j4 := mul_bd i6 k3
  dsimp only at j1 j2 j3 j4
  have w1 : IntKind.i64.wrap (a * x) = a * x := i64_in _ (by omega)
  have w2 : IntKind.i64.wrap (c * y) = c * y := i64_in _ (by omega)
  have w3 : IntKind.i64.wrap (b * x) = b * x := i64_in _ (by omega)
  have w4 : IntKind.i64.wrap (d * y) = d * y := i64_in _ (by omega)
  obtain ⟨m1, hm1⟩ : ∃ m, m = a * x := ⟨_, rfl⟩
  obtain ⟨m2, hm2⟩ : ∃ m, m = c * y := ⟨_, rfl⟩
  obtain ⟨m3, hm3⟩ : ∃ m, m = b * x := ⟨_, rfl⟩
  obtain ⟨m4, hm4⟩ : ∃ m, m = d * y := ⟨_, rfl⟩
  rw [← hm1] at w1 j1
  rw [← hm2] at w2 j2
  rw [← hm3] at w3 j3
  rw [← hm4] at w4 j4
  rw [← hm1, ← hm2, ← hm3, ← hm4]
  have v1 : IntKind.i64.wrap (m1 + m2) = m1 + m2 := i64_in _ (by omega)
  have v2 : IntKind.i64.wrap (m3 + m4) = m3 + m4 := i64_in _ (by omega)
  obtain ⟨s1, hs1⟩ : ∃ m, m = m1 + m2 := ⟨_, rfl⟩
  obtain ⟨s2, hs2⟩ : ∃ m, m = m3 + m4 := ⟨_, rfl⟩
  rw [← hs1] at v1
  rw [← hs2] at v2
  rw [← hs1, ← hs2]
  have CN1 := fun W => nearest_any s1 W (by omega)
  have CN2 := fun W => nearest_any s2 W (by omega)
  have b1 : -200000 ≤ rn s1 ∧ rn s1 ≤ 200000 := by unfold rn; omega
  have b2 : -200000 ≤ rn s2 ∧ rn s2 ≤ 200000 := by unfold rn; omega
  obtain ⟨n1, hn1⟩ : ∃ m, m = rn s1 := ⟨_, rfl⟩
  obtain ⟨n2, hn2⟩ : ∃ m, m = rn s2 := ⟨_, rfl⟩
  rw [← hn1] at CN1 b1
  rw [← hn2] at CN2 b2
  rw [← hn1, ← hn2]
  have u1 : IntKind.i64.wrap (n1 + dx) = n1 + dx := i64_in _ (by omega)
  have u2 : IntKind.i64.wrap (n2 + dy) = n2 + dy := i64_in _ (by omega)
  obtain ⟨r1, hr1⟩ : ∃ m, m = n1 + dx := ⟨_, rfl⟩
  obtain ⟨r2, hr2⟩ : ∃ m, m = n2 + dy := ⟨_, rfl⟩
  rw [← hr1] at u1
  rw [← hr2] at u2
  rw [← hr1, ← hr2]
  have N1 := Lib.hid (fun W => turn_same (CN1 W))
  have N2 := Lib.hid (fun W => turn_same (CN2 W))
  have U1 := Lib.hid (fun W => unit_any r1 W)
  have U2 := Lib.hid (fun W => unit_any r2 W)
  have hw1 : IntKind.i64.wrap (a * x) = m1 := by rw [← hm1]; exact w1
  have hw2 : IntKind.i64.wrap (c * y) = m2 := by rw [← hm2]; exact w2
  have hw3 : IntKind.i64.wrap (b * x) = m3 := by rw [← hm3]; exact w3
  have hw4 : IntKind.i64.wrap (d * y) = m4 := by rw [← hm4]; exact w4
  have hv1 : IntKind.i64.wrap (m1 + m2) = s1 := by rw [← hs1]; exact v1
  have hv2 : IntKind.i64.wrap (m3 + m4) = s2 := by rw [← hs2]; exact v2
  have hu1 : IntKind.i64.wrap (n1 + dx) = r1 := by rw [← hr1]; exact u1
  have hu2 : IntKind.i64.wrap (n2 + dy) = r2 := by rw [← hr2]; exact u2
  clear hA i1 i2 i3 i4 i5 i6 j1 j2 j3 j4 w1 w2 w3 w4 v1 v2 u1 u2 hm1 hm2 hm3 hm4 hs1 hs2 hn1 hn2 hr1 hr2 CN1 CN2 b1 b2 k2 k3
  by_cases q1 : okU r1
  · rw [decide_eq_true q1] at U1
    by_cases q2 : okU r2
    · rw [decide_eq_true q2] at U2
      rw [if_neg (fun h => h ⟨q1, q2⟩)]
      clear q1 q2
      go_enter Try.func53, Try.ntmps53
      go_upto_region 3 with (first
        | (go_at_call 57; (with_reducible refine (CP.out _).mono ?_); rintro e w1 ⟨rfl, hb⟩; have B1 := Lib.hid (HB0.out.trans (hb.mono HB0.out.size)); have BX1 := Lib.hid (BX.out.bel hb); have BB := Lib.hid (Below.refl w1.heap.size w1); obtain ⟨c0, c1, c2, c3, c4, c5, c6⟩ := (BX.out.bel hb).cells; clear hb)
        | (go_at_call 70; (with_reducible refine (CX.out _).mono ?_); rintro e w2 ⟨rfl, rfl⟩)
        | (go_at_call 70; (with_reducible refine (CY.out _).mono ?_); rintro e w2 ⟨rfl, rfl⟩))
      go_quiet ((first | (go_at_call 71; with_reducible exact Calls.quiet_of_same (N1.out _)) | (go_at_call 71; with_reducible exact Calls.quiet_of_same (N2.out _))))
      go_upto_region 4 with fail
      generalize hW2 : w1.drewN _ = W2
      have BX2 := Lib.hid (show Bp W2 w.heap.size (g, dx, dy, a, b, c, d) from by rw [← hW2]; exact BX1.out)
      have B2 := Lib.hid (show Below w.heap.size w W2 from by rw [← hW2]; exact below_drewN B1.out _)
      clear hW2 c0 c1 c2 c3 c4 c5 c6
      obtain ⟨c0, c1, c2, c3, c4, c5, c6⟩ := BX2.out.cells
      go_quiet ((first | (go_at_call 71; with_reducible exact Calls.quiet_of_same (N1.out _)) | (go_at_call 71; with_reducible exact Calls.quiet_of_same (N2.out _))))
      go_wp2_with (first
        | (go_at_call 70; (with_reducible refine (U1.out _).mono ?_); rintro e w2 ⟨rfl, rfl⟩)
        | (go_at_call 70; (with_reducible refine (U2.out _).mono ?_); rintro e w2 ⟨rfl, rfl⟩))
      go_ret3
      exact ⟨rfl, below_drewN B2.out _⟩
    · rw [decide_eq_false q2] at U2
      rw [if_pos (fun h => q2 h.2)]
      clear q1 q2
      go_enter Try.func53, Try.ntmps53
      go_upto_region 3 with (first
        | (go_at_call 57; (with_reducible refine (CP.out _).mono ?_); rintro e w1 ⟨rfl, hb⟩; have B1 := Lib.hid (HB0.out.trans (hb.mono HB0.out.size)); have BX1 := Lib.hid (BX.out.bel hb); have BB := Lib.hid (Below.refl w1.heap.size w1); obtain ⟨c0, c1, c2, c3, c4, c5, c6⟩ := (BX.out.bel hb).cells; clear hb)
        | (go_at_call 70; (with_reducible refine (CX.out _).mono ?_); rintro e w2 ⟨rfl, rfl⟩)
        | (go_at_call 70; (with_reducible refine (CY.out _).mono ?_); rintro e w2 ⟨rfl, rfl⟩))
      go_quiet ((first | (go_at_call 71; with_reducible exact Calls.quiet_of_same (N1.out _)) | (go_at_call 71; with_reducible exact Calls.quiet_of_same (N2.out _))))
      go_upto_region 4 with fail
      generalize hW2 : w1.drewN _ = W2
      have BX2 := Lib.hid (show Bp W2 w.heap.size (g, dx, dy, a, b, c, d) from by rw [← hW2]; exact BX1.out)
      have B2 := Lib.hid (show Below w.heap.size w W2 from by rw [← hW2]; exact below_drewN B1.out _)
      clear hW2 c0 c1 c2 c3 c4 c5 c6
      obtain ⟨c0, c1, c2, c3, c4, c5, c6⟩ := BX2.out.cells
      go_quiet ((first | (go_at_call 71; with_reducible exact Calls.quiet_of_same (N1.out _)) | (go_at_call 71; with_reducible exact Calls.quiet_of_same (N2.out _))))
      go_wp2_with (first
        | (go_at_call 70; (with_reducible refine (U1.out _).mono ?_); rintro e w2 ⟨rfl, rfl⟩)
        | (go_at_call 70; (with_reducible refine (U2.out _).mono ?_); rintro e w2 ⟨rfl, rfl⟩))
      go_ret3
      exact ⟨rfl, below_drewN B2.out _⟩
  · rw [decide_eq_false q1] at U1
    rw [if_pos (fun h => q1 h.1)]
    clear q1
    go_enter Try.func53, Try.ntmps53
    go_upto_region 3 with (first
      | (go_at_call 57; (with_reducible refine (CP.out _).mono ?_); rintro e w1 ⟨rfl, hb⟩; have B1 := Lib.hid (HB0.out.trans (hb.mono HB0.out.size)); have BX1 := Lib.hid (BX.out.bel hb); have BB := Lib.hid (Below.refl w1.heap.size w1); obtain ⟨c0, c1, c2, c3, c4, c5, c6⟩ := (BX.out.bel hb).cells; clear hb)
      | (go_at_call 70; (with_reducible refine (CX.out _).mono ?_); rintro e w2 ⟨rfl, rfl⟩)
      | (go_at_call 70; (with_reducible refine (CY.out _).mono ?_); rintro e w2 ⟨rfl, rfl⟩))
    go_quiet ((first | (go_at_call 71; with_reducible exact Calls.quiet_of_same (N1.out _)) | (go_at_call 71; with_reducible exact Calls.quiet_of_same (N2.out _))))
    go_upto_region 4 with fail
    generalize hW2 : w1.drewN _ = W2
    have BX2 := Lib.hid (show Bp W2 w.heap.size (g, dx, dy, a, b, c, d) from by rw [← hW2]; exact BX1.out)
    have B2 := Lib.hid (show Below w.heap.size w W2 from by rw [← hW2]; exact below_drewN B1.out _)
    clear hW2 c0 c1 c2 c3 c4 c5 c6
    obtain ⟨c0, c1, c2, c3, c4, c5, c6⟩ := BX2.out.cells
    go_quiet ((first | (go_at_call 71; with_reducible exact Calls.quiet_of_same (N1.out _)) | (go_at_call 71; with_reducible exact Calls.quiet_of_same (N2.out _))))
    go_wp2_with (first
      | (go_at_call 70; (with_reducible refine (U1.out _).mono ?_); rintro e w2 ⟨rfl, rfl⟩)
      | (go_at_call 70; (with_reducible refine (U2.out _).mono ?_); rintro e w2 ⟨rfl, rfl⟩))
    go_ret3
    exact ⟨rfl, below_drewN B2.out _⟩
set_option maxHeartbeats 8000000 in
set_option maxRecDepth 100000 in
theorem rmove_any (g dx dy a b c d x y : Int) (w : World) : Calls Try.prog 54 #[.agg #[.int .i64 g, .int .i64 dx, .int .i64 dy, .int .i64 a, .int .i64 b, .int .i64 c, .int .i64 d], .int .i64 x, .int .i64 y] w fun e w' =>
    e = .returned (.tuple #[.int .i64 (mvA (g, dx, dy, a, b, c, d) x y).1, .int .i64 (mvA (g, dx, dy, a, b, c, d) x y).2.1, .int .i64 (mvA (g, dx, dy, a, b, c, d) x y).2.2]) ∧ Below w.heap.size w w' := by
  have HB0 := Lib.hid (show Below w.heap.size w (w.alloc (.cells #[.int .i64 g, .int .i64 dx, .int .i64 dy, .int .i64 a, .int .i64 b, .int .i64 c, .int .i64 d] 54)) from (Below.refl _ _).alloc (Nat.le_refl _) _)
  have BX := Lib.hid (Bp.new w g dx dy a b c d)
  have CP := Lib.hid (fun W => rone_any g dx dy a b c d 1024 W)
  have CX := Lib.hid (fun W => runit_any x W)
  have CY := Lib.hid (fun W => runit_any y W)
  by_cases k1 : okP (g, dx, dy, a, b, c, d) 1024
  rotate_left
  · rw [decide_eq_false k1] at CP
    have hA : mvA (g, dx, dy, a, b, c, d) x y = (0, 0, 1) := by unfold mvA; rw [if_pos (fun h => k1 h.1)]
    rw [hA]
    clear hA k1
    go_enter Try.func54, Try.ntmps54
    go_wp2_with (first
      | (go_at_call 41; (with_reducible refine (CP.out _).mono ?_); rintro e w1 ⟨rfl, hb⟩; have B1 := Lib.hid (HB0.out.trans (hb.mono HB0.out.size)); have BX1 := Lib.hid (BX.out.bel hb); have BB := Lib.hid (Below.refl w1.heap.size w1); obtain ⟨c0, c1, c2, c3, c4, c5, c6⟩ := (BX.out.bel hb).cells; clear hb)
      | (go_at_call 72; (with_reducible refine (CX.out _).mono ?_); rintro e w2 ⟨rfl, rfl⟩)
      | (go_at_call 72; (with_reducible refine (CY.out _).mono ?_); rintro e w2 ⟨rfl, rfl⟩))
    go_ret3
    exact ⟨rfl, B1.out⟩
  by_cases k2 : okU x
  rotate_left
  · rw [decide_eq_true k1] at CP
    rw [decide_eq_false k2] at CX
    have hA : mvA (g, dx, dy, a, b, c, d) x y = (0, 0, 1) := by unfold mvA; rw [if_pos (fun h => k2 h.2.1)]
    rw [hA]
    clear hA k1 k2
    go_enter Try.func54, Try.ntmps54
    go_wp2_with (first
      | (go_at_call 41; (with_reducible refine (CP.out _).mono ?_); rintro e w1 ⟨rfl, hb⟩; have B1 := Lib.hid (HB0.out.trans (hb.mono HB0.out.size)); have BX1 := Lib.hid (BX.out.bel hb); have BB := Lib.hid (Below.refl w1.heap.size w1); obtain ⟨c0, c1, c2, c3, c4, c5, c6⟩ := (BX.out.bel hb).cells; clear hb)
      | (go_at_call 72; (with_reducible refine (CX.out _).mono ?_); rintro e w2 ⟨rfl, rfl⟩)
      | (go_at_call 72; (with_reducible refine (CY.out _).mono ?_); rintro e w2 ⟨rfl, rfl⟩))
    go_ret3
    exact ⟨rfl, B1.out⟩
  by_cases k3 : okU y
  rotate_left
  · rw [decide_eq_true k1] at CP
    rw [decide_eq_true k2] at CX
    rw [decide_eq_false k3] at CY
    have hA : mvA (g, dx, dy, a, b, c, d) x y = (0, 0, 1) := by unfold mvA; rw [if_pos (fun h => k3 h.2.2)]
    rw [hA]
    clear hA k1 k2 k3
    go_enter Try.func54, Try.ntmps54
    go_wp2_with (first
      | (go_at_call 41; (with_reducible refine (CP.out _).mono ?_); rintro e w1 ⟨rfl, hb⟩; have B1 := Lib.hid (HB0.out.trans (hb.mono HB0.out.size)); have BX1 := Lib.hid (BX.out.bel hb); have BB := Lib.hid (Below.refl w1.heap.size w1); obtain ⟨c0, c1, c2, c3, c4, c5, c6⟩ := (BX.out.bel hb).cells; clear hb)
      | (go_at_call 72; (with_reducible refine (CX.out _).mono ?_); rintro e w2 ⟨rfl, rfl⟩)
      | (go_at_call 72; (with_reducible refine (CY.out _).mono ?_); rintro e w2 ⟨rfl, rfl⟩))
    go_ret3
    exact ⟨rfl, B1.out⟩
  rw [decide_eq_true k1] at CP
  rw [decide_eq_true k2] at CX
  rw [decide_eq_true k3] at CY
  have hA : mvA (g, dx, dy, a, b, c, d) x y = if ¬ (okU (rn (a * x + c * y) + dx) ∧ okU (rn (b * x + d * y) + dy)) then (0, 0, 2) else (rn (a * x + c * y) + dx, rn (b * x + d * y) + dy, 0) := by
    unfold mvA; rw [if_neg (fun h => h ⟨k1, k2, k3⟩)]; rfl
  rw [hA]
  obtain ⟨_, i1, i2, i3, i4, i5, i6⟩ := k1
  have i1 : -32768 ≤ dx ∧ dx ≤ 32767 := i1
  have i2 : -32768 ≤ dy ∧ dy ≤ 32767 := i2
  have j1 := mul_bd i3 k2
  have j2 := mul_bd i5 k3
  have j3 := mul_bd i4 k2
  have j4 := mul_bd i6 k3
  dsimp only at j1 j2 j3 j4
  have w1 : IntKind.i64.wrap (a * x) = a * x := i64_in _ (by omega)
  have w2 : IntKind.i64.wrap (c * y) = c * y := i64_in _ (by omega)
  have w3 : IntKind.i64.wrap (b * x) = b * x := i64_in _ (by omega)
  have w4 : IntKind.i64.wrap (d * y) = d * y := i64_in _ (by omega)
  obtain ⟨m1, hm1⟩ : ∃ m, m = a * x := ⟨_, rfl⟩
  obtain ⟨m2, hm2⟩ : ∃ m, m = c * y := ⟨_, rfl⟩
  obtain ⟨m3, hm3⟩ : ∃ m, m = b * x := ⟨_, rfl⟩
  obtain ⟨m4, hm4⟩ : ∃ m, m = d * y := ⟨_, rfl⟩
  rw [← hm1] at w1 j1
  rw [← hm2] at w2 j2
  rw [← hm3] at w3 j3
  rw [← hm4] at w4 j4
  rw [← hm1, ← hm2, ← hm3, ← hm4]
  have v1 : IntKind.i64.wrap (m1 + m2) = m1 + m2 := i64_in _ (by omega)
  have v2 : IntKind.i64.wrap (m3 + m4) = m3 + m4 := i64_in _ (by omega)
  obtain ⟨s1, hs1⟩ : ∃ m, m = m1 + m2 := ⟨_, rfl⟩
  obtain ⟨s2, hs2⟩ : ∃ m, m = m3 + m4 := ⟨_, rfl⟩
  rw [← hs1] at v1
  rw [← hs2] at v2
  rw [← hs1, ← hs2]
  have CN1 := fun W => rround_any s1 W (by omega)
  have CN2 := fun W => rround_any s2 W (by omega)
  have b1 : -200000 ≤ rn s1 ∧ rn s1 ≤ 200000 := by unfold rn; omega
  have b2 : -200000 ≤ rn s2 ∧ rn s2 ≤ 200000 := by unfold rn; omega
  obtain ⟨n1, hn1⟩ : ∃ m, m = rn s1 := ⟨_, rfl⟩
  obtain ⟨n2, hn2⟩ : ∃ m, m = rn s2 := ⟨_, rfl⟩
  rw [← hn1] at CN1 b1
  rw [← hn2] at CN2 b2
  rw [← hn1, ← hn2]
  have u1 : IntKind.i64.wrap (n1 + dx) = n1 + dx := i64_in _ (by omega)
  have u2 : IntKind.i64.wrap (n2 + dy) = n2 + dy := i64_in _ (by omega)
  obtain ⟨r1, hr1⟩ : ∃ m, m = n1 + dx := ⟨_, rfl⟩
  obtain ⟨r2, hr2⟩ : ∃ m, m = n2 + dy := ⟨_, rfl⟩
  rw [← hr1] at u1
  rw [← hr2] at u2
  rw [← hr1, ← hr2]
  have N1 := Lib.hid (fun W => turn_same (CN1 W))
  have N2 := Lib.hid (fun W => turn_same (CN2 W))
  have U1 := Lib.hid (fun W => runit_any r1 W)
  have U2 := Lib.hid (fun W => runit_any r2 W)
  have hw1 : IntKind.i64.wrap (a * x) = m1 := by rw [← hm1]; exact w1
  have hw2 : IntKind.i64.wrap (c * y) = m2 := by rw [← hm2]; exact w2
  have hw3 : IntKind.i64.wrap (b * x) = m3 := by rw [← hm3]; exact w3
  have hw4 : IntKind.i64.wrap (d * y) = m4 := by rw [← hm4]; exact w4
  have hv1 : IntKind.i64.wrap (m1 + m2) = s1 := by rw [← hs1]; exact v1
  have hv2 : IntKind.i64.wrap (m3 + m4) = s2 := by rw [← hs2]; exact v2
  have hu1 : IntKind.i64.wrap (n1 + dx) = r1 := by rw [← hr1]; exact u1
  have hu2 : IntKind.i64.wrap (n2 + dy) = r2 := by rw [← hr2]; exact u2
  clear hA i1 i2 i3 i4 i5 i6 j1 j2 j3 j4 w1 w2 w3 w4 v1 v2 u1 u2 hm1 hm2 hm3 hm4 hs1 hs2 hn1 hn2 hr1 hr2 CN1 CN2 b1 b2 k2 k3
  by_cases q1 : okU r1
  · rw [decide_eq_true q1] at U1
    by_cases q2 : okU r2
    · rw [decide_eq_true q2] at U2
      rw [if_neg (fun h => h ⟨q1, q2⟩)]
      clear q1 q2
      go_enter Try.func54, Try.ntmps54
      go_upto_region 3 with (first
        | (go_at_call 41; (with_reducible refine (CP.out _).mono ?_); rintro e w1 ⟨rfl, hb⟩; have B1 := Lib.hid (HB0.out.trans (hb.mono HB0.out.size)); have BX1 := Lib.hid (BX.out.bel hb); have BB := Lib.hid (Below.refl w1.heap.size w1); obtain ⟨c0, c1, c2, c3, c4, c5, c6⟩ := (BX.out.bel hb).cells; clear hb)
        | (go_at_call 72; (with_reducible refine (CX.out _).mono ?_); rintro e w2 ⟨rfl, rfl⟩)
        | (go_at_call 72; (with_reducible refine (CY.out _).mono ?_); rintro e w2 ⟨rfl, rfl⟩))
      go_quiet ((first | (go_at_call 73; with_reducible exact Calls.quiet_of_same (N1.out _)) | (go_at_call 73; with_reducible exact Calls.quiet_of_same (N2.out _))))
      go_upto_region 4 with fail
      generalize hW2 : w1.drewN _ = W2
      have BX2 := Lib.hid (show Bp W2 w.heap.size (g, dx, dy, a, b, c, d) from by rw [← hW2]; exact BX1.out)
      have B2 := Lib.hid (show Below w.heap.size w W2 from by rw [← hW2]; exact below_drewN B1.out _)
      clear hW2 c0 c1 c2 c3 c4 c5 c6
      obtain ⟨c0, c1, c2, c3, c4, c5, c6⟩ := BX2.out.cells
      go_quiet ((first | (go_at_call 73; with_reducible exact Calls.quiet_of_same (N1.out _)) | (go_at_call 73; with_reducible exact Calls.quiet_of_same (N2.out _))))
      go_wp2_with (first
        | (go_at_call 72; (with_reducible refine (U1.out _).mono ?_); rintro e w2 ⟨rfl, rfl⟩)
        | (go_at_call 72; (with_reducible refine (U2.out _).mono ?_); rintro e w2 ⟨rfl, rfl⟩))
      go_ret3
      exact ⟨rfl, below_drewN B2.out _⟩
    · rw [decide_eq_false q2] at U2
      rw [if_pos (fun h => q2 h.2)]
      clear q1 q2
      go_enter Try.func54, Try.ntmps54
      go_upto_region 3 with (first
        | (go_at_call 41; (with_reducible refine (CP.out _).mono ?_); rintro e w1 ⟨rfl, hb⟩; have B1 := Lib.hid (HB0.out.trans (hb.mono HB0.out.size)); have BX1 := Lib.hid (BX.out.bel hb); have BB := Lib.hid (Below.refl w1.heap.size w1); obtain ⟨c0, c1, c2, c3, c4, c5, c6⟩ := (BX.out.bel hb).cells; clear hb)
        | (go_at_call 72; (with_reducible refine (CX.out _).mono ?_); rintro e w2 ⟨rfl, rfl⟩)
        | (go_at_call 72; (with_reducible refine (CY.out _).mono ?_); rintro e w2 ⟨rfl, rfl⟩))
      go_quiet ((first | (go_at_call 73; with_reducible exact Calls.quiet_of_same (N1.out _)) | (go_at_call 73; with_reducible exact Calls.quiet_of_same (N2.out _))))
      go_upto_region 4 with fail
      generalize hW2 : w1.drewN _ = W2
      have BX2 := Lib.hid (show Bp W2 w.heap.size (g, dx, dy, a, b, c, d) from by rw [← hW2]; exact BX1.out)
      have B2 := Lib.hid (show Below w.heap.size w W2 from by rw [← hW2]; exact below_drewN B1.out _)
      clear hW2 c0 c1 c2 c3 c4 c5 c6
      obtain ⟨c0, c1, c2, c3, c4, c5, c6⟩ := BX2.out.cells
      go_quiet ((first | (go_at_call 73; with_reducible exact Calls.quiet_of_same (N1.out _)) | (go_at_call 73; with_reducible exact Calls.quiet_of_same (N2.out _))))
      go_wp2_with (first
        | (go_at_call 72; (with_reducible refine (U1.out _).mono ?_); rintro e w2 ⟨rfl, rfl⟩)
        | (go_at_call 72; (with_reducible refine (U2.out _).mono ?_); rintro e w2 ⟨rfl, rfl⟩))
      go_ret3
      exact ⟨rfl, below_drewN B2.out _⟩
  · rw [decide_eq_false q1] at U1
    rw [if_pos (fun h => q1 h.1)]
    clear q1
    go_enter Try.func54, Try.ntmps54
    go_upto_region 3 with (first
      | (go_at_call 41; (with_reducible refine (CP.out _).mono ?_); rintro e w1 ⟨rfl, hb⟩; have B1 := Lib.hid (HB0.out.trans (hb.mono HB0.out.size)); have BX1 := Lib.hid (BX.out.bel hb); have BB := Lib.hid (Below.refl w1.heap.size w1); obtain ⟨c0, c1, c2, c3, c4, c5, c6⟩ := (BX.out.bel hb).cells; clear hb)
      | (go_at_call 72; (with_reducible refine (CX.out _).mono ?_); rintro e w2 ⟨rfl, rfl⟩)
      | (go_at_call 72; (with_reducible refine (CY.out _).mono ?_); rintro e w2 ⟨rfl, rfl⟩))
    go_quiet ((first | (go_at_call 73; with_reducible exact Calls.quiet_of_same (N1.out _)) | (go_at_call 73; with_reducible exact Calls.quiet_of_same (N2.out _))))
    go_upto_region 4 with fail
    generalize hW2 : w1.drewN _ = W2
    have BX2 := Lib.hid (show Bp W2 w.heap.size (g, dx, dy, a, b, c, d) from by rw [← hW2]; exact BX1.out)
    have B2 := Lib.hid (show Below w.heap.size w W2 from by rw [← hW2]; exact below_drewN B1.out _)
    clear hW2 c0 c1 c2 c3 c4 c5 c6
    obtain ⟨c0, c1, c2, c3, c4, c5, c6⟩ := BX2.out.cells
    go_quiet ((first | (go_at_call 73; with_reducible exact Calls.quiet_of_same (N1.out _)) | (go_at_call 73; with_reducible exact Calls.quiet_of_same (N2.out _))))
    go_wp2_with (first
      | (go_at_call 72; (with_reducible refine (U1.out _).mono ?_); rintro e w2 ⟨rfl, rfl⟩)
      | (go_at_call 72; (with_reducible refine (U2.out _).mono ?_); rintro e w2 ⟨rfl, rfl⟩))
    go_ret3
    exact ⟨rfl, below_drewN B2.out _⟩
end Go.Proofs.Ytlfnagfcggmeaaa.C
