/- Proved here: what package ratio's fit and New answer. Condition: halves of 64 bits; numbers of 64 bits. -/
import Derived.Test.YtjjinncecfilpaaDoorZc
namespace Go.Proofs.YtjjinncecfilpaaDoor
open Go.RowKit

theorem dec_gtr {q : Int} {N M : Nat} (hq : q = O.cmpI N M) (b : Bool) (h : decide (M < N) = b) : decide (0 < q) = b := by rw [hq, gtr_cmp, h]
theorem p_fit (s : Bool) (a b c d : Nat) (w : World) (hb : b < 18446744073709551616) (hd : d < 18446744073709551616) :
    Calls Tryd.prog 33 #[.bool s, .agg #[.int .u64 (a : Int), .int .u64 (b : Int)], .agg #[.int .u64 (c : Int), .int .u64 (d : Int)]] w (RatE (fitI (sv s (O.numW a b)) (O.numW c d)) w) := by
  by_cases h2 : 9223372036854775807 < O.numW c d
  · have e : fitI (sv s (O.numW a b)) (O.numW c d) = (0, 0, 2) := if_neg fun h => by have := h.2.2; omega
    rw [e]
    cases s
    · by_cases h1 : 9223372036854775807 < O.numW a b
      · exact fit_first0 a b c d _ w hb rfl (dec_gtr rfl _ (decide_eq_true h1))
      · exact fit_second0 a b c d _ _ w hb rfl (dec_gtr rfl _ (decide_eq_false h1)) hd rfl (dec_gtr rfl _ (decide_eq_true h2))
    · by_cases h1 : 9223372036854775808 < O.numW a b
      · exact fit_first1 a b c d _ w hb rfl (dec_gtr rfl _ (decide_eq_true h1))
      · exact fit_second1 a b c d _ _ w hb rfl (dec_gtr rfl _ (decide_eq_false h1)) hd rfl (dec_gtr rfl _ (decide_eq_true h2))
  · have hc0 : c = 0 ∧ O.numW c d = d := by unfold O.numW at h2 ⊢; omega
    have F2 : IntKind.i64.wrap (d : Int) = ((O.numW c d : Nat) : Int) := by rw [hc0.2, IntKind.wrap_i64]; omega
    cases s
    · by_cases h1 : 9223372036854775807 < O.numW a b
      · have e : fitI (sv false (O.numW a b)) (O.numW c d) = (0, 0, 2) := if_neg fun h => by have := h.1.2; rw [sv_false] at this; omega
        rw [e]
        exact fit_first0 a b c d _ w hb rfl (dec_gtr rfl _ (decide_eq_true h1))
      · have e : fitI (sv false (O.numW a b)) (O.numW c d) = (sv false (O.numW a b), (O.numW c d : Int), 0) := if_pos ⟨by rw [sv_false]; unfold Fit; omega, by unfold Fit; omega⟩
        rw [e]
        have ha0 : O.numW a b = b := by unfold O.numW at h1 ⊢; omega
        exact fit_both0 a b c d _ _ w hb rfl (dec_gtr rfl _ (decide_eq_false h1)) hd rfl (dec_gtr rfl _ (decide_eq_false h2)) _ _ (by rw [sv_false, ha0, IntKind.wrap_i64]; omega) F2
    · by_cases h1 : 9223372036854775808 < O.numW a b
      · have e : fitI (sv true (O.numW a b)) (O.numW c d) = (0, 0, 2) := if_neg fun h => by have := h.1.1; rw [sv_true] at this; omega
        rw [e]
        exact fit_first1 a b c d _ w hb rfl (dec_gtr rfl _ (decide_eq_true h1))
      · have e : fitI (sv true (O.numW a b)) (O.numW c d) = (sv true (O.numW a b), (O.numW c d : Int), 0) := if_pos ⟨by rw [sv_true]; unfold Fit; omega, by unfold Fit; omega⟩
        rw [e]
        have ha0 : O.numW a b = b := by unfold O.numW at h1 ⊢; omega
        exact fit_both1 a b c d _ _ w hb rfl (dec_gtr rfl _ (decide_eq_false h1)) hd rfl (dec_gtr rfl _ (decide_eq_false h2)) _ _ (by rw [sv_true, ha0, IntKind.wrap_i64, wrap_u64m]; omega) F2
/-- The same with the answer's three numbers named. -/
theorem p_fit_pt (s : Bool) (a b c d : Nat) (p q k : Int) (hr : (p, q, k) = fitI (sv s (O.numW a b)) (O.numW c d)) (hb : b < 18446744073709551616) (hd : d < 18446744073709551616) (w : World) :
    Calls Tryd.prog 33 #[.bool s, .agg #[.int .u64 (a : Int), .int .u64 (b : Int)], .agg #[.int .u64 (c : Int), .int .u64 (d : Int)]] w fun e w' => e = .returned (.tuple #[.agg #[.int .i64 p, .int .i64 q], .int .i64 k]) ∧ Below w.heap.size w w' := by
  have h := p_fit s a b c d w hb hd
  rw [← hr] at h
  exact h
theorem p_fit_of (s : Bool) (P Q : Nat) (p q k : Int) (hr : (p, q, k) = fitI (sv s P) Q) (hP : P < 18446744073709551616) (hQ : Q < 18446744073709551616) (w : World) :
    Calls Tryd.prog 33 #[.bool s, .agg #[.int .u64 0, .int .u64 (P : Int)], .agg #[.int .u64 0, .int .u64 (Q : Int)]] w fun e w' => e = .returned (.tuple #[.agg #[.int .i64 p, .int .i64 q], .int .i64 k]) ∧ Below w.heap.size w w' :=
  p_fit_pt s 0 P 0 Q p q k (by rw [numW0, numW0]; exact hr) hP hQ w
theorem of_nat (m : Nat) (w : World) : Calls Tryd.prog 34 #[.int .u64 (m : Int)] w fun e w' => e = .returned (.agg #[.int .u64 0, .int .u64 (m : Int)]) ∧ Below w.heap.size w w' := O.of_any m w
theorem p_new_zero (n : Int) (w : World) : Calls Tryd.prog 9 #[.int .i64 n, .int .i64 0] w (RatE (0, 0, 13) w) := by
  go_enter Tryd.func9, Tryd.ntmps9
  go_wp2_with fail
  exact bodyPost_ret (ret_rt_2 rfl rfl rfl (Rt.new w 0 0)) rfl ⟨rfl, bel_a w _⟩
/-- The answer's box. -/
structure NwH (w W : World) (p q : Int) : Prop where
  rr : Rt W w.heap.size p q
  bel : Below w.heap.size w W
section
variable {w W W' : World} {p q : Int}
theorem NwH.start (w : World) (p q : Int) : NwH w (w.alloc (.cells #[.int .i64 p, .int .i64 q] 24)) p q := ⟨Rt.new w p q, bel_a w _⟩
theorem NwH.next (h : NwH w W p q) (hb : Below W.heap.size W W') : NwH w W' p q := ⟨h.rr.bel hb, bel_tr h.bel hb⟩
theorem NwH.drew (h : NwH w W p q) : NwH w W.drew p q := ⟨h.rr, h.bel.drew⟩
theorem NwH.res (h : NwH w W p q) : W.cell? ⟨w.heap.size, 0, none⟩ = some (.int .i64 p) ∧ W.cell? ⟨w.heap.size, 1, none⟩ = some (.int .i64 q) ∧ W.frozen? ⟨w.heap.size, 0, none⟩ = false ∧ W.frozen? ⟨w.heap.size, 1, none⟩ = false := ⟨h.rr.c0, h.rr.c1, h.rr.fr 0, h.rr.fr 1⟩
theorem NwH.put (h : NwH w W p q) (x y : Int) : NwH w ((W.setCell ⟨w.heap.size, 0, none⟩ (.int .i64 x)).setCell ⟨w.heap.size, 1, none⟩ (.int .i64 y)) x y :=
  ⟨(h.rr.set0 x).set1 y, bel_set (bel_set h.bel (by omega) _ _) (by omega) _ _⟩
end
set_option maxHeartbeats 4000000 in
theorem p_new_core (n d : Int) (s s1 s2 : Bool) (N D g P Q : Nat) (p q k : Int) (w : World) (hN : N = n.natAbs) (hD : D = d.natAbs) (hg : g = N.gcd D) (hP : P = N / g) (hQ : Q = D / g) (e1 : decide (n < 0) = s1) (e2 : decide (d < 0) = s2) (e3 : (!(s1 == s2)) = s)
    (hn : Fit n) (hd : Fit d) (h0 : d ≠ 0) (hr : (p, q, k) = fitI (sv s P) Q) :
    Calls Tryd.prog 9 #[.int .i64 n, .int .i64 d] w (RatE (p, q, k) w) := by
  have hNl : N < 18446744073709551616 := by have := hn.1; have := hn.2; omega
  have hDl : D < 18446744073709551616 := by have := hd.1; have := hd.2; omega
  have hg0 : 0 < g := by rw [hg]; exact Nat.gcd_pos_of_pos_right _ (by omega)
  have hPl : P < 18446744073709551616 := by rw [hP]; exact Nat.lt_of_le_of_lt (Nat.div_le_self _ _) hNl
  have hQl : Q < 18446744073709551616 := by rw [hQ]; exact Nat.lt_of_le_of_lt (Nat.div_le_self _ _) hDl
  have HN := Lib.hid (fun W => p_abs n W hn)
  have HD := Lib.hid (fun W => p_abs d W hd)
  have HG := Lib.hid (fun W => p_gcd N D W hNl hDl)
  rw [← hN] at HN
  rw [← hD] at HD
  rw [← hg] at HG
  have HF := Lib.hid (p_fit_of s P Q p q k hr hPl hQl)
  have F1 : (N : Int) / (g : Int) = (P : Int) := by rw [hP]; simp
  have F2 : (D : Int) / (g : Int) = (Q : Int) := by rw [hQ]; simp
  have F3 : IntKind.u64.wrap (P : Int) = (P : Int) := wrap_nat rfl hPl
  have F4 : IntKind.u64.wrap (Q : Int) = (Q : Int) := wrap_nat rfl hQl
  have hgz : ¬ (g : Int) = 0 := by omega
  have hdz : (d == 0) = false := by simp [h0]
  have H := Lib.hid (NwH.start w 0 0)
  obtain ⟨k1, k2, k3, k4⟩ := H.out.res
  have HO1 := Lib.hid (of_nat P)
  have HO2 := Lib.hid (of_nat Q)
  clear hN hD hg hP hQ hg0 hNl hDl hPl hQl hn hd h0 hr
  go_enter Tryd.func9, Tryd.ntmps9
  go_wp2_with (first
    | (go_at_call 31; (with_reducible refine (HN.out _).mono ?_); rintro e w1 ⟨rfl, rfl⟩)
    | (go_at_call 31; (with_reducible refine (HD.out _).mono ?_); rintro e w1 ⟨rfl, rfl⟩)
    | (go_at_call 32; (with_reducible refine (HG.out _).mono ?_); rintro e w1 ⟨rfl, rfl⟩))
  go_region_with (first
    | (go_at_call 34; (with_reducible refine (HO1.out _).mono ?_); rintro e w1 ⟨rfl, hb⟩; have H := Lib.hid (H.out.next hb); clear hb; obtain ⟨k1, k2, k3, k4⟩ := H.out.res)
    | (go_at_call 34; (with_reducible refine (HO2.out _).mono ?_); rintro e w1 ⟨rfl, hb⟩; have H := Lib.hid (H.out.next hb); clear hb; obtain ⟨k1, k2, k3, k4⟩ := H.out.res)
    | (go_at_call 34; (with_reducible refine (HO1.out _).mono ?_); rintro e w1 ⟨rfl, hb⟩; have H := Lib.hid (H.out.drew.next hb); clear hb; obtain ⟨k1, k2, k3, k4⟩ := H.out.res)
    | (go_at_call 34; (with_reducible refine (HO2.out _).mono ?_); rintro e w1 ⟨rfl, hb⟩; have H := Lib.hid (H.out.drew.next hb); clear hb; obtain ⟨k1, k2, k3, k4⟩ := H.out.res)
    | (go_at_call 33; (with_reducible refine (HF.out _).mono ?_); rintro e w1 ⟨rfl, hb⟩; have H := Lib.hid (H.out.next hb); clear hb; obtain ⟨k1, k2, k3, k4⟩ := H.out.res))
  all_goals
    go_wp2_with fail
    exact bodyPost_ret (ret_rt_2 rfl rfl rfl (H.out.put p q).rr) rfl ⟨rfl, (H.out.put p q).bel⟩
end Go.Proofs.YtjjinncecfilpaaDoor
