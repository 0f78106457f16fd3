/- Proved here: what the document's numbers of any size answer and leave in memory (ported). Conditions stand at each. -/
import Derived.Test.YtpobhegllhhdgaaGreatVE
namespace Go.Proofs.YtpobhegllhhdgaaGreat
open Go.RowKit

theorem p_sum (s t : Bool) (n d m c : Nat) (w : World) (hd : 0 < d) (hc : 0 < c) (hdl : d < 9223372036854775808) (hcl : c < 9223372036854775808) (hn : n ≤ 9223372036854775808) (hm : m ≤ 9223372036854775808) (h1 : n.gcd d = 1) (h2 : m.gcd c = 1) :
    Calls Tryz.prog 125 #[.agg #[.bool s, .int .u64 (n : Int), .int .u64 (d : Int)], .agg #[.bool t, .int .u64 (m : Int), .int .u64 (c : Int)]] w (RatE (low (sv s n * c + sv t m * d) ((d : Int) * c)) w) := by
  obtain ⟨⟨p, q, k⟩, hr⟩ : ∃ r, r = low (sv s n * c + sv t m * d) ((d : Int) * c) := ⟨_, rfl⟩
  rw [← hr]
  exact sum_core s t n d m c _ _ _ _ _ _ _ _ p q k w hd hc hdl hcl rfl rfl rfl rfl rfl rfl rfl hn hm rfl fun u N hN => by rw [hr]; exact low_sum s t u n d m c _ _ N hd hc h1 h2 rfl hN rfl
/-- Two fractions in boxes, and the answer's box. -/
structure BpH (w W : World) (s : Bool) (n d : Nat) (t : Bool) (m c : Nat) (p q : Int) : Prop where
  x : Pt W w.heap.size s n d
  y : Pt W (w.heap.size + 1) t m c
  rr : Rt W (w.heap.size + 1 + 1) p q
  bel : Below w.heap.size w W
section
variable {w W W' : World} {s t : Bool} {n d m c : Nat} {p q : Int}
theorem BpH.start (w : World) (s : Bool) (n d : Nat) (t : Bool) (m c : Nat) : BpH w (((w.alloc (.cells #[.bool s, .int .u64 (n : Int), .int .u64 (d : Int)] 138)).alloc (.cells #[.bool t, .int .u64 (m : Int), .int .u64 (c : Int)] 138)).alloc (.cells #[.int .i64 0, .int .i64 0] 24)) s n d t m c 0 0 :=
  ⟨((Pt.new w s n d).alloc _).alloc _, (Pt.newg (by simp)).alloc _, Rt.newg (by simp), bel_tr (bel_tr (bel_a w _) (bel_a _ _)) (bel_a _ _)⟩
theorem BpH.next (h : BpH w W s n d t m c p q) (hb : Below W.heap.size W W') : BpH w W' s n d t m c p q := ⟨h.x.bel hb, h.y.bel hb, h.rr.bel hb, bel_tr h.bel hb⟩
theorem BpH.drew (h : BpH w W s n d t m c p q) : BpH w W.drew s n d t m c p q := ⟨h.x, h.y, h.rr, h.bel.drew⟩
theorem BpH.drewN (h : BpH w W s n d t m c p q) (j : Nat) : BpH w (W.drewN j) s n d t m c p q := ⟨h.x, h.y, h.rr, below_drewN h.bel j⟩
theorem BpH.facts (h : BpH w W s n d t m c p q) : W.cell? ⟨w.heap.size, 0, none⟩ = some (.bool s) ∧ W.cell? ⟨w.heap.size, 1, none⟩ = some (.int .u64 (n : Int)) ∧ W.cell? ⟨w.heap.size, 2, none⟩ = some (.int .u64 (d : Int)) ∧
    W.cell? ⟨w.heap.size + 1, 0, none⟩ = some (.bool t) ∧ W.cell? ⟨w.heap.size + 1, 1, none⟩ = some (.int .u64 (m : Int)) ∧ W.cell? ⟨w.heap.size + 1, 2, none⟩ = some (.int .u64 (c : Int)) := ⟨h.x.c0, h.x.c1, h.x.c2, h.y.c0, h.y.c1, h.y.c2⟩
theorem BpH.ans (h : BpH w W s n d t m c p q) : W.cell? ⟨w.heap.size + 1 + 1, 0, none⟩ = some (.int .i64 p) ∧ W.cell? ⟨w.heap.size + 1 + 1, 1, none⟩ = some (.int .i64 q) ∧ W.frozen? ⟨w.heap.size + 1 + 1, 0, none⟩ = false ∧ W.frozen? ⟨w.heap.size + 1 + 1, 1, none⟩ = false := ⟨h.rr.c0, h.rr.c1, h.rr.fr 0, h.rr.fr 1⟩
theorem BpH.put (h : BpH w W s n d t m c p q) (x y : Int) : BpH w ((W.setCell ⟨w.heap.size + 1 + 1, 0, none⟩ (.int .i64 x)).setCell ⟨w.heap.size + 1 + 1, 1, none⟩ (.int .i64 y)) s n d t m c x y :=
  ⟨h.x.far2 (by omega), h.y.far2 (by omega), (h.rr.set0 x).set1 y, bel_set (bel_set h.bel (by omega) _ _) (by omega) _ _⟩
end
theorem gcd_q (a b g : Nat) (hg : g = a.gcd b) (ha : a < 18446744073709551616) (hb : b < 18446744073709551616) (w : World) : Calls Tryz.prog 76 #[.int .u64 (a : Int), .int .u64 (b : Int)] w fun e w' => e = .returned (.int .u64 (g : Int)) ∧ w' = w :=
  (p_gcd a b w ha hb).mono fun _ _ h => ⟨by rw [h.1, hg], h.2.symm⟩
theorem quo_facts {a b q : Nat} (hq : q = a / b) (ha : a < 18446744073709551616) : (a : Int) / (b : Int) = (q : Int) ∧ (a : Int).tdiv (b : Int) = (q : Int) ∧ IntKind.u64.wrap (q : Int) = (q : Int) ∧ q < 18446744073709551616 := by
  have e1 : (a : Int) / (b : Int) = (q : Int) := by rw [hq]; simp
  have hl : q < 18446744073709551616 := by rw [hq]; exact Nat.lt_of_le_of_lt (Nat.div_le_self _ _) ha
  exact ⟨e1, by rw [Int.tdiv_eq_ediv_of_nonneg (Int.natCast_nonneg _), e1], wrap_nat rfl hl, hl⟩
set_option maxHeartbeats 8000000 in
theorem product_core (s t u : Bool) (n d m c g h n1 m1 d1 c1 : Nat) (p q k : Int) (w : World) (hd : 0 < d) (hc : 0 < c) (hdl : d < 18446744073709551616) (hcl : c < 18446744073709551616)
    (hn : n < 18446744073709551616) (hm : m < 18446744073709551616) (hg : g = n.gcd c) (hh : h = m.gcd d) (hn1 : n1 = n / g) (hm1 : m1 = m / h) (hd1 : d1 = d / h) (hc1 : c1 = c / g) (hu : (!(s == t)) = u) (hr : (p, q, k) = fitI (sv u (n1 * m1)) (d1 * c1)) :
    Calls Tryz.prog 127 #[.agg #[.bool s, .int .u64 (n : Int), .int .u64 (d : Int)], .agg #[.bool t, .int .u64 (m : Int), .int .u64 (c : Int)]] w (RatE (p, q, k) w) := by
  have hg0 : 0 < g := by rw [hg]; exact Nat.gcd_pos_of_pos_right _ hc
  have hh0 : 0 < h := by rw [hh]; exact Nat.gcd_pos_of_pos_right _ hd
  have HG := Lib.hid (gcd_q n c g hg hn hcl)
  have HH := Lib.hid (gcd_q m d h hh hm hdl)
  obtain ⟨a1, a2, a3, a4⟩ := quo_facts hn1 hn
  obtain ⟨b1, b2, b3, b4⟩ := quo_facts hm1 hm
  obtain ⟨x1, x2, x3, x4⟩ := quo_facts hd1 hdl
  obtain ⟨y1, y2, y3, y4⟩ := quo_facts hc1 hcl
  obtain ⟨h1, hh1⟩ : ∃ a, a = O.pHi n1 m1 := ⟨_, rfl⟩
  obtain ⟨l1, hl1⟩ : ∃ a, a = O.pLo n1 m1 := ⟨_, rfl⟩
  obtain ⟨h2, hh2⟩ : ∃ a, a = O.pHi d1 c1 := ⟨_, rfl⟩
  obtain ⟨l2, hl2⟩ : ∃ a, a = O.pLo d1 c1 := ⟨_, rfl⟩
  have HM1 := Lib.hid (mul_pt n1 m1 h1 l1 hh1 hl1 a4 b4)
  have HM2 := Lib.hid (mul_pt d1 c1 h2 l2 hh2 hl2 x4 y4)
  have HF := Lib.hid (p_fit_pt u h1 l1 h2 l2 p q k (by rw [hh1, hl1, hh2, hl2, mul_num, mul_num]; exact hr) (by rw [hl1]; exact (mul_lim a4 b4).2) (by rw [hl2]; exact (mul_lim x4 y4).2))
  have z1 : ¬ (g : Int) = 0 := by omega
  have z2 : ¬ g = 0 := by omega
  have z3 : ¬ (h : Int) = 0 := by omega
  have z4 : ¬ h = 0 := by omega
  have H := Lib.hid (BpH.start w s n d t m c)
  obtain ⟨f1, f2, f3, f4, f5, f6⟩ := H.out.facts
  clear hg hh hn1 hm1 hd1 hc1 hr hg0 hh0 a4 b4 x4 y4 hh1 hl1 hh2 hl2 hd hc hdl hcl hn hm
  go_enter Tryz.func127, Tryz.ntmps127
  go_wp2_with fail
  go_quiet (first
    | (go_at_call 76; with_reducible exact Calls.quiet_of_same (HG.out _))
    | (go_at_call 76; with_reducible exact Calls.quiet_of_same (HH.out _)))
  go_wp2_with fail
  go_region_held3 (fun w' => w'.cell? ⟨w.heap.size, 0, none⟩ = some (.bool s) ∧ w'.cell? ⟨w.heap.size, 1, none⟩ = some (.int .u64 (n : Int)) ∧ w'.cell? ⟨w.heap.size, 2, none⟩ = some (.int .u64 (d : Int)) ∧
      w'.cell? ⟨w.heap.size + 1, 0, none⟩ = some (.bool t) ∧ w'.cell? ⟨w.heap.size + 1, 1, none⟩ = some (.int .u64 (m : Int)) ∧ w'.cell? ⟨w.heap.size + 1, 2, none⟩ = some (.int .u64 (c : Int)))
    (first | with_reducible exact H.out.facts | with_reducible exact H.out.drew.facts | with_reducible exact (H.out.drewN _).facts | with_reducible exact (H.out.put p q).facts | go_keep)
    (first
      | (go_at_call 120; (with_reducible refine (HM1.out _).mono ?_); rintro e w8 ⟨rfl, hb⟩; (first | (with_reducible have H := Lib.hid (H.out.next hb)) | (with_reducible have H := Lib.hid (H.out.drew.next hb)) | (with_reducible have H := Lib.hid ((H.out.drewN (nq + 1)).next hb))); clear hb)
      | (go_at_call 120; (with_reducible refine (HM2.out _).mono ?_); rintro e w9 ⟨rfl, hb⟩; (first | (with_reducible have H := Lib.hid (H.out.next hb)) | (with_reducible have H := Lib.hid (H.out.drew.next hb)) | (with_reducible have H := Lib.hid ((H.out.drewN (nq + 1)).next hb))); clear hb)
      | (go_at_call 132; (with_reducible refine (HF.out _).mono ?_); rintro e w10 ⟨rfl, hb⟩; (first | (with_reducible have H := Lib.hid (H.out.next hb)) | (with_reducible have H := Lib.hid (H.out.drew.next hb)) | (with_reducible have H := Lib.hid ((H.out.drewN (nq + 1)).next hb))); clear hb; obtain ⟨k1, k2, k3, k4⟩ := H.out.ans))
  all_goals
    go_wp2_with fail
    exact bodyPost_ret (ret_rt_2 rfl rfl rfl (H.out.put p q).rr) rfl ⟨rfl, (H.out.put p q).bel⟩
theorem p_product (s t : Bool) (n d m c : Nat) (w : World) (hd : 0 < d) (hc : 0 < c) (hdl : d < 18446744073709551616) (hcl : c < 18446744073709551616) (hn : n < 18446744073709551616) (hm : m < 18446744073709551616) (h1 : n.gcd d = 1) (h2 : m.gcd c = 1) :
    Calls Tryz.prog 127 #[.agg #[.bool s, .int .u64 (n : Int), .int .u64 (d : Int)], .agg #[.bool t, .int .u64 (m : Int), .int .u64 (c : Int)]] w (RatE (low (sv s n * sv t m) ((d : Int) * c)) w) := by
  obtain ⟨⟨p, q, k⟩, hr⟩ : ∃ r, r = low (sv s n * sv t m) ((d : Int) * c) := ⟨_, rfl⟩
  rw [← hr]
  exact product_core s t _ n d m c _ _ _ _ _ _ p q k w hd hc hdl hcl hn hm rfl rfl rfl rfl rfl rfl rfl (by rw [hr]; exact low_mulR s t n d m c _ _ hd hc h1 h2 rfl rfl)
end Go.Proofs.YtpobhegllhhdgaaGreat

namespace Go.Proofs.YtpobhegllhhdgaaGreat
open Go.RowKit

theorem fit_abs {n : Int} (h : Fit n) : n.natAbs ≤ 9223372036854775808 := by have := h.1; have := h.2; omega
theorem pos_abs {d : Int} (h : Fit d) (h0 : 0 < d) : 0 < d.natAbs ∧ d.natAbs < 9223372036854775808 ∧ (d.natAbs : Int) = d := by have := h.2; omega
theorem r_pt {r : Int × Int × Int} {p q k : Int} (hr : (p, q, k) = r) {f : Nat} {args : Array Value} {w : World} (h : Calls Tryz.prog f args w (RatE r w)) : Calls Tryz.prog f args w fun e w' => e = .returned (.tuple #[.agg #[.int .i64 p, .int .i64 q], .int .i64 k]) ∧ Below w.heap.size w w' := by
  subst hr
  exact h
set_option maxHeartbeats 4000000 in
theorem p_add (n d m c : Int) (w : World) (hn : Fit n) (hd : Fit d) (hm : Fit m) (hc : Fit c) : Calls Tryz.prog 116 #[.agg #[.int .i64 n, .int .i64 d], .agg #[.int .i64 m, .int .i64 c]] w (RatE (addR n d m c) w) := by
  have H := Lib.hid (BuH.start w n d m c)
  obtain ⟨f1, f2, f3, f4⟩ := H.out.facts
  have HA := Lib.hid (fun W => p_may n d W hn hd)
  have HB := Lib.hid (fun W => p_may m c W hm hc)
  by_cases h1 : Maybe n d
  · rw [decide_eq_true h1] at HA
    by_cases h2 : Maybe m c
    · rw [decide_eq_true h2] at HB
      obtain ⟨hD0, hDl, hDe⟩ := pos_abs hd h1.1
      obtain ⟨hC0, hCl, hCe⟩ := pos_abs hc h2.1
      have hN := fit_abs hn
      have hM := fit_abs hm
      have sN : sv (decide (n < 0)) n.natAbs = n := sv_abs n
      have sM : sv (decide (m < 0)) m.natAbs = m := sv_abs m
      obtain ⟨s, hs⟩ : ∃ s, s = decide (n < 0) := ⟨_, rfl⟩
      obtain ⟨t, ht⟩ : ∃ t, t = decide (m < 0) := ⟨_, rfl⟩
      have HOA := Lib.hid (fun W => p_open n d W hn hd h1.1)
      have HOB := Lib.hid (fun W => p_open m c W hm hc h2.1)
      rw [← hs] at HOA sN
      rw [← ht] at HOB sM
      obtain ⟨N, hNe⟩ : ∃ N, N = n.natAbs := ⟨_, rfl⟩
      obtain ⟨D, hDd⟩ : ∃ N, N = d.natAbs := ⟨_, rfl⟩
      obtain ⟨M, hMe⟩ : ∃ N, N = m.natAbs := ⟨_, rfl⟩
      obtain ⟨C, hCd⟩ : ∃ N, N = c.natAbs := ⟨_, rfl⟩
      have g1 : N.gcd D = 1 := by rw [hNe, hDd]; exact h1.2
      have g2 : M.gcd C = 1 := by rw [hMe, hCd]; exact h2.2
      rw [← hNe] at HOA sN hN
      rw [← hDd] at HOA hD0 hDl hDe
      rw [← hMe] at HOB sM hM
      rw [← hCd] at HOB hC0 hCl hCe
      have HE := Lib.hid (show addR n d m c = low (n * c + m * d) (d * c) from if_pos ⟨h1, h2⟩)
      have he := show low (sv s N * C + sv t M * D) ((D : Int) * C) = low (n * c + m * d) (d * c) by rw [sN, sM, hCe, hDe]
      rw [HE.out, ← he]
      obtain ⟨⟨p, q, k⟩, hr⟩ : ∃ r, r = low (sv s N * C + sv t M * D) ((D : Int) * C) := ⟨_, rfl⟩
      have HS := Lib.hid (fun W => r_pt hr (p_sum s t N D M C W hD0 hC0 hDl hCl hN hM g1 g2))
      rw [← hr]
      clear he hr h1 h2 hD0 hDl hDe hC0 hCl hCe hN hM sN sM hs ht hNe hDd hMe hCd g1 g2 hn hd hm hc
      go_enter Tryz.func116, Tryz.ntmps116
      go_wp2_with (first
        | (go_at_call 39; (with_reducible refine (HA.out _).mono ?_); rintro e w1 ⟨rfl, hb⟩; have H := Lib.hid (H.out.next hb); clear f1 f2 f3 f4 hb; (try clear k1 k2 k3 k4); obtain ⟨f1, f2, f3, f4⟩ := H.out.facts; obtain ⟨k1, k2, k3, k4⟩ := H.out.res)
        | (go_at_call 39; (with_reducible refine (HB.out _).mono ?_); rintro e w1 ⟨rfl, hb⟩; have H := Lib.hid (H.out.next hb); clear f1 f2 f3 f4 hb; (try clear k1 k2 k3 k4); obtain ⟨f1, f2, f3, f4⟩ := H.out.facts; obtain ⟨k1, k2, k3, k4⟩ := H.out.res))
      clear k1 k2 k3 k4
      go_region_held3 (fun w' => w'.cell? ⟨w.heap.size, 0, none⟩ = some (.int .i64 n) ∧ w'.cell? ⟨w.heap.size, 1, none⟩ = some (.int .i64 d) ∧ w'.cell? ⟨w.heap.size + 1, 0, none⟩ = some (.int .i64 m) ∧ w'.cell? ⟨w.heap.size + 1, 1, none⟩ = some (.int .i64 c))
        (first | with_reducible exact H.out.facts | with_reducible exact H.out.drew.facts | with_reducible exact (H.out.put p q).facts | go_keep)
        (first
        | (go_at_call 105; (with_reducible refine (HOA.out _).mono ?_); rintro e w2 ⟨rfl, hb⟩; (first | (with_reducible have H := Lib.hid (H.out.next hb)) | (with_reducible have H := Lib.hid (H.out.drew.next hb))); clear hb)
        | (go_at_call 105; (with_reducible refine (HOB.out _).mono ?_); rintro e w3 ⟨rfl, hb⟩; (first | (with_reducible have H := Lib.hid (H.out.next hb)) | (with_reducible have H := Lib.hid (H.out.drew.next hb))); clear hb)
        | (go_at_call 125; (with_reducible refine (HS.out _).mono ?_); rintro e w5 ⟨rfl, hb⟩; (first | (with_reducible have H := Lib.hid (H.out.next hb)) | (with_reducible have H := Lib.hid (H.out.drew.next hb))); clear hb; obtain ⟨k1, k2, k3, k4⟩ := H.out.res))
      all_goals
        go_wp2_with fail
        exact bodyPost_ret (ret_rt_2 rfl rfl rfl (H.out.put p q).rr) rfl ⟨rfl, (H.out.put p q).bel⟩
    · rw [decide_eq_false h2] at HB
      have HE := Lib.hid (show addR n d m c = (0, 0, 1) from if_neg fun h => h2 h.2)
      rw [HE.out]
      clear h1 h2 hn hd hm hc
      go_enter Tryz.func116, Tryz.ntmps116
      go_wp2_with (first
        | (go_at_call 39; (with_reducible refine (HA.out _).mono ?_); rintro e w1 ⟨rfl, hb⟩; have H := Lib.hid (H.out.next hb); clear f1 f2 f3 f4 hb; (try clear k1 k2 k3 k4); obtain ⟨f1, f2, f3, f4⟩ := H.out.facts; obtain ⟨k1, k2, k3, k4⟩ := H.out.res)
        | (go_at_call 39; (with_reducible refine (HB.out _).mono ?_); rintro e w1 ⟨rfl, hb⟩; have H := Lib.hid (H.out.next hb); clear f1 f2 f3 f4 hb; (try clear k1 k2 k3 k4); obtain ⟨f1, f2, f3, f4⟩ := H.out.facts; obtain ⟨k1, k2, k3, k4⟩ := H.out.res))
      exact bodyPost_ret (ret_rt_2 rfl rfl rfl (H.out.put 0 0).rr) rfl ⟨rfl, (H.out.put 0 0).bel⟩
  · rw [decide_eq_false h1] at HA
    have HE := Lib.hid (show addR n d m c = (0, 0, 1) from if_neg fun h => h1 h.1)
    rw [HE.out]
    clear h1 hn hd hm hc
    go_enter Tryz.func116, Tryz.ntmps116
    go_wp2_with (go_at_call 39; (with_reducible refine (HA.out _).mono ?_); rintro e w1 ⟨rfl, hb⟩; have H := Lib.hid (H.out.next hb); clear f1 f2 f3 f4 hb; (try clear k1 k2 k3 k4); obtain ⟨f1, f2, f3, f4⟩ := H.out.facts; obtain ⟨k1, k2, k3, k4⟩ := H.out.res)
    exact bodyPost_ret (ret_rt_2 rfl rfl rfl (H.out.put 0 0).rr) rfl ⟨rfl, (H.out.put 0 0).bel⟩
set_option maxHeartbeats 4000000 in
theorem p_sub (n d m c : Int) (w : World) (hn : Fit n) (hd : Fit d) (hm : Fit m) (hc : Fit c) : Calls Tryz.prog 117 #[.agg #[.int .i64 n, .int .i64 d], .agg #[.int .i64 m, .int .i64 c]] w (RatE (subR n d m c) w) := by
  have H := Lib.hid (BuH.start w n d m c)
  obtain ⟨f1, f2, f3, f4⟩ := H.out.facts
  have HA := Lib.hid (fun W => p_may n d W hn hd)
  have HB := Lib.hid (fun W => p_may m c W hm hc)
  by_cases h1 : Maybe n d
  · rw [decide_eq_true h1] at HA
    by_cases h2 : Maybe m c
    · rw [decide_eq_true h2] at HB
      obtain ⟨hD0, hDl, hDe⟩ := pos_abs hd h1.1
      obtain ⟨hC0, hCl, hCe⟩ := pos_abs hc h2.1
      have hN := fit_abs hn
      have hM := fit_abs hm
      have sN : sv (decide (n < 0)) n.natAbs = n := sv_abs n
      have sM : sv (decide (m < 0)) m.natAbs = m := sv_abs m
      obtain ⟨s, hs⟩ : ∃ s, s = decide (n < 0) := ⟨_, rfl⟩
      obtain ⟨t, ht⟩ : ∃ t, t = decide (m < 0) := ⟨_, rfl⟩
      have HOA := Lib.hid (fun W => p_open n d W hn hd h1.1)
      have HOB := Lib.hid (fun W => p_open m c W hm hc h2.1)
      rw [← hs] at HOA sN
      rw [← ht] at HOB sM
      obtain ⟨N, hNe⟩ : ∃ N, N = n.natAbs := ⟨_, rfl⟩
      obtain ⟨D, hDd⟩ : ∃ N, N = d.natAbs := ⟨_, rfl⟩
      obtain ⟨M, hMe⟩ : ∃ N, N = m.natAbs := ⟨_, rfl⟩
      obtain ⟨C, hCd⟩ : ∃ N, N = c.natAbs := ⟨_, rfl⟩
      have g1 : N.gcd D = 1 := by rw [hNe, hDd]; exact h1.2
      have g2 : M.gcd C = 1 := by rw [hMe, hCd]; exact h2.2
      rw [← hNe] at HOA sN hN
      rw [← hDd] at HOA hD0 hDl hDe
      rw [← hMe] at HOB sM hM
      rw [← hCd] at HOB hC0 hCl hCe
      have HE := Lib.hid (show subR n d m c = low (n * c - m * d) (d * c) from if_pos ⟨h1, h2⟩)
      have he := show low (sv s N * C + sv (!t) M * D) ((D : Int) * C) = low (n * c - m * d) (d * c) by rw [show sv (!t) M = -m by rw [← sM]; cases t <;> simp [sv], sN, hCe, hDe, Int.neg_mul, ← Int.sub_eq_add_neg]
      rw [HE.out, ← he]
      obtain ⟨⟨p, q, k⟩, hr⟩ : ∃ r, r = low (sv s N * C + sv (!t) M * D) ((D : Int) * C) := ⟨_, rfl⟩
      have HS := Lib.hid (fun W => r_pt hr (p_sum s (!t) N D M C W hD0 hC0 hDl hCl hN hM g1 g2))
      rw [← hr]
      have HX := Lib.hid (fun W => p_neg t M C W)
      clear he hr h1 h2 hD0 hDl hDe hC0 hCl hCe hN hM sN sM hs ht hNe hDd hMe hCd g1 g2 hn hd hm hc
      go_enter Tryz.func117, Tryz.ntmps117
      go_wp2_with (first
        | (go_at_call 39; (with_reducible refine (HA.out _).mono ?_); rintro e w1 ⟨rfl, hb⟩; have H := Lib.hid (H.out.next hb); clear f1 f2 f3 f4 hb; (try clear k1 k2 k3 k4); obtain ⟨f1, f2, f3, f4⟩ := H.out.facts; obtain ⟨k1, k2, k3, k4⟩ := H.out.res)
        | (go_at_call 39; (with_reducible refine (HB.out _).mono ?_); rintro e w1 ⟨rfl, hb⟩; have H := Lib.hid (H.out.next hb); clear f1 f2 f3 f4 hb; (try clear k1 k2 k3 k4); obtain ⟨f1, f2, f3, f4⟩ := H.out.facts; obtain ⟨k1, k2, k3, k4⟩ := H.out.res))
      clear k1 k2 k3 k4
      go_region_held3 (fun w' => w'.cell? ⟨w.heap.size, 0, none⟩ = some (.int .i64 n) ∧ w'.cell? ⟨w.heap.size, 1, none⟩ = some (.int .i64 d) ∧ w'.cell? ⟨w.heap.size + 1, 0, none⟩ = some (.int .i64 m) ∧ w'.cell? ⟨w.heap.size + 1, 1, none⟩ = some (.int .i64 c))
        (first | with_reducible exact H.out.facts | with_reducible exact H.out.drew.facts | with_reducible exact (H.out.put p q).facts | go_keep)
        (first
        | (go_at_call 105; (with_reducible refine (HOA.out _).mono ?_); rintro e w2 ⟨rfl, hb⟩; (first | (with_reducible have H := Lib.hid (H.out.next hb)) | (with_reducible have H := Lib.hid (H.out.drew.next hb))); clear hb)
        | (go_at_call 105; (with_reducible refine (HOB.out _).mono ?_); rintro e w3 ⟨rfl, hb⟩; (first | (with_reducible have H := Lib.hid (H.out.next hb)) | (with_reducible have H := Lib.hid (H.out.drew.next hb))); clear hb)
        | (go_at_call 126; (with_reducible refine (HX.out _).mono ?_); rintro e w4 ⟨rfl, hb⟩; (first | (with_reducible have H := Lib.hid (H.out.next hb)) | (with_reducible have H := Lib.hid (H.out.drew.next hb))); clear hb)
        | (go_at_call 125; (with_reducible refine (HS.out _).mono ?_); rintro e w5 ⟨rfl, hb⟩; (first | (with_reducible have H := Lib.hid (H.out.next hb)) | (with_reducible have H := Lib.hid (H.out.drew.next hb))); clear hb; obtain ⟨k1, k2, k3, k4⟩ := H.out.res))
      all_goals
        go_wp2_with fail
        exact bodyPost_ret (ret_rt_2 rfl rfl rfl (H.out.put p q).rr) rfl ⟨rfl, (H.out.put p q).bel⟩
    · rw [decide_eq_false h2] at HB
      have HE := Lib.hid (show subR n d m c = (0, 0, 1) from if_neg fun h => h2 h.2)
      rw [HE.out]
      clear h1 h2 hn hd hm hc
      go_enter Tryz.func117, Tryz.ntmps117
      go_wp2_with (first
        | (go_at_call 39; (with_reducible refine (HA.out _).mono ?_); rintro e w1 ⟨rfl, hb⟩; have H := Lib.hid (H.out.next hb); clear f1 f2 f3 f4 hb; (try clear k1 k2 k3 k4); obtain ⟨f1, f2, f3, f4⟩ := H.out.facts; obtain ⟨k1, k2, k3, k4⟩ := H.out.res)
        | (go_at_call 39; (with_reducible refine (HB.out _).mono ?_); rintro e w1 ⟨rfl, hb⟩; have H := Lib.hid (H.out.next hb); clear f1 f2 f3 f4 hb; (try clear k1 k2 k3 k4); obtain ⟨f1, f2, f3, f4⟩ := H.out.facts; obtain ⟨k1, k2, k3, k4⟩ := H.out.res))
      exact bodyPost_ret (ret_rt_2 rfl rfl rfl (H.out.put 0 0).rr) rfl ⟨rfl, (H.out.put 0 0).bel⟩
  · rw [decide_eq_false h1] at HA
    have HE := Lib.hid (show subR n d m c = (0, 0, 1) from if_neg fun h => h1 h.1)
    rw [HE.out]
    clear h1 hn hd hm hc
    go_enter Tryz.func117, Tryz.ntmps117
    go_wp2_with (go_at_call 39; (with_reducible refine (HA.out _).mono ?_); rintro e w1 ⟨rfl, hb⟩; have H := Lib.hid (H.out.next hb); clear f1 f2 f3 f4 hb; (try clear k1 k2 k3 k4); obtain ⟨f1, f2, f3, f4⟩ := H.out.facts; obtain ⟨k1, k2, k3, k4⟩ := H.out.res)
    exact bodyPost_ret (ret_rt_2 rfl rfl rfl (H.out.put 0 0).rr) rfl ⟨rfl, (H.out.put 0 0).bel⟩
set_option maxHeartbeats 4000000 in
theorem p_mul (n d m c : Int) (w : World) (hn : Fit n) (hd : Fit d) (hm : Fit m) (hc : Fit c) : Calls Tryz.prog 118 #[.agg #[.int .i64 n, .int .i64 d], .agg #[.int .i64 m, .int .i64 c]] w (RatE (mulR n d m c) w) := by
  have H := Lib.hid (BuH.start w n d m c)
  obtain ⟨f1, f2, f3, f4⟩ := H.out.facts
  have HA := Lib.hid (fun W => p_may n d W hn hd)
  have HB := Lib.hid (fun W => p_may m c W hm hc)
  by_cases h1 : Maybe n d
  · rw [decide_eq_true h1] at HA
    by_cases h2 : Maybe m c
    · rw [decide_eq_true h2] at HB
      obtain ⟨hD0, hDl, hDe⟩ := pos_abs hd h1.1
      obtain ⟨hC0, hCl, hCe⟩ := pos_abs hc h2.1
      have hN := fit_abs hn
      have hM := fit_abs hm
      have sN : sv (decide (n < 0)) n.natAbs = n := sv_abs n
      have sM : sv (decide (m < 0)) m.natAbs = m := sv_abs m
      obtain ⟨s, hs⟩ : ∃ s, s = decide (n < 0) := ⟨_, rfl⟩
      obtain ⟨t, ht⟩ : ∃ t, t = decide (m < 0) := ⟨_, rfl⟩
      have HOA := Lib.hid (fun W => p_open n d W hn hd h1.1)
      have HOB := Lib.hid (fun W => p_open m c W hm hc h2.1)
      rw [← hs] at HOA sN
      rw [← ht] at HOB sM
      obtain ⟨N, hNe⟩ : ∃ N, N = n.natAbs := ⟨_, rfl⟩
      obtain ⟨D, hDd⟩ : ∃ N, N = d.natAbs := ⟨_, rfl⟩
      obtain ⟨M, hMe⟩ : ∃ N, N = m.natAbs := ⟨_, rfl⟩
      obtain ⟨C, hCd⟩ : ∃ N, N = c.natAbs := ⟨_, rfl⟩
      have g1 : N.gcd D = 1 := by rw [hNe, hDd]; exact h1.2
      have g2 : M.gcd C = 1 := by rw [hMe, hCd]; exact h2.2
      rw [← hNe] at HOA sN hN
      rw [← hDd] at HOA hD0 hDl hDe
      rw [← hMe] at HOB sM hM
      rw [← hCd] at HOB hC0 hCl hCe
      have HE := Lib.hid (show mulR n d m c = low (n * m) (d * c) from if_pos ⟨h1, h2⟩)
      have he := show low (sv s N * sv t M) ((D : Int) * C) = low (n * m) (d * c) by rw [sN, sM, hCe, hDe]
      rw [HE.out, ← he]
      obtain ⟨⟨p, q, k⟩, hr⟩ : ∃ r, r = low (sv s N * sv t M) ((D : Int) * C) := ⟨_, rfl⟩
      have HS := Lib.hid (fun W => r_pt hr (p_product s t N D M C W hD0 hC0 (by omega) (by omega) (by omega) (by omega) g1 g2))
      rw [← hr]
      clear he hr h1 h2 hD0 hDl hDe hC0 hCl hCe hN hM sN sM hs ht hNe hDd hMe hCd g1 g2 hn hd hm hc
      go_enter Tryz.func118, Tryz.ntmps118
      go_wp2_with (first
        | (go_at_call 39; (with_reducible refine (HA.out _).mono ?_); rintro e w1 ⟨rfl, hb⟩; have H := Lib.hid (H.out.next hb); clear f1 f2 f3 f4 hb; (try clear k1 k2 k3 k4); obtain ⟨f1, f2, f3, f4⟩ := H.out.facts; obtain ⟨k1, k2, k3, k4⟩ := H.out.res)
        | (go_at_call 39; (with_reducible refine (HB.out _).mono ?_); rintro e w1 ⟨rfl, hb⟩; have H := Lib.hid (H.out.next hb); clear f1 f2 f3 f4 hb; (try clear k1 k2 k3 k4); obtain ⟨f1, f2, f3, f4⟩ := H.out.facts; obtain ⟨k1, k2, k3, k4⟩ := H.out.res))
      clear k1 k2 k3 k4
      go_region_held3 (fun w' => w'.cell? ⟨w.heap.size, 0, none⟩ = some (.int .i64 n) ∧ w'.cell? ⟨w.heap.size, 1, none⟩ = some (.int .i64 d) ∧ w'.cell? ⟨w.heap.size + 1, 0, none⟩ = some (.int .i64 m) ∧ w'.cell? ⟨w.heap.size + 1, 1, none⟩ = some (.int .i64 c))
        (first | with_reducible exact H.out.facts | with_reducible exact H.out.drew.facts | with_reducible exact (H.out.put p q).facts | go_keep)
        (first
        | (go_at_call 105; (with_reducible refine (HOA.out _).mono ?_); rintro e w2 ⟨rfl, hb⟩; (first | (with_reducible have H := Lib.hid (H.out.next hb)) | (with_reducible have H := Lib.hid (H.out.drew.next hb))); clear hb)
        | (go_at_call 105; (with_reducible refine (HOB.out _).mono ?_); rintro e w3 ⟨rfl, hb⟩; (first | (with_reducible have H := Lib.hid (H.out.next hb)) | (with_reducible have H := Lib.hid (H.out.drew.next hb))); clear hb)
        | (go_at_call 127; (with_reducible refine (HS.out _).mono ?_); rintro e w5 ⟨rfl, hb⟩; (first | (with_reducible have H := Lib.hid (H.out.next hb)) | (with_reducible have H := Lib.hid (H.out.drew.next hb))); clear hb; obtain ⟨k1, k2, k3, k4⟩ := H.out.res))
      all_goals
        go_wp2_with fail
        exact bodyPost_ret (ret_rt_2 rfl rfl rfl (H.out.put p q).rr) rfl ⟨rfl, (H.out.put p q).bel⟩
    · rw [decide_eq_false h2] at HB
      have HE := Lib.hid (show mulR n d m c = (0, 0, 1) from if_neg fun h => h2 h.2)
      rw [HE.out]
      clear h1 h2 hn hd hm hc
      go_enter Tryz.func118, Tryz.ntmps118
      go_wp2_with (first
        | (go_at_call 39; (with_reducible refine (HA.out _).mono ?_); rintro e w1 ⟨rfl, hb⟩; have H := Lib.hid (H.out.next hb); clear f1 f2 f3 f4 hb; (try clear k1 k2 k3 k4); obtain ⟨f1, f2, f3, f4⟩ := H.out.facts; obtain ⟨k1, k2, k3, k4⟩ := H.out.res)
        | (go_at_call 39; (with_reducible refine (HB.out _).mono ?_); rintro e w1 ⟨rfl, hb⟩; have H := Lib.hid (H.out.next hb); clear f1 f2 f3 f4 hb; (try clear k1 k2 k3 k4); obtain ⟨f1, f2, f3, f4⟩ := H.out.facts; obtain ⟨k1, k2, k3, k4⟩ := H.out.res))
      exact bodyPost_ret (ret_rt_2 rfl rfl rfl (H.out.put 0 0).rr) rfl ⟨rfl, (H.out.put 0 0).bel⟩
  · rw [decide_eq_false h1] at HA
    have HE := Lib.hid (show mulR n d m c = (0, 0, 1) from if_neg fun h => h1 h.1)
    rw [HE.out]
    clear h1 hn hd hm hc
    go_enter Tryz.func118, Tryz.ntmps118
    go_wp2_with (go_at_call 39; (with_reducible refine (HA.out _).mono ?_); rintro e w1 ⟨rfl, hb⟩; have H := Lib.hid (H.out.next hb); clear f1 f2 f3 f4 hb; (try clear k1 k2 k3 k4); obtain ⟨f1, f2, f3, f4⟩ := H.out.facts; obtain ⟨k1, k2, k3, k4⟩ := H.out.res)
    exact bodyPost_ret (ret_rt_2 rfl rfl rfl (H.out.put 0 0).rr) rfl ⟨rfl, (H.out.put 0 0).bel⟩
end Go.Proofs.YtpobhegllhhdgaaGreat
