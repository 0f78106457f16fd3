/- Proved here: what package ratio's Add, Sub, Mul and Div answer. Condition: numbers of 64 bits. -/
import Derived.Test.YtjjinncecfilpaaDoorZk
import Derived.Test.YtjjinncecfilpaaDoorXl
namespace Go.Proofs.YtjjinncecfilpaaDoor
open Go.RowKit

theorem low_neg (X Y : Int) (hY : Y ≠ 0) : low (-X) (-Y) = low X Y := by
  have e1 : lowN (-X) (-Y) = lowN X Y := by
    unfold lowN
    rw [Int.natAbs_neg, Int.natAbs_neg]
    by_cases hX : X = 0
    · subst hX; simp [sv]
    · congr 2
      by_cases h1 : X < 0 <;> by_cases h2 : Y < 0 <;> simp [h1, h2] <;> omega
  have e2 : lowD (-X) (-Y) = lowD X Y := by unfold lowD; rw [Int.natAbs_neg, Int.natAbs_neg]
  unfold low
  rw [e1, e2]
theorem fit_abs {n : Int} (h : Fit n) : n.natAbs ≤ 9223372036854775808 := by have := h.1; have := h.2; omega
theorem pos_abs {d : Int} (h : Fit d) (h0 : 0 < d) : 0 < d.natAbs ∧ d.natAbs < 9223372036854775808 ∧ (d.natAbs : Int) = d := by have := h.2; omega
theorem r_pt {r : Int × Int × Int} {p q k : Int} (hr : (p, q, k) = r) {f : Nat} {args : Array Value} {w : World} (h : Calls Tryd.prog f args w (RatE r w)) : Calls Tryd.prog f args w fun e w' => e = .returned (.tuple #[.agg #[.int .i64 p, .int .i64 q], .int .i64 k]) ∧ Below w.heap.size w w' := by
  subst hr
  exact h
set_option maxHeartbeats 4000000 in
theorem p_add (n d m c : Int) (w : World) (hn : Fit n) (hd : Fit d) (hm : Fit m) (hc : Fit c) : Calls Tryd.prog 13 #[.agg #[.int .i64 n, .int .i64 d], .agg #[.int .i64 m, .int .i64 c]] w (RatE (addR n d m c) w) := by
  have H := Lib.hid (BuH.start w n d m c)
  obtain ⟨f1, f2, f3, f4⟩ := H.out.facts
  have HA := Lib.hid (fun W => p_may n d W hn hd)
  have HB := Lib.hid (fun W => p_may m c W hm hc)
  by_cases h1 : Maybe n d
  · rw [decide_eq_true h1] at HA
    by_cases h2 : Maybe m c
    · rw [decide_eq_true h2] at HB
      obtain ⟨hD0, hDl, hDe⟩ := pos_abs hd h1.1
      obtain ⟨hC0, hCl, hCe⟩ := pos_abs hc h2.1
      have hN := fit_abs hn
      have hM := fit_abs hm
      have sN : sv (decide (n < 0)) n.natAbs = n := sv_abs n
      have sM : sv (decide (m < 0)) m.natAbs = m := sv_abs m
      obtain ⟨s, hs⟩ : ∃ s, s = decide (n < 0) := ⟨_, rfl⟩
      obtain ⟨t, ht⟩ : ∃ t, t = decide (m < 0) := ⟨_, rfl⟩
      have HOA := Lib.hid (fun W => p_open n d W hn hd h1.1)
      have HOB := Lib.hid (fun W => p_open m c W hm hc h2.1)
      rw [← hs] at HOA sN
      rw [← ht] at HOB sM
      obtain ⟨N, hNe⟩ : ∃ N, N = n.natAbs := ⟨_, rfl⟩
      obtain ⟨D, hDd⟩ : ∃ N, N = d.natAbs := ⟨_, rfl⟩
      obtain ⟨M, hMe⟩ : ∃ N, N = m.natAbs := ⟨_, rfl⟩
      obtain ⟨C, hCd⟩ : ∃ N, N = c.natAbs := ⟨_, rfl⟩
      have g1 : N.gcd D = 1 := by rw [hNe, hDd]; exact h1.2
      have g2 : M.gcd C = 1 := by rw [hMe, hCd]; exact h2.2
      rw [← hNe] at HOA sN hN
      rw [← hDd] at HOA hD0 hDl hDe
      rw [← hMe] at HOB sM hM
      rw [← hCd] at HOB hC0 hCl hCe
      have HE := Lib.hid (show addR n d m c = low (n * c + m * d) (d * c) from if_pos ⟨h1, h2⟩)
      have he := show low (sv s N * C + sv t M * D) ((D : Int) * C) = low (n * c + m * d) (d * c) by rw [sN, sM, hCe, hDe]
      rw [HE.out, ← he]
      obtain ⟨⟨p, q, k⟩, hr⟩ : ∃ r, r = low (sv s N * C + sv t M * D) ((D : Int) * C) := ⟨_, rfl⟩
      have HS := Lib.hid (fun W => r_pt hr (p_sum s t N D M C W hD0 hC0 hDl hCl hN hM g1 g2))
      rw [← hr]
      clear he hr h1 h2 hD0 hDl hDe hC0 hCl hCe hN hM sN sM hs ht hNe hDd hMe hCd g1 g2 hn hd hm hc
      go_enter Tryd.func13, Tryd.ntmps13
      go_wp2_with (first
        | (go_at_call 11; (with_reducible refine (HA.out _).mono ?_); rintro e w1 ⟨rfl, hb⟩; have H := Lib.hid (H.out.next hb); clear f1 f2 f3 f4 hb; (try clear k1 k2 k3 k4); obtain ⟨f1, f2, f3, f4⟩ := H.out.facts; obtain ⟨k1, k2, k3, k4⟩ := H.out.res)
        | (go_at_call 11; (with_reducible refine (HB.out _).mono ?_); rintro e w1 ⟨rfl, hb⟩; have H := Lib.hid (H.out.next hb); clear f1 f2 f3 f4 hb; (try clear k1 k2 k3 k4); obtain ⟨f1, f2, f3, f4⟩ := H.out.facts; obtain ⟨k1, k2, k3, k4⟩ := H.out.res))
      clear k1 k2 k3 k4
      go_region_held3 (fun w' => w'.cell? ⟨w.heap.size, 0, none⟩ = some (.int .i64 n) ∧ w'.cell? ⟨w.heap.size, 1, none⟩ = some (.int .i64 d) ∧ w'.cell? ⟨w.heap.size + 1, 0, none⟩ = some (.int .i64 m) ∧ w'.cell? ⟨w.heap.size + 1, 1, none⟩ = some (.int .i64 c))
        (first | with_reducible exact H.out.facts | with_reducible exact H.out.drew.facts | with_reducible exact (H.out.put p q).facts | go_keep)
        (first
        | (go_at_call 39; (with_reducible refine (HOA.out _).mono ?_); rintro e w2 ⟨rfl, hb⟩; (first | (with_reducible have H := Lib.hid (H.out.next hb)) | (with_reducible have H := Lib.hid (H.out.drew.next hb))); clear hb)
        | (go_at_call 39; (with_reducible refine (HOB.out _).mono ?_); rintro e w3 ⟨rfl, hb⟩; (first | (with_reducible have H := Lib.hid (H.out.next hb)) | (with_reducible have H := Lib.hid (H.out.drew.next hb))); clear hb)
        | (go_at_call 38; (with_reducible refine (HS.out _).mono ?_); rintro e w5 ⟨rfl, hb⟩; (first | (with_reducible have H := Lib.hid (H.out.next hb)) | (with_reducible have H := Lib.hid (H.out.drew.next hb))); clear hb; obtain ⟨k1, k2, k3, k4⟩ := H.out.res))
      all_goals
        go_wp2_with fail
        exact bodyPost_ret (ret_rt_2 rfl rfl rfl (H.out.put p q).rr) rfl ⟨rfl, (H.out.put p q).bel⟩
    · rw [decide_eq_false h2] at HB
      have HE := Lib.hid (show addR n d m c = (0, 0, 1) from if_neg fun h => h2 h.2)
      rw [HE.out]
      clear h1 h2 hn hd hm hc
      go_enter Tryd.func13, Tryd.ntmps13
      go_wp2_with (first
        | (go_at_call 11; (with_reducible refine (HA.out _).mono ?_); rintro e w1 ⟨rfl, hb⟩; have H := Lib.hid (H.out.next hb); clear f1 f2 f3 f4 hb; (try clear k1 k2 k3 k4); obtain ⟨f1, f2, f3, f4⟩ := H.out.facts; obtain ⟨k1, k2, k3, k4⟩ := H.out.res)
        | (go_at_call 11; (with_reducible refine (HB.out _).mono ?_); rintro e w1 ⟨rfl, hb⟩; have H := Lib.hid (H.out.next hb); clear f1 f2 f3 f4 hb; (try clear k1 k2 k3 k4); obtain ⟨f1, f2, f3, f4⟩ := H.out.facts; obtain ⟨k1, k2, k3, k4⟩ := H.out.res))
      exact bodyPost_ret (ret_rt_2 rfl rfl rfl (H.out.put 0 0).rr) rfl ⟨rfl, (H.out.put 0 0).bel⟩
  · rw [decide_eq_false h1] at HA
    have HE := Lib.hid (show addR n d m c = (0, 0, 1) from if_neg fun h => h1 h.1)
    rw [HE.out]
    clear h1 hn hd hm hc
    go_enter Tryd.func13, Tryd.ntmps13
    go_wp2_with (go_at_call 11; (with_reducible refine (HA.out _).mono ?_); rintro e w1 ⟨rfl, hb⟩; have H := Lib.hid (H.out.next hb); clear f1 f2 f3 f4 hb; (try clear k1 k2 k3 k4); obtain ⟨f1, f2, f3, f4⟩ := H.out.facts; obtain ⟨k1, k2, k3, k4⟩ := H.out.res)
    exact bodyPost_ret (ret_rt_2 rfl rfl rfl (H.out.put 0 0).rr) rfl ⟨rfl, (H.out.put 0 0).bel⟩
set_option maxHeartbeats 4000000 in
theorem p_sub (n d m c : Int) (w : World) (hn : Fit n) (hd : Fit d) (hm : Fit m) (hc : Fit c) : Calls Tryd.prog 14 #[.agg #[.int .i64 n, .int .i64 d], .agg #[.int .i64 m, .int .i64 c]] w (RatE (subR n d m c) w) := by
  have H := Lib.hid (BuH.start w n d m c)
  obtain ⟨f1, f2, f3, f4⟩ := H.out.facts
  have HA := Lib.hid (fun W => p_may n d W hn hd)
  have HB := Lib.hid (fun W => p_may m c W hm hc)
  by_cases h1 : Maybe n d
  · rw [decide_eq_true h1] at HA
    by_cases h2 : Maybe m c
    · rw [decide_eq_true h2] at HB
      obtain ⟨hD0, hDl, hDe⟩ := pos_abs hd h1.1
      obtain ⟨hC0, hCl, hCe⟩ := pos_abs hc h2.1
      have hN := fit_abs hn
      have hM := fit_abs hm
      have sN : sv (decide (n < 0)) n.natAbs = n := sv_abs n
      have sM : sv (decide (m < 0)) m.natAbs = m := sv_abs m
      obtain ⟨s, hs⟩ : ∃ s, s = decide (n < 0) := ⟨_, rfl⟩
      obtain ⟨t, ht⟩ : ∃ t, t = decide (m < 0) := ⟨_, rfl⟩
      have HOA := Lib.hid (fun W => p_open n d W hn hd h1.1)
      have HOB := Lib.hid (fun W => p_open m c W hm hc h2.1)
      rw [← hs] at HOA sN
      rw [← ht] at HOB sM
      obtain ⟨N, hNe⟩ : ∃ N, N = n.natAbs := ⟨_, rfl⟩
      obtain ⟨D, hDd⟩ : ∃ N, N = d.natAbs := ⟨_, rfl⟩
      obtain ⟨M, hMe⟩ : ∃ N, N = m.natAbs := ⟨_, rfl⟩
      obtain ⟨C, hCd⟩ : ∃ N, N = c.natAbs := ⟨_, rfl⟩
      have g1 : N.gcd D = 1 := by rw [hNe, hDd]; exact h1.2
      have g2 : M.gcd C = 1 := by rw [hMe, hCd]; exact h2.2
      rw [← hNe] at HOA sN hN
      rw [← hDd] at HOA hD0 hDl hDe
      rw [← hMe] at HOB sM hM
      rw [← hCd] at HOB hC0 hCl hCe
      have HE := Lib.hid (show subR n d m c = low (n * c - m * d) (d * c) from if_pos ⟨h1, h2⟩)
      have he := show low (sv s N * C + sv (!t) M * D) ((D : Int) * C) = low (n * c - m * d) (d * c) by rw [show sv (!t) M = -m by rw [← sM]; cases t <;> simp [sv], sN, hCe, hDe, Int.neg_mul, ← Int.sub_eq_add_neg]
      rw [HE.out, ← he]
      obtain ⟨⟨p, q, k⟩, hr⟩ : ∃ r, r = low (sv s N * C + sv (!t) M * D) ((D : Int) * C) := ⟨_, rfl⟩
      have HS := Lib.hid (fun W => r_pt hr (p_sum s (!t) N D M C W hD0 hC0 hDl hCl hN hM g1 g2))
      rw [← hr]
      have HX := Lib.hid (fun W => p_neg t M C W)
      clear he hr h1 h2 hD0 hDl hDe hC0 hCl hCe hN hM sN sM hs ht hNe hDd hMe hCd g1 g2 hn hd hm hc
      go_enter Tryd.func14, Tryd.ntmps14
      go_wp2_with (first
        | (go_at_call 11; (with_reducible refine (HA.out _).mono ?_); rintro e w1 ⟨rfl, hb⟩; have H := Lib.hid (H.out.next hb); clear f1 f2 f3 f4 hb; (try clear k1 k2 k3 k4); obtain ⟨f1, f2, f3, f4⟩ := H.out.facts; obtain ⟨k1, k2, k3, k4⟩ := H.out.res)
        | (go_at_call 11; (with_reducible refine (HB.out _).mono ?_); rintro e w1 ⟨rfl, hb⟩; have H := Lib.hid (H.out.next hb); clear f1 f2 f3 f4 hb; (try clear k1 k2 k3 k4); obtain ⟨f1, f2, f3, f4⟩ := H.out.facts; obtain ⟨k1, k2, k3, k4⟩ := H.out.res))
      clear k1 k2 k3 k4
      go_region_held3 (fun w' => w'.cell? ⟨w.heap.size, 0, none⟩ = some (.int .i64 n) ∧ w'.cell? ⟨w.heap.size, 1, none⟩ = some (.int .i64 d) ∧ w'.cell? ⟨w.heap.size + 1, 0, none⟩ = some (.int .i64 m) ∧ w'.cell? ⟨w.heap.size + 1, 1, none⟩ = some (.int .i64 c))
        (first | with_reducible exact H.out.facts | with_reducible exact H.out.drew.facts | with_reducible exact (H.out.put p q).facts | go_keep)
        (first
        | (go_at_call 39; (with_reducible refine (HOA.out _).mono ?_); rintro e w2 ⟨rfl, hb⟩; (first | (with_reducible have H := Lib.hid (H.out.next hb)) | (with_reducible have H := Lib.hid (H.out.drew.next hb))); clear hb)
        | (go_at_call 39; (with_reducible refine (HOB.out _).mono ?_); rintro e w3 ⟨rfl, hb⟩; (first | (with_reducible have H := Lib.hid (H.out.next hb)) | (with_reducible have H := Lib.hid (H.out.drew.next hb))); clear hb)
        | (go_at_call 40; (with_reducible refine (HX.out _).mono ?_); rintro e w4 ⟨rfl, hb⟩; (first | (with_reducible have H := Lib.hid (H.out.next hb)) | (with_reducible have H := Lib.hid (H.out.drew.next hb))); clear hb)
        | (go_at_call 38; (with_reducible refine (HS.out _).mono ?_); rintro e w5 ⟨rfl, hb⟩; (first | (with_reducible have H := Lib.hid (H.out.next hb)) | (with_reducible have H := Lib.hid (H.out.drew.next hb))); clear hb; obtain ⟨k1, k2, k3, k4⟩ := H.out.res))
      all_goals
        go_wp2_with fail
        exact bodyPost_ret (ret_rt_2 rfl rfl rfl (H.out.put p q).rr) rfl ⟨rfl, (H.out.put p q).bel⟩
    · rw [decide_eq_false h2] at HB
      have HE := Lib.hid (show subR n d m c = (0, 0, 1) from if_neg fun h => h2 h.2)
      rw [HE.out]
      clear h1 h2 hn hd hm hc
      go_enter Tryd.func14, Tryd.ntmps14
      go_wp2_with (first
        | (go_at_call 11; (with_reducible refine (HA.out _).mono ?_); rintro e w1 ⟨rfl, hb⟩; have H := Lib.hid (H.out.next hb); clear f1 f2 f3 f4 hb; (try clear k1 k2 k3 k4); obtain ⟨f1, f2, f3, f4⟩ := H.out.facts; obtain ⟨k1, k2, k3, k4⟩ := H.out.res)
        | (go_at_call 11; (with_reducible refine (HB.out _).mono ?_); rintro e w1 ⟨rfl, hb⟩; have H := Lib.hid (H.out.next hb); clear f1 f2 f3 f4 hb; (try clear k1 k2 k3 k4); obtain ⟨f1, f2, f3, f4⟩ := H.out.facts; obtain ⟨k1, k2, k3, k4⟩ := H.out.res))
      exact bodyPost_ret (ret_rt_2 rfl rfl rfl (H.out.put 0 0).rr) rfl ⟨rfl, (H.out.put 0 0).bel⟩
  · rw [decide_eq_false h1] at HA
    have HE := Lib.hid (show subR n d m c = (0, 0, 1) from if_neg fun h => h1 h.1)
    rw [HE.out]
    clear h1 hn hd hm hc
    go_enter Tryd.func14, Tryd.ntmps14
    go_wp2_with (go_at_call 11; (with_reducible refine (HA.out _).mono ?_); rintro e w1 ⟨rfl, hb⟩; have H := Lib.hid (H.out.next hb); clear f1 f2 f3 f4 hb; (try clear k1 k2 k3 k4); obtain ⟨f1, f2, f3, f4⟩ := H.out.facts; obtain ⟨k1, k2, k3, k4⟩ := H.out.res)
    exact bodyPost_ret (ret_rt_2 rfl rfl rfl (H.out.put 0 0).rr) rfl ⟨rfl, (H.out.put 0 0).bel⟩
set_option maxHeartbeats 4000000 in
theorem p_mul (n d m c : Int) (w : World) (hn : Fit n) (hd : Fit d) (hm : Fit m) (hc : Fit c) : Calls Tryd.prog 15 #[.agg #[.int .i64 n, .int .i64 d], .agg #[.int .i64 m, .int .i64 c]] w (RatE (mulR n d m c) w) := by
  have H := Lib.hid (BuH.start w n d m c)
  obtain ⟨f1, f2, f3, f4⟩ := H.out.facts
  have HA := Lib.hid (fun W => p_may n d W hn hd)
  have HB := Lib.hid (fun W => p_may m c W hm hc)
  by_cases h1 : Maybe n d
  · rw [decide_eq_true h1] at HA
    by_cases h2 : Maybe m c
    · rw [decide_eq_true h2] at HB
      obtain ⟨hD0, hDl, hDe⟩ := pos_abs hd h1.1
      obtain ⟨hC0, hCl, hCe⟩ := pos_abs hc h2.1
      have hN := fit_abs hn
      have hM := fit_abs hm
      have sN : sv (decide (n < 0)) n.natAbs = n := sv_abs n
      have sM : sv (decide (m < 0)) m.natAbs = m := sv_abs m
      obtain ⟨s, hs⟩ : ∃ s, s = decide (n < 0) := ⟨_, rfl⟩
      obtain ⟨t, ht⟩ : ∃ t, t = decide (m < 0) := ⟨_, rfl⟩
      have HOA := Lib.hid (fun W => p_open n d W hn hd h1.1)
      have HOB := Lib.hid (fun W => p_open m c W hm hc h2.1)
      rw [← hs] at HOA sN
      rw [← ht] at HOB sM
      obtain ⟨N, hNe⟩ : ∃ N, N = n.natAbs := ⟨_, rfl⟩
      obtain ⟨D, hDd⟩ : ∃ N, N = d.natAbs := ⟨_, rfl⟩
      obtain ⟨M, hMe⟩ : ∃ N, N = m.natAbs := ⟨_, rfl⟩
      obtain ⟨C, hCd⟩ : ∃ N, N = c.natAbs := ⟨_, rfl⟩
      have g1 : N.gcd D = 1 := by rw [hNe, hDd]; exact h1.2
      have g2 : M.gcd C = 1 := by rw [hMe, hCd]; exact h2.2
      rw [← hNe] at HOA sN hN
      rw [← hDd] at HOA hD0 hDl hDe
      rw [← hMe] at HOB sM hM
      rw [← hCd] at HOB hC0 hCl hCe
      have HE := Lib.hid (show mulR n d m c = low (n * m) (d * c) from if_pos ⟨h1, h2⟩)
      have he := show low (sv s N * sv t M) ((D : Int) * C) = low (n * m) (d * c) by rw [sN, sM, hCe, hDe]
      rw [HE.out, ← he]
      obtain ⟨⟨p, q, k⟩, hr⟩ : ∃ r, r = low (sv s N * sv t M) ((D : Int) * C) := ⟨_, rfl⟩
      have HS := Lib.hid (fun W => r_pt hr (p_product s t N D M C W hD0 hC0 (by omega) (by omega) (by omega) (by omega) g1 g2))
      rw [← hr]
      clear he hr h1 h2 hD0 hDl hDe hC0 hCl hCe hN hM sN sM hs ht hNe hDd hMe hCd g1 g2 hn hd hm hc
      go_enter Tryd.func15, Tryd.ntmps15
      go_wp2_with (first
        | (go_at_call 11; (with_reducible refine (HA.out _).mono ?_); rintro e w1 ⟨rfl, hb⟩; have H := Lib.hid (H.out.next hb); clear f1 f2 f3 f4 hb; (try clear k1 k2 k3 k4); obtain ⟨f1, f2, f3, f4⟩ := H.out.facts; obtain ⟨k1, k2, k3, k4⟩ := H.out.res)
        | (go_at_call 11; (with_reducible refine (HB.out _).mono ?_); rintro e w1 ⟨rfl, hb⟩; have H := Lib.hid (H.out.next hb); clear f1 f2 f3 f4 hb; (try clear k1 k2 k3 k4); obtain ⟨f1, f2, f3, f4⟩ := H.out.facts; obtain ⟨k1, k2, k3, k4⟩ := H.out.res))
      clear k1 k2 k3 k4
      go_region_held3 (fun w' => w'.cell? ⟨w.heap.size, 0, none⟩ = some (.int .i64 n) ∧ w'.cell? ⟨w.heap.size, 1, none⟩ = some (.int .i64 d) ∧ w'.cell? ⟨w.heap.size + 1, 0, none⟩ = some (.int .i64 m) ∧ w'.cell? ⟨w.heap.size + 1, 1, none⟩ = some (.int .i64 c))
        (first | with_reducible exact H.out.facts | with_reducible exact H.out.drew.facts | with_reducible exact (H.out.put p q).facts | go_keep)
        (first
        | (go_at_call 39; (with_reducible refine (HOA.out _).mono ?_); rintro e w2 ⟨rfl, hb⟩; (first | (with_reducible have H := Lib.hid (H.out.next hb)) | (with_reducible have H := Lib.hid (H.out.drew.next hb))); clear hb)
        | (go_at_call 39; (with_reducible refine (HOB.out _).mono ?_); rintro e w3 ⟨rfl, hb⟩; (first | (with_reducible have H := Lib.hid (H.out.next hb)) | (with_reducible have H := Lib.hid (H.out.drew.next hb))); clear hb)
        | (go_at_call 41; (with_reducible refine (HS.out _).mono ?_); rintro e w5 ⟨rfl, hb⟩; (first | (with_reducible have H := Lib.hid (H.out.next hb)) | (with_reducible have H := Lib.hid (H.out.drew.next hb))); clear hb; obtain ⟨k1, k2, k3, k4⟩ := H.out.res))
      all_goals
        go_wp2_with fail
        exact bodyPost_ret (ret_rt_2 rfl rfl rfl (H.out.put p q).rr) rfl ⟨rfl, (H.out.put p q).bel⟩
    · rw [decide_eq_false h2] at HB
      have HE := Lib.hid (show mulR n d m c = (0, 0, 1) from if_neg fun h => h2 h.2)
      rw [HE.out]
      clear h1 h2 hn hd hm hc
      go_enter Tryd.func15, Tryd.ntmps15
      go_wp2_with (first
        | (go_at_call 11; (with_reducible refine (HA.out _).mono ?_); rintro e w1 ⟨rfl, hb⟩; have H := Lib.hid (H.out.next hb); clear f1 f2 f3 f4 hb; (try clear k1 k2 k3 k4); obtain ⟨f1, f2, f3, f4⟩ := H.out.facts; obtain ⟨k1, k2, k3, k4⟩ := H.out.res)
        | (go_at_call 11; (with_reducible refine (HB.out _).mono ?_); rintro e w1 ⟨rfl, hb⟩; have H := Lib.hid (H.out.next hb); clear f1 f2 f3 f4 hb; (try clear k1 k2 k3 k4); obtain ⟨f1, f2, f3, f4⟩ := H.out.facts; obtain ⟨k1, k2, k3, k4⟩ := H.out.res))
      exact bodyPost_ret (ret_rt_2 rfl rfl rfl (H.out.put 0 0).rr) rfl ⟨rfl, (H.out.put 0 0).bel⟩
  · rw [decide_eq_false h1] at HA
    have HE := Lib.hid (show mulR n d m c = (0, 0, 1) from if_neg fun h => h1 h.1)
    rw [HE.out]
    clear h1 hn hd hm hc
    go_enter Tryd.func15, Tryd.ntmps15
    go_wp2_with (go_at_call 11; (with_reducible refine (HA.out _).mono ?_); rintro e w1 ⟨rfl, hb⟩; have H := Lib.hid (H.out.next hb); clear f1 f2 f3 f4 hb; (try clear k1 k2 k3 k4); obtain ⟨f1, f2, f3, f4⟩ := H.out.facts; obtain ⟨k1, k2, k3, k4⟩ := H.out.res)
    exact bodyPost_ret (ret_rt_2 rfl rfl rfl (H.out.put 0 0).rr) rfl ⟨rfl, (H.out.put 0 0).bel⟩
set_option maxHeartbeats 4000000 in
theorem p_div (n d m c : Int) (w : World) (hn : Fit n) (hd : Fit d) (hm : Fit m) (hc : Fit c) : Calls Tryd.prog 16 #[.agg #[.int .i64 n, .int .i64 d], .agg #[.int .i64 m, .int .i64 c]] w (RatE (divR n d m c) w) := by
  have H := Lib.hid (BuH.start w n d m c)
  obtain ⟨f1, f2, f3, f4⟩ := H.out.facts
  have HA := Lib.hid (fun W => p_may n d W hn hd)
  have HB := Lib.hid (fun W => p_may m c W hm hc)
  by_cases h1 : Maybe n d
  · rw [decide_eq_true h1] at HA
    by_cases h2 : Maybe m c
    · rw [decide_eq_true h2] at HB
      obtain ⟨hD0, hDl, hDe⟩ := pos_abs hd h1.1
      obtain ⟨hC0, hCl, hCe⟩ := pos_abs hc h2.1
      have hN := fit_abs hn
      have hM := fit_abs hm
      have sN : sv (decide (n < 0)) n.natAbs = n := sv_abs n
      have sM : sv (decide (m < 0)) m.natAbs = m := sv_abs m
      obtain ⟨s, hs⟩ : ∃ s, s = decide (n < 0) := ⟨_, rfl⟩
      obtain ⟨t, ht⟩ : ∃ t, t = decide (m < 0) := ⟨_, rfl⟩
      have HOA := Lib.hid (fun W => p_open n d W hn hd h1.1)
      have HOB := Lib.hid (fun W => p_open m c W hm hc h2.1)
      rw [← hs] at HOA sN
      rw [← ht] at HOB sM
      obtain ⟨N, hNe⟩ : ∃ N, N = n.natAbs := ⟨_, rfl⟩
      obtain ⟨D, hDd⟩ : ∃ N, N = d.natAbs := ⟨_, rfl⟩
      obtain ⟨M, hMe⟩ : ∃ N, N = m.natAbs := ⟨_, rfl⟩
      obtain ⟨C, hCd⟩ : ∃ N, N = c.natAbs := ⟨_, rfl⟩
      have g1 : N.gcd D = 1 := by rw [hNe, hDd]; exact h1.2
      have g2 : M.gcd C = 1 := by rw [hMe, hCd]; exact h2.2
      rw [← hNe] at HOA sN hN
      rw [← hDd] at HOA hD0 hDl hDe
      rw [← hMe] at HOB sM hM
      rw [← hCd] at HOB hC0 hCl hCe
      by_cases hm0 : m = 0
      · have hb0 : (m == 0) = true := by simp [hm0]
        have HE := Lib.hid (show divR n d m c = (0, 0, 13) by unfold divR; rw [if_pos ⟨h1, h2⟩, if_pos hm0])
        rw [HE.out]
        clear hm0 h1 h2 hD0 hDl hDe hC0 hCl hCe hN hM sN sM hs ht hNe hDd hMe hCd g1 g2 hn hd hm hc
        go_enter Tryd.func16, Tryd.ntmps16
        go_wp2_with (first
          | (go_at_call 11; (with_reducible refine (HA.out _).mono ?_); rintro e w1 ⟨rfl, hb⟩; have H := Lib.hid (H.out.next hb); clear f1 f2 f3 f4 hb; (try clear k1 k2 k3 k4); obtain ⟨f1, f2, f3, f4⟩ := H.out.facts; obtain ⟨k1, k2, k3, k4⟩ := H.out.res)
          | (go_at_call 11; (with_reducible refine (HB.out _).mono ?_); rintro e w1 ⟨rfl, hb⟩; have H := Lib.hid (H.out.next hb); clear f1 f2 f3 f4 hb; (try clear k1 k2 k3 k4); obtain ⟨f1, f2, f3, f4⟩ := H.out.facts; obtain ⟨k1, k2, k3, k4⟩ := H.out.res))
        exact bodyPost_ret (ret_rt_2 rfl rfl rfl (H.out.put 0 0).rr) rfl ⟨rfl, (H.out.put 0 0).bel⟩
      have hb0 : (m == 0) = false := by simp [hm0]
      have hM0 : 0 < M := by omega
      have HE := Lib.hid (show divR n d m c = low (n * c) (d * m) by unfold divR; rw [if_pos ⟨h1, h2⟩, if_neg hm0])
      have he := show low (sv s N * sv t C) ((D : Int) * M) = low (n * c) (d * m) by
        rw [sN, hDe]
        cases t
        · rw [sv_false] at sM ⊢
          rw [sM, hCe]
        · rw [sv_true] at sM ⊢
          rw [hCe, show (M : Int) = -m by omega, Int.mul_neg, Int.mul_neg]
          exact low_neg _ _ (Int.mul_ne_zero (by omega) hm0)
      rw [HE.out, ← he]
      obtain ⟨⟨p, q, k⟩, hr⟩ : ∃ r, r = low (sv s N * sv t C) ((D : Int) * M) := ⟨_, rfl⟩
      have HS := Lib.hid (fun W => r_pt hr (p_product s t N D C M W hD0 hM0 (by omega) (by omega) (by omega) (by omega) g1 (by rw [Nat.gcd_comm]; exact g2)))
      rw [← hr]
      have HX := Lib.hid (fun W => p_up t M C W)
      clear he hr h1 h2 hD0 hDl hDe hC0 hCl hCe hN hM sN sM hs ht hNe hDd hMe hCd g1 g2 hn hd hm hc hm0 hM0
      go_enter Tryd.func16, Tryd.ntmps16
      go_wp2_with (first
        | (go_at_call 11; (with_reducible refine (HA.out _).mono ?_); rintro e w1 ⟨rfl, hb⟩; have H := Lib.hid (H.out.next hb); clear f1 f2 f3 f4 hb; (try clear k1 k2 k3 k4); obtain ⟨f1, f2, f3, f4⟩ := H.out.facts; obtain ⟨k1, k2, k3, k4⟩ := H.out.res)
        | (go_at_call 11; (with_reducible refine (HB.out _).mono ?_); rintro e w1 ⟨rfl, hb⟩; have H := Lib.hid (H.out.next hb); clear f1 f2 f3 f4 hb; (try clear k1 k2 k3 k4); obtain ⟨f1, f2, f3, f4⟩ := H.out.facts; obtain ⟨k1, k2, k3, k4⟩ := H.out.res))
      clear k1 k2 k3 k4
      go_region_held3 (fun w' => w'.cell? ⟨w.heap.size, 0, none⟩ = some (.int .i64 n) ∧ w'.cell? ⟨w.heap.size, 1, none⟩ = some (.int .i64 d) ∧ w'.cell? ⟨w.heap.size + 1, 0, none⟩ = some (.int .i64 m) ∧ w'.cell? ⟨w.heap.size + 1, 1, none⟩ = some (.int .i64 c))
        (first | with_reducible exact H.out.facts | with_reducible exact H.out.drew.facts | with_reducible exact (H.out.put p q).facts | go_keep)
        (first
        | (go_at_call 39; (with_reducible refine (HOA.out _).mono ?_); rintro e w2 ⟨rfl, hb⟩; (first | (with_reducible have H := Lib.hid (H.out.next hb)) | (with_reducible have H := Lib.hid (H.out.drew.next hb))); clear hb)
        | (go_at_call 39; (with_reducible refine (HOB.out _).mono ?_); rintro e w3 ⟨rfl, hb⟩; (first | (with_reducible have H := Lib.hid (H.out.next hb)) | (with_reducible have H := Lib.hid (H.out.drew.next hb))); clear hb)
        | (go_at_call 42; (with_reducible refine (HX.out _).mono ?_); rintro e w4 ⟨rfl, hb⟩; (first | (with_reducible have H := Lib.hid (H.out.next hb)) | (with_reducible have H := Lib.hid (H.out.drew.next hb))); clear hb)
        | (go_at_call 41; (with_reducible refine (HS.out _).mono ?_); rintro e w5 ⟨rfl, hb⟩; (first | (with_reducible have H := Lib.hid (H.out.next hb)) | (with_reducible have H := Lib.hid (H.out.drew.next hb))); clear hb; obtain ⟨k1, k2, k3, k4⟩ := H.out.res))
      all_goals
        go_wp2_with fail
        exact bodyPost_ret (ret_rt_2 rfl rfl rfl (H.out.put p q).rr) rfl ⟨rfl, (H.out.put p q).bel⟩
    · rw [decide_eq_false h2] at HB
      have HE := Lib.hid (show divR n d m c = (0, 0, 1) from if_neg fun h => h2 h.2)
      rw [HE.out]
      clear h1 h2 hn hd hm hc
      go_enter Tryd.func16, Tryd.ntmps16
      go_wp2_with (first
        | (go_at_call 11; (with_reducible refine (HA.out _).mono ?_); rintro e w1 ⟨rfl, hb⟩; have H := Lib.hid (H.out.next hb); clear f1 f2 f3 f4 hb; (try clear k1 k2 k3 k4); obtain ⟨f1, f2, f3, f4⟩ := H.out.facts; obtain ⟨k1, k2, k3, k4⟩ := H.out.res)
        | (go_at_call 11; (with_reducible refine (HB.out _).mono ?_); rintro e w1 ⟨rfl, hb⟩; have H := Lib.hid (H.out.next hb); clear f1 f2 f3 f4 hb; (try clear k1 k2 k3 k4); obtain ⟨f1, f2, f3, f4⟩ := H.out.facts; obtain ⟨k1, k2, k3, k4⟩ := H.out.res))
      exact bodyPost_ret (ret_rt_2 rfl rfl rfl (H.out.put 0 0).rr) rfl ⟨rfl, (H.out.put 0 0).bel⟩
  · rw [decide_eq_false h1] at HA
    have HE := Lib.hid (show divR n d m c = (0, 0, 1) from if_neg fun h => h1 h.1)
    rw [HE.out]
    clear h1 hn hd hm hc
    go_enter Tryd.func16, Tryd.ntmps16
    go_wp2_with (go_at_call 11; (with_reducible refine (HA.out _).mono ?_); rintro e w1 ⟨rfl, hb⟩; have H := Lib.hid (H.out.next hb); clear f1 f2 f3 f4 hb; (try clear k1 k2 k3 k4); obtain ⟨f1, f2, f3, f4⟩ := H.out.facts; obtain ⟨k1, k2, k3, k4⟩ := H.out.res)
    exact bodyPost_ret (ret_rt_2 rfl rfl rfl (H.out.put 0 0).rr) rfl ⟨rfl, (H.out.put 0 0).bel⟩
end Go.Proofs.YtjjinncecfilpaaDoor
