/- Proved here: what package ratio's sum answers. Condition: two fractions in lowest terms of numbers of at most 2 to the 63rd. -/
import Derived.Test.YtjjinncecfilpaaDoorZG
namespace Go.Proofs.YtjjinncecfilpaaDoor
open Go.RowKit

set_option linter.unusedSimpArgs false in
set_option maxHeartbeats 8000000 in
theorem sum_core (s t : Bool) (n d m c g d' c' h1 l1 h2 l2 : Nat) (S p q k : Int) (w : World) (hd : 0 < d) (hc : 0 < c) (hdl : d < 9223372036854775808) (hcl : c < 9223372036854775808)
    (hg : g = d.gcd c) (hd' : d' = d / g) (hc' : c' = c / g) (hh1 : h1 = O.pHi n c') (hl1 : l1 = O.pLo n c') (hh2 : h2 = O.pHi m d') (hl2 : l2 = O.pLo m d') (hn : n ≤ 9223372036854775808) (hm : m ≤ 9223372036854775808)
    (hS : S = sv s (n * c') + sv t (m * d')) (hr : ∀ u N, sv u N = S → (p, q, k) = fitI (sv u (N / (N % g).gcd g)) (d' * (c / (N % g).gcd g))) :
    Calls Tryd.prog 38 #[.agg #[.bool s, .int .u64 (n : Int), .int .u64 (d : Int)], .agg #[.bool t, .int .u64 (m : Int), .int .u64 (c : Int)]] w (RatE (p, q, k) w) := by
  have hg0 : 0 < g := by rw [hg]; exact Nat.gcd_pos_of_pos_right _ hc
  have hgl : g < 9223372036854775808 := by rw [hg]; exact Nat.lt_of_le_of_lt (Nat.gcd_le_left _ hd) hdl
  have hdl' : d' < 9223372036854775808 := by rw [hd']; exact Nat.lt_of_le_of_lt (Nat.div_le_self _ _) hdl
  have hcl' : c' < 9223372036854775808 := by rw [hc']; exact Nat.lt_of_le_of_lt (Nat.div_le_self _ _) hcl
  have HG := Lib.hid (fun W => p_gcd d c W (by omega) (by omega))
  rw [← hg] at HG
  have HM1 := Lib.hid (mul_pt n c' h1 l1 hh1 hl1 (by omega) (by omega))
  have HM2 := Lib.hid (mul_pt m d' h2 l2 hh2 hl2 (by omega) (by omega))
  have m1 := mul_lim (x := n) (y := c') (by omega) (by omega)
  have m2 := mul_lim (x := m) (y := d') (by omega) (by omega)
  have e1 : O.numW h1 l1 = n * c' := by rw [hh1, hl1, mul_num]
  have e2 : O.numW h2 l2 = m * d' := by rw [hh2, hl2, mul_num]
  have HS := Lib.hid (fun W => p_signed s t h1 l1 h2 l2 W (by
    rw [e1, e2]
    have x1 := Nat.mul_le_mul hn (Nat.le_of_lt hcl')
    have x2 := Nat.mul_le_mul hm (Nat.le_of_lt hdl')
    omega) (by rw [hh1]; exact m1.1) (by rw [hl1]; exact m1.2) (by rw [hh2]; exact m2.1) (by rw [hl2]; exact m2.2))
  rw [e1, e2, ← hS] at HS
  have F1 : (c : Int) / (g : Int) = (c' : Int) := by rw [hc']; simp
  have F2 : (d : Int) / (g : Int) = (d' : Int) := by rw [hd']; simp
  have F3 : IntKind.u64.wrap (c' : Int) = (c' : Int) := wrap_nat rfl (by omega)
  have F4 : IntKind.u64.wrap (d' : Int) = (d' : Int) := wrap_nat rfl (by omega)
  have hgz : ¬ (g : Int) = 0 := by omega
  have hgz2 : ¬ g = 0 := by omega
  have F5 : (c : Int).tdiv (g : Int) = (c' : Int) := by rw [Int.tdiv_eq_ediv_of_nonneg (Int.natCast_nonneg _), F1]
  have F6 : (d : Int).tdiv (g : Int) = (d' : Int) := by rw [Int.tdiv_eq_ediv_of_nonneg (Int.natCast_nonneg _), F2]
  have HK := Lib.hid (And.intro hg0 (And.intro hgl (And.intro hdl' (And.intro hcl hr))))
  have H := Lib.hid (SuH.start w s n d t m c)
  obtain ⟨f1, f2, f3, f4, f5, f6⟩ := H.out.facts
  clear hg hd' hc' hh1 hl1 hh2 hl2 hn hm hS hr hg0 hgl hdl' hcl' m1 m2 e1 e2 hd hc hdl hcl
  go_enter Tryd.func38, Tryd.ntmps38
  go_upto_region 2 with (go_at_call 32; (with_reducible refine (HG.out _).mono ?_); rintro e w1 ⟨rfl, rfl⟩)
  go_cut [7, 8] from 18 to 40 (fun a b wx => ∃ (u : Bool) (G x y : Nat), a = .bool u ∧ b = .pointer (some ⟨G, 0, none⟩) ∧ SvH w wx s n d t m c G x y 0 0 ∧ sv u (O.numW x y) = S ∧ x < 18446744073709551616 ∧ y < 18446744073709551616)
  case first =>
    go_region_held3 (fun w' => w'.cell? ⟨w.heap.size, 0, none⟩ = some (.bool s) ∧ w'.cell? ⟨w.heap.size, 1, none⟩ = some (.int .u64 (n : Int)) ∧ w'.cell? ⟨w.heap.size, 2, none⟩ = some (.int .u64 (d : Int)) ∧
        w'.cell? ⟨w.heap.size + 1, 0, none⟩ = some (.bool t) ∧ w'.cell? ⟨w.heap.size + 1, 1, none⟩ = some (.int .u64 (m : Int)) ∧ w'.cell? ⟨w.heap.size + 1, 2, none⟩ = some (.int .u64 (c : Int)))
      (first | with_reducible exact H.out.facts | with_reducible exact H.out.drew.facts | with_reducible exact H.out.alloc.facts | with_reducible exact H.out.alloc.drew.facts | with_reducible exact H.out.drew.alloc.facts | with_reducible exact (H.out.finA x y).facts6 | with_reducible exact (H.out.finB (by simp [size_a]) x y).facts6 | go_keep)
      (first
        | (go_at_call 60; (with_reducible refine (HM1.out _).mono ?_); rintro e w2 ⟨rfl, hb⟩; (first | (with_reducible have H := Lib.hid (H.out.next hb)) | (with_reducible have H := Lib.hid (H.out.drew.next hb)) | (with_reducible have H := Lib.hid (H.out.alloc.next hb)) | (with_reducible have H := Lib.hid (H.out.alloc.drew.next hb)) | (with_reducible have H := Lib.hid (H.out.drew.alloc.next hb))); clear hb)
        | (go_at_call 60; (with_reducible refine (HM2.out _).mono ?_); rintro e w3 ⟨rfl, hb⟩; (first | (with_reducible have H := Lib.hid (H.out.next hb)) | (with_reducible have H := Lib.hid (H.out.drew.next hb)) | (with_reducible have H := Lib.hid (H.out.alloc.next hb)) | (with_reducible have H := Lib.hid (H.out.alloc.drew.next hb)) | (with_reducible have H := Lib.hid (H.out.drew.alloc.next hb))); clear hb)
        | (go_at_call 59; (with_reducible refine (HS.out _).mono ?_); rintro e w4 ⟨u, x, y, rfl, hv, hx, hy, hb⟩; (first | (with_reducible have H := Lib.hid (H.out.next hb)) | (with_reducible have H := Lib.hid (H.out.drew.next hb)) | (with_reducible have H := Lib.hid (H.out.alloc.next hb)) | (with_reducible have H := Lib.hid (H.out.alloc.drew.next hb)) | (with_reducible have H := Lib.hid (H.out.drew.alloc.next hb))); have HV := Lib.hid (And.intro hv (And.intro hx hy)); clear hb hv hx hy; have hfs := H.out.fs; simp only [List.forall_mem_cons, List.not_mem_nil, false_implies, implies_true, and_true, size_a] at hfs))
    all_goals
      go_wp2_with fail
      go_meet
      refine ⟨u, _, x, y, rfl, rfl, ?_, HV.out.1, HV.out.2.1, HV.out.2.2⟩
      first
        | with_reducible exact H.out.finA x y
        | with_reducible exact H.out.finB (by simp [size_a]) x y
        | trace_state
  case rest =>
    obtain ⟨u, G, x, y, rfl, rfl, hL, hv, hx, hy⟩ := hcut
    obtain ⟨W0, hW0⟩ : ∃ W, W = wc := ⟨_, rfl⟩
    subst wc
    obtain ⟨hg0, hgl, hdl', hcl, hr⟩ := HK.out
    obtain ⟨N, hN⟩ : ∃ N, N = O.numW x y := ⟨_, rfl⟩
    rw [← hN] at hv
    have hr2 := hr u N hv
    obtain ⟨r, hrr⟩ : ∃ r, r = N % g := ⟨_, rfl⟩
    rw [← hrr] at hr2
    obtain ⟨h, hh⟩ : ∃ h, h = r.gcd g := ⟨_, rfl⟩
    rw [← hh] at hr2
    have hrl : r < 9223372036854775808 := by rw [hrr]; exact Nat.lt_trans (Nat.mod_lt _ hg0) hgl
    have hh0 : 0 < h := by rw [hh]; exact Nat.gcd_pos_of_pos_right _ hg0
    have hhl : h < 9223372036854775808 := by rw [hh]; exact Nat.lt_of_le_of_lt (Nat.gcd_le_right _ hg0) hgl
    have HD1 := Lib.hid (div_pt x y g _ _ r rfl rfl (by rw [hrr, hN]) hg0 hx hy (by omega))
    have HG2 := Lib.hid (fun W => p_gcd r g W (by omega) (by omega))
    rw [← hh] at HG2
    obtain ⟨a1, ha1⟩ : ∃ a, a = O.hiW (O.numW x y / g) := ⟨_, rfl⟩
    obtain ⟨b1, hb1⟩ : ∃ a, a = O.loW (O.numW x y / g) := ⟨_, rfl⟩
    rw [← ha1, ← hb1] at HD1
    obtain ⟨a2, ha2⟩ : ∃ a, a = O.hiW (O.numW x y / h) := ⟨_, rfl⟩
    obtain ⟨b2, hb2⟩ : ∃ a, a = O.loW (O.numW x y / h) := ⟨_, rfl⟩
    obtain ⟨r2, hr3⟩ : ∃ a, a = O.numW x y % h := ⟨_, rfl⟩
    have HD2 := Lib.hid (div_pt x y h a2 b2 r2 ha2 hb2 hr3 hh0 hx hy (by omega))
    obtain ⟨ch, hch⟩ : ∃ a, a = c / h := ⟨_, rfl⟩
    have hchl : ch < 9223372036854775808 := by rw [hch]; exact Nat.lt_of_le_of_lt (Nat.div_le_self _ _) hcl
    obtain ⟨h3, hh3⟩ : ∃ a, a = O.pHi d' ch := ⟨_, rfl⟩
    obtain ⟨l3, hl3⟩ : ∃ a, a = O.pLo d' ch := ⟨_, rfl⟩
    have HM := Lib.hid (mul_pt d' ch h3 l3 hh3 hl3 (by omega) (by omega))
    have m3 := mul_lim (x := d') (y := ch) (by omega) (by omega)
    have e3 : O.numW h3 l3 = d' * ch := by rw [hh3, hl3, mul_num]
    have hNl : O.numW x y / h < 340282366920938463463374607431768211456 := Nat.lt_of_le_of_lt (Nat.div_le_self _ _) (by unfold O.numW; omega)
    have e2 := hl_of _ hNl
    rw [← ha2, ← hb2, ← hN] at e2
    have HF := Lib.hid (p_fit_pt u a2 b2 h3 l3 p q k (by rw [e2.2.2, e3, hch]; exact hr2) e2.2.1 (by rw [hl3]; exact m3.2))
    have F7 : (c : Int) / (h : Int) = (ch : Int) := by rw [hch]; simp
    have F8 : IntKind.u64.wrap (ch : Int) = (ch : Int) := wrap_nat rfl (by omega)
    have F9 : (c : Int).tdiv (h : Int) = (ch : Int) := by rw [Int.tdiv_eq_ediv_of_nonneg (Int.natCast_nonneg _), F7]
    have hhz : ¬ (h : Int) = 0 := by omega
    have hhz2 : ¬ h = 0 := by omega
    have H := Lib.hid hL
    clear hL hv hx hy hg0 hgl hdl' hcl hr hN hr2 hrr hh hrl hh0 hhl ha1 hb1 ha2 hb2 hr3 hch hchl hh3 hl3 m3 e3 hNl e2 f1 f2 f3 f4 f5 f6
    obtain ⟨f1, f2, f3, f4⟩ := H.out.facts
    go_wp2_with (first
      | (go_at_call 61; (with_reducible refine (HD1.out _).mono ?_); rintro e w5 ⟨rfl, hb⟩; have H := Lib.hid ((H.out.next hb).next (bel_a w5 (.cells #[.int .u64 (a1 : Int), .int .u64 (b1 : Int)] 53))); clear hb f1 f2 f3 f4; obtain ⟨f1, f2, f3, f4⟩ := H.out.facts)
      | (go_at_call 32; (with_reducible refine (HG2.out _).mono ?_); rintro e w6 ⟨rfl, rfl⟩)
      | (go_at_call 61; (with_reducible refine (HD2.out _).mono ?_); rintro e w7 ⟨rfl, hb⟩; have H := Lib.hid (H.out.next hb); clear hb f1 f2 f3 f4; obtain ⟨f1, f2, f3, f4⟩ := H.out.facts; obtain ⟨k1, k2, k3, k4⟩ := H.out.frs))
    clear f1 f2 f3 f4 k1 k2 k3 k4
    have H := Lib.hid (H.out.put a2 b2)
    obtain ⟨f1, f2, f3, f4⟩ := H.out.facts
    go_region_held3 (fun w' => w'.cell? ⟨w.heap.size, 2, none⟩ = some (.int .u64 (d : Int)) ∧ w'.cell? ⟨w.heap.size + 1, 2, none⟩ = some (.int .u64 (c : Int)) ∧ w'.cell? ⟨G, 0, none⟩ = some (.int .u64 (a2 : Int)) ∧ w'.cell? ⟨G, 1, none⟩ = some (.int .u64 (b2 : Int)))
      (first | with_reducible exact H.out.facts | with_reducible exact H.out.drew.facts | with_reducible exact (H.out.res p q).facts | go_keep)
      (first
        | (go_at_call 60; (with_reducible refine (HM.out _).mono ?_); rintro e w8 ⟨rfl, hb⟩; (first | (with_reducible have H := Lib.hid (H.out.next hb)) | (with_reducible have H := Lib.hid (H.out.drew.next hb))); clear hb)
        | (go_at_call 33; (with_reducible refine (HF.out _).mono ?_); rintro e w9 ⟨rfl, hb⟩; (first | (with_reducible have H := Lib.hid (H.out.next hb)) | (with_reducible have H := Lib.hid (H.out.drew.next hb))); clear hb; obtain ⟨k1, k2, k3, k4⟩ := H.out.ans))
    all_goals
      go_wp2_with fail
      exact bodyPost_ret (ret_rt_2 rfl rfl rfl (H.out.res p q).rr) rfl ⟨rfl, (H.out.res p q).bel⟩
end Go.Proofs.YtjjinncecfilpaaDoor
