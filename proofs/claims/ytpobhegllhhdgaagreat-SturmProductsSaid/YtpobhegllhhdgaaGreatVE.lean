/- Proved here: what the document's numbers of any size answer and leave in memory (ported). Conditions stand at each. -/
import Derived.Test.YtpobhegllhhdgaaGreatVD
import Derived.Deep.LoopGhost
namespace Go.Proofs.YtpobhegllhhdgaaGreat
open Go.RowKit

theorem ret_sg {fn : Func} {p u : Tmp} {tmps : Array Value} {W : World} {g a b : Nat} {v : Value} (h : fn.results = #[.tmp u, .cell p 153]) (hv : tmps.getD u undef = v) (hp : tmps.getD p undef = .pointer (some ⟨g, 0, none⟩)) (hb : O.Box W g a b) :
    (results fn tmps).run Tryz.prog W = .ok (.tuple #[v, .agg #[.int .u64 (a : Int), .int .u64 (b : Int)]]) W := by
  have hc0 := hb.c0
  have hc1 := hb.c1
  rw [Array.getD_eq_getD_getElem?] at hp hv
  simp [results, h, hp, hv, go_sem, hc0, hc1]
/-- Two numbers in boxes, and the answer's box. -/
structure SgH (w W : World) (a b c d p q : Nat) : Prop where
  ba : O.Box W w.heap.size a b
  bb : O.Box W (w.heap.size + 1) c d
  rr : O.Box W (w.heap.size + 1 + 1) p q
  bel : Below w.heap.size w W
section
variable {w W W' : World} {a b c d p q : Nat}
theorem SgH.start (w : World) (a b c d p q : Nat) : SgH w (((w.alloc (.cells #[.int .u64 (a : Int), .int .u64 (b : Int)] 153)).alloc (.cells #[.int .u64 (c : Int), .int .u64 (d : Int)] 153)).alloc (.cells #[.int .u64 (p : Int), .int .u64 (q : Int)] 153)) a b c d p q :=
  ⟨((O.Box.new w a b).alloc _).alloc _, by have := (O.Box.new (w.alloc (.cells #[.int .u64 (a : Int), .int .u64 (b : Int)] 153)) c d).alloc (.cells #[.int .u64 (p : Int), .int .u64 (q : Int)] 153); simpa using this, by have := O.Box.new ((w.alloc (.cells #[.int .u64 (a : Int), .int .u64 (b : Int)] 153)).alloc (.cells #[.int .u64 (c : Int), .int .u64 (d : Int)] 153)) p q; simpa using this, bel_tr (bel_tr (bel_a w _) (bel_a _ _)) (bel_a _ _)⟩
theorem SgH.next (h : SgH w W a b c d p q) (hb : Below W.heap.size W W') : SgH w W' a b c d p q := ⟨h.ba.below hb h.ba.lt, h.bb.below hb h.bb.lt, h.rr.below hb h.rr.lt, bel_tr h.bel hb⟩
theorem SgH.drew (h : SgH w W a b c d p q) : SgH w W.drew a b c d p q := ⟨h.ba, h.bb, h.rr, h.bel.drew⟩
theorem SgH.facts (h : SgH w W a b c d p q) : W.cell? ⟨w.heap.size, 0, none⟩ = some (.int .u64 (a : Int)) ∧ W.cell? ⟨w.heap.size, 1, none⟩ = some (.int .u64 (b : Int)) ∧ W.cell? ⟨w.heap.size + 1, 0, none⟩ = some (.int .u64 (c : Int)) ∧ W.cell? ⟨w.heap.size + 1, 1, none⟩ = some (.int .u64 (d : Int)) :=
  ⟨h.ba.c0, h.ba.c1, h.bb.c0, h.bb.c1⟩
theorem SgH.res (h : SgH w W a b c d p q) : W.cell? ⟨w.heap.size + 1 + 1, 0, none⟩ = some (.int .u64 (p : Int)) ∧ W.cell? ⟨w.heap.size + 1 + 1, 1, none⟩ = some (.int .u64 (q : Int)) ∧ W.frozen? ⟨w.heap.size + 1 + 1, 0, none⟩ = false ∧ W.frozen? ⟨w.heap.size + 1 + 1, 1, none⟩ = false ∧
    ¬ W.heap.size = w.heap.size + 1 + 1 ∧ ¬ w.heap.size + 1 + 1 = W.heap.size :=
  ⟨h.rr.c0, h.rr.c1, h.rr.fr 0, h.rr.fr 1, by have := h.rr.lt; omega, by have := h.rr.lt; omega⟩
theorem SgH.put (h : SgH w W a b c d p q) (x y : Nat) : SgH w ((W.setCell ⟨w.heap.size + 1 + 1, 0, none⟩ (.int .u64 (x : Int))).setCell ⟨w.heap.size + 1 + 1, 1, none⟩ (.int .u64 (y : Int))) a b c d x y :=
  ⟨((h.ba.far (by show _ ≠ _; simp; omega) _).far (by show _ ≠ _; simp; omega) _), ((h.bb.far (by show _ ≠ _; simp) _).far (by show _ ≠ _; simp) _), (h.rr.set0 x).set1 y, bel_set (bel_set h.bel (by omega) _ _) (by omega) _ _⟩
end
theorem lss_cmp (N M : Nat) : decide (O.cmpI N M < 0) = decide (N < M) := by
  rw [decide_eq_decide]
  unfold O.cmpI
  split
  · omega
  · split <;> omega
/-- What a call answers that makes a number with its sign. -/
def SgE (z : Int) (w : World) (e : Ending) (w' : World) : Prop :=
  ∃ (s : Bool) (h l : Nat), e = .returned (.tuple #[.bool s, .agg #[.int .u64 (h : Int), .int .u64 (l : Int)]]) ∧ sv s (O.numW h l) = z ∧ h < 18446744073709551616 ∧ l < 18446744073709551616 ∧ Below w.heap.size w w'
theorem hl_of (n : Nat) (hn : n < 340282366920938463463374607431768211456) : O.hiW n < 18446744073709551616 ∧ O.loW n < 18446744073709551616 ∧ O.numW (O.hiW n) (O.loW n) = n := by
  unfold O.hiW O.loW O.numW; omega
theorem add_pt (a b c d h l : Nat) (hh : h = O.hiW (O.numW a b + O.numW c d)) (hl : l = O.loW (O.numW a b + O.numW c d)) (hs : O.numW a b + O.numW c d < 340282366920938463463374607431768211456)
    (ha : a < 18446744073709551616) (hb : b < 18446744073709551616) (hc : c < 18446744073709551616) (hd : d < 18446744073709551616) (w : World) :
    Calls Tryz.prog 134 #[.agg #[.int .u64 (a : Int), .int .u64 (b : Int)], .agg #[.int .u64 (c : Int), .int .u64 (d : Int)]] w fun e w' => e = .returned (.tuple #[.agg #[.int .u64 (h : Int), .int .u64 (l : Int)], .int .i64 0]) ∧ Below w.heap.size w w' :=
  (O.add_any a b c d w ha hb hc hd).mono fun _ _ ⟨x, y, k, he, hf, hb⟩ => by
    rcases hf with ⟨_, h1, h2, h3⟩ | ⟨h1, _⟩
    · exact ⟨by rw [he, h1, h2, h3, hh, hl], hb⟩
    · exact absurd (by rw [O.e8]; exact hs) h1
theorem sub_pt (a b c d h l : Nat) (hh : h = O.hiW (O.numW a b - O.numW c d)) (hl : l = O.loW (O.numW a b - O.numW c d)) (hs : O.numW c d ≤ O.numW a b)
    (ha : a < 18446744073709551616) (hb : b < 18446744073709551616) (hc : c < 18446744073709551616) (hd : d < 18446744073709551616) (w : World) :
    Calls Tryz.prog 135 #[.agg #[.int .u64 (a : Int), .int .u64 (b : Int)], .agg #[.int .u64 (c : Int), .int .u64 (d : Int)]] w fun e w' => e = .returned (.tuple #[.agg #[.int .u64 (h : Int), .int .u64 (l : Int)], .int .i64 0]) ∧ Below w.heap.size w w' :=
  (O.sub_any a b c d w ha hb hc hd).mono fun _ _ ⟨x, y, k, he, hf, hb⟩ => by
    rcases hf with ⟨_, h1, h2, h3⟩ | ⟨h1, _⟩
    · exact ⟨by rw [he, h1, h2, h3, hh, hl], hb⟩
    · omega
set_option maxHeartbeats 2000000 in
/-- Two numbers of the same sign. -/
theorem sg_same (s : Bool) (a b c d h l : Nat) (w : World) (hh : h = O.hiW (O.numW a b + O.numW c d)) (hl : l = O.loW (O.numW a b + O.numW c d)) (hs : O.numW a b + O.numW c d < 340282366920938463463374607431768211456)
    (ha : a < 18446744073709551616) (hb : b < 18446744073709551616) (hc : c < 18446744073709551616) (hd : d < 18446744073709551616) :
    Calls Tryz.prog 130 #[.bool s, .agg #[.int .u64 (a : Int), .int .u64 (b : Int)], .bool s, .agg #[.int .u64 (c : Int), .int .u64 (d : Int)]] w fun e w' => e = .returned (.tuple #[.bool s, .agg #[.int .u64 (h : Int), .int .u64 (l : Int)]]) ∧ Below w.heap.size w w' := by
  have H := Lib.hid (SgH.start w a b c d 0 0)
  obtain ⟨f1, f2, f3, f4⟩ := H.out.facts
  have HA := Lib.hid (add_pt a b c d h l hh hl hs ha hb hc hd)
  clear hh hl hs ha hb hc hd
  cases s
  all_goals
    go_enter Tryz.func130, Tryz.ntmps130
    go_wp2_with (go_at_call 134; (with_reducible refine (HA.out _).mono ?_); rintro e w1 ⟨rfl, hb⟩; have H := Lib.hid (H.out.next hb); clear hb f1 f2 f3 f4; obtain ⟨k1, k2, k3, k4, k5, k6⟩ := H.out.res)
    have H := Lib.hid (H.out.next (bel_a w1 (.cells #[.int .u64 (h : Int), .int .u64 (l : Int)] 153)))
    clear k1 k2 k3 k4 k5 k6
    obtain ⟨k1, k2, k3, k4, _, _⟩ := H.out.res
    go_region
    go_wp2_with fail
    first
      | exact bodyPost_ret (ret_sg rfl rfl rfl (H.out.put h l).drew.rr) rfl ⟨rfl, (H.out.put h l).drew.bel⟩
      | exact bodyPost_ret (ret_sg rfl rfl rfl (H.out.drew.put h l).rr) rfl ⟨rfl, (H.out.drew.put h l).bel⟩
set_option maxHeartbeats 2000000 in
/-- Two numbers of unlike signs, the first one less. -/
theorem sg_less (s : Bool) (a b c d h l : Nat) (q : Int) (w : World) (hh : h = O.hiW (O.numW c d - O.numW a b)) (hl : l = O.loW (O.numW c d - O.numW a b)) (hq : q = O.cmpI (O.numW a b) (O.numW c d)) (hq1 : decide (q < 0) = true)
    (ha : a < 18446744073709551616) (hb : b < 18446744073709551616) (hc : c < 18446744073709551616) (hd : d < 18446744073709551616) :
    Calls Tryz.prog 130 #[.bool s, .agg #[.int .u64 (a : Int), .int .u64 (b : Int)], .bool (!s), .agg #[.int .u64 (c : Int), .int .u64 (d : Int)]] w fun e w' => e = .returned (.tuple #[.bool (!s), .agg #[.int .u64 (h : Int), .int .u64 (l : Int)]]) ∧ Below w.heap.size w w' := by
  have H := Lib.hid (SgH.start w a b c d 0 0)
  obtain ⟨f1, f2, f3, f4⟩ := H.out.facts
  have hle : O.numW a b ≤ O.numW c d := by
    have := hq ▸ hq1
    rw [lss_cmp] at this
    have := of_decide_eq_true this
    omega
  have HA := Lib.hid (sub_pt c d a b h l hh hl hle hc hd ha hb)
  have HC := Lib.hid (fun W => O.cmp_any a b c d W hb hd)
  rw [← hq] at HC
  clear hh hl hq hle ha hb hc hd
  cases s
  all_goals
    go_enter Tryz.func130, Tryz.ntmps130
    go_wp2_with (first
      | (go_at_call 121; (with_reducible refine (HC.out _).mono ?_); rintro e w0 ⟨rfl, hb⟩; have H := Lib.hid (H.out.next hb); clear hb f1 f2 f3 f4; obtain ⟨f1, f2, f3, f4⟩ := H.out.facts)
      | (go_at_call 135; (with_reducible refine (HA.out _).mono ?_); rintro e w1 ⟨rfl, hb⟩; have H := Lib.hid (H.out.next hb); clear hb f1 f2 f3 f4; obtain ⟨k1, k2, k3, k4, k5, k6⟩ := H.out.res))
    have H := Lib.hid (H.out.next (bel_a w1 (.cells #[.int .u64 (h : Int), .int .u64 (l : Int)] 153)))
    clear k1 k2 k3 k4 k5 k6
    obtain ⟨k1, k2, k3, k4, _, _⟩ := H.out.res
    go_region
    go_wp2_with fail
    first
      | exact bodyPost_ret (ret_sg rfl rfl rfl (H.out.put h l).drew.rr) rfl ⟨rfl, (H.out.put h l).drew.bel⟩
      | exact bodyPost_ret (ret_sg rfl rfl rfl (H.out.drew.put h l).rr) rfl ⟨rfl, (H.out.drew.put h l).bel⟩
set_option maxHeartbeats 2000000 in
/-- Two numbers of unlike signs, the second one no greater. -/
theorem sg_more (s : Bool) (a b c d h l : Nat) (q : Int) (w : World) (hh : h = O.hiW (O.numW a b - O.numW c d)) (hl : l = O.loW (O.numW a b - O.numW c d)) (hq : q = O.cmpI (O.numW a b) (O.numW c d)) (hq1 : decide (q < 0) = false)
    (ha : a < 18446744073709551616) (hb : b < 18446744073709551616) (hc : c < 18446744073709551616) (hd : d < 18446744073709551616) :
    Calls Tryz.prog 130 #[.bool s, .agg #[.int .u64 (a : Int), .int .u64 (b : Int)], .bool (!s), .agg #[.int .u64 (c : Int), .int .u64 (d : Int)]] w fun e w' => e = .returned (.tuple #[.bool (s), .agg #[.int .u64 (h : Int), .int .u64 (l : Int)]]) ∧ Below w.heap.size w w' := by
  have H := Lib.hid (SgH.start w a b c d 0 0)
  obtain ⟨f1, f2, f3, f4⟩ := H.out.facts
  have hle : O.numW c d ≤ O.numW a b := by
    have := hq ▸ hq1
    rw [lss_cmp] at this
    have := of_decide_eq_false this
    omega
  have HA := Lib.hid (sub_pt a b c d h l hh hl hle ha hb hc hd)
  have HC := Lib.hid (fun W => O.cmp_any a b c d W hb hd)
  rw [← hq] at HC
  clear hh hl hq hle ha hb hc hd
  cases s
  all_goals
    go_enter Tryz.func130, Tryz.ntmps130
    go_wp2_with (first
      | (go_at_call 121; (with_reducible refine (HC.out _).mono ?_); rintro e w0 ⟨rfl, hb⟩; have H := Lib.hid (H.out.next hb); clear hb f1 f2 f3 f4; obtain ⟨f1, f2, f3, f4⟩ := H.out.facts)
      | (go_at_call 135; (with_reducible refine (HA.out _).mono ?_); rintro e w1 ⟨rfl, hb⟩; have H := Lib.hid (H.out.next hb); clear hb f1 f2 f3 f4; obtain ⟨k1, k2, k3, k4, k5, k6⟩ := H.out.res))
    have H := Lib.hid (H.out.next (bel_a w1 (.cells #[.int .u64 (h : Int), .int .u64 (l : Int)] 153)))
    clear k1 k2 k3 k4 k5 k6
    obtain ⟨k1, k2, k3, k4, _, _⟩ := H.out.res
    go_region
    go_wp2_with fail
    first
      | exact bodyPost_ret (ret_sg rfl rfl rfl (H.out.put h l).drew.rr) rfl ⟨rfl, (H.out.put h l).drew.bel⟩
      | exact bodyPost_ret (ret_sg rfl rfl rfl (H.out.drew.put h l).rr) rfl ⟨rfl, (H.out.drew.put h l).bel⟩
theorem sv_add (a b : Bool) (A B : Nat) : (a = b → sv a A + sv b B = sv a (A + B)) ∧ (a = (!b) → A < B → sv a A + sv b B = sv b (B - A)) ∧ (a = (!b) → ¬ A < B → sv a A + sv b B = sv a (A - B)) := by
  cases a <;> cases b <;> simp [sv] <;> omega
theorem p_signed (s t : Bool) (a b c d : Nat) (w : World) (hs : O.numW a b + O.numW c d < 340282366920938463463374607431768211456) (ha : a < 18446744073709551616) (hb : b < 18446744073709551616) (hc : c < 18446744073709551616) (hd : d < 18446744073709551616) :
    Calls Tryz.prog 130 #[.bool s, .agg #[.int .u64 (a : Int), .int .u64 (b : Int)], .bool t, .agg #[.int .u64 (c : Int), .int .u64 (d : Int)]] w (SgE (sv s (O.numW a b) + sv t (O.numW c d)) w) := by
  have hv := sv_add s t (O.numW a b) (O.numW c d)
  by_cases h : s = t
  · subst h
    have e := hl_of _ hs
    rw [hv.1 rfl]
    exact (sg_same s a b c d _ _ w rfl rfl hs ha hb hc hd).mono fun _ _ ⟨he, hw⟩ => ⟨_, _, _, he, by rw [e.2.2], e.1, e.2.1, hw⟩
  · have h' : t = !s := by cases s <;> cases t <;> simp_all
    have h : s = !t := by rw [h']; simp
    by_cases hlt : O.numW a b < O.numW c d
    · have e := hl_of (O.numW c d - O.numW a b) (by omega)
      rw [hv.2.1 h hlt]
      subst h'
      exact (sg_less s a b c d _ _ _ w rfl rfl rfl (by rw [lss_cmp]; exact decide_eq_true hlt) ha hb hc hd).mono fun _ _ ⟨he, hw⟩ => ⟨_, _, _, he, by rw [e.2.2], e.1, e.2.1, hw⟩
    · have e := hl_of (O.numW a b - O.numW c d) (by omega)
      rw [hv.2.2 h hlt]
      subst h'
      exact (sg_more s a b c d _ _ _ w rfl rfl rfl (by rw [lss_cmp]; exact decide_eq_false hlt) ha hb hc hd).mono fun _ _ ⟨he, hw⟩ => ⟨_, _, _, he, by rw [e.2.2], e.1, e.2.1, hw⟩
end Go.Proofs.YtpobhegllhhdgaaGreat
namespace Go.Proofs.YtpobhegllhhdgaaGreat

theorem gcd_one_of {a b : Nat} (h : ∀ k, k ∣ a → k ∣ b → k = 1) : a.gcd b = 1 := h _ (Nat.gcd_dvd_left a b) (Nat.gcd_dvd_right a b)
theorem dvd_one {a b k : Nat} (h : a.gcd b = 1) (ha : k ∣ a) (hb : k ∣ b) : k = 1 := Nat.dvd_one.1 (h ▸ Nat.dvd_gcd ha hb)
/-- A number of one addend that shares nothing with e, and of one that e divides, shares nothing with e. -/
theorem cop_sum {n c e M : Nat} {S X Y : Int} (hS : S = X + Y) (hX : X.natAbs = n * c) (hY : Y.natAbs = M * e) (h1 : e.gcd c = 1) (h2 : n.gcd e = 1) : S.natAbs.gcd e = 1 := by
  refine gcd_one_of fun k hk he => ?_
  have a1 : (k : Int) ∣ S := Int.ofNat_dvd_left.2 hk
  have a2 : (k : Int) ∣ Y := Int.ofNat_dvd_left.2 (hY ▸ Nat.dvd_trans he (Nat.dvd_mul_left e M))
  have a3 : (k : Int) ∣ X := by
    have : X = S - Y := by omega
    rw [this]
    exact Int.dvd_sub a1 a2
  have a4 : k ∣ n * c := hX ▸ Int.ofNat_dvd_left.1 a3
  have a5 : Nat.Coprime k c := gcd_one_of fun j hj hc => dvd_one h1 (Nat.dvd_trans hj he) hc
  exact dvd_one h2 (a5.dvd_of_dvd_mul_right a4) he
theorem sv_nat (s : Bool) (n : Nat) : (sv s n).natAbs = n := by cases s <;> simp [sv]
theorem low_pos (z : Int) (D N Q : Nat) (hD : 0 < D) (s : Bool) (hs : sv s N = z) (P : Nat) (hP : P = N / N.gcd D) (hQ : Q = D / N.gcd D) : low z (D : Int) = fitI (sv s P) Q := by
  have e1 : z.natAbs = N := by rw [← hs, sv_nat]
  have e2 : lowN z (D : Int) = sv s P := by
    unfold lowN
    rw [e1, Int.natAbs_natCast, ← hP, decide_eq_false (show ¬ (D : Int) < 0 by omega)]
    by_cases hz : z < 0
    · rw [decide_eq_true hz]
      cases s
      · rw [sv_false] at hs; omega
      · rfl
    · rw [decide_eq_false hz]
      cases s
      · rfl
      · rw [sv_true] at hs
        have : N = 0 := by omega
        rw [hP, this]
        simp [sv]
  have e3 : lowD z (D : Int) = (Q : Int) := by
    unfold lowD
    rw [e1, Int.natAbs_natCast, ← hQ]
  unfold low fitI
  rw [e2, e3]
/-- A sum in lowest terms. -/
theorem low_sum (s t u : Bool) (n d m c g h N : Nat) (hd : 0 < d) (hc : 0 < c) (h1 : n.gcd d = 1) (h2 : m.gcd c = 1) (hg : g = d.gcd c) (hN : sv u N = sv s (n * (c / g)) + sv t (m * (d / g))) (hh : h = (N % g).gcd g) :
    low (sv s n * c + sv t m * d) ((d : Int) * c) = fitI (sv u (N / h)) (d / g * (c / h)) := by
  have hg0 : 0 < g := by rw [hg]; exact Nat.gcd_pos_of_pos_left _ hd
  obtain ⟨d', hd'⟩ : g ∣ d := hg ▸ Nat.gcd_dvd_left d c
  obtain ⟨c', hc'⟩ : g ∣ c := hg ▸ Nat.gcd_dvd_right d c
  have ed : d / g = d' := by rw [hd', Nat.mul_div_cancel_left _ hg0]
  have ec : c / g = c' := by rw [hc', Nat.mul_div_cancel_left _ hg0]
  have hcop : d'.gcd c' = 1 := by rw [← ed, ← ec, hg]; exact Nat.gcd_div_gcd_div_gcd_of_pos_left hd
  rw [ed, ec] at hN
  have hNS : N = (sv s (n * c') + sv t (m * d')).natAbs := by rw [← hN, sv_nat]
  have n1 : N.gcd d' = 1 := by
    rw [hNS]
    exact cop_sum (S := sv s (n * c') + sv t (m * d')) rfl (sv_nat _ _) (sv_nat _ _) hcop (gcd_one_of fun k ha hb => dvd_one h1 ha (hd' ▸ Nat.dvd_trans hb (Nat.dvd_mul_left _ _)))
  have n2 : N.gcd c' = 1 := by
    rw [hNS]
    exact cop_sum (S := sv s (n * c') + sv t (m * d')) (Int.add_comm _ _) (sv_nat _ _) (sv_nat _ _) (by rw [Nat.gcd_comm]; exact hcop) (gcd_one_of fun k ha hb => dvd_one h2 ha (hc' ▸ Nat.dvd_trans hb (Nat.dvd_mul_left _ _)))
  have hh2 : h = N.gcd g := by rw [hh, ← Nat.gcd_rec, Nat.gcd_comm]
  have hh0 : 0 < h := by rw [hh2]; exact Nat.gcd_pos_of_pos_right _ hg0
  obtain ⟨g', hg'⟩ : h ∣ g := hh2 ▸ Nat.gcd_dvd_right N g
  have eG : (g * N).gcd (d * c) = g * h := by
    rw [hd', show g * d' * c = g * (d' * c) by rw [Nat.mul_assoc], Nat.gcd_mul_left, hc', Nat.Coprime.gcd_mul_left_cancel_right (m := N) (k := d') _ (by rw [Nat.Coprime, Nat.gcd_comm]; exact n1),
      Nat.mul_comm g c', Nat.Coprime.gcd_mul_left_cancel_right (m := N) (k := c') _ (by rw [Nat.Coprime, Nat.gcd_comm]; exact n2), hh2]
  have e1 : sv s n * (c : Int) + sv t m * (d : Int) = sv u (g * N) := by
    have a : ∀ (b : Bool) (x y : Nat), sv b (x * y) = sv b x * (y : Int) := fun b x y => by cases b <;> simp [sv, Int.neg_mul]
    have b : ∀ (b : Bool) (x y : Nat), sv b (x * y) = (x : Int) * sv b y := fun b x y => by cases b <;> simp [sv, Int.mul_neg]
    rw [b, hN, hc', hd', a, a, Int.mul_add, Int.natCast_mul, Int.natCast_mul]
    congr 1
    · rw [← Int.mul_assoc, Int.mul_comm (sv s n), Int.mul_assoc]
    · rw [← Int.mul_assoc, Int.mul_comm (sv t m), Int.mul_assoc]
  rw [e1, show (d : Int) * (c : Int) = ((d * c : Nat) : Int) by rw [Int.natCast_mul]]
  refine low_pos _ _ (g * N) _ (Nat.mul_pos hd hc) u rfl _ ?_ ?_
  · rw [eG, Nat.mul_div_mul_left _ _ hg0]
  · rw [eG, ed]
    have : c = h * (g' * c') := by rw [hc', hg', Nat.mul_assoc]
    rw [this, Nat.mul_div_cancel_left _ hh0, hd', show g * d' * (h * (g' * c')) = (g * h) * (d' * (g' * c')) by
      rw [Nat.mul_assoc, Nat.mul_assoc, ← Nat.mul_assoc d', Nat.mul_comm d' h, Nat.mul_assoc], Nat.mul_div_cancel_left _ (Nat.mul_pos hg0 hh0)]
/-- A product in lowest terms. -/
theorem low_mulR (s t : Bool) (n d m c g h : Nat) (hd : 0 < d) (hc : 0 < c) (h1 : n.gcd d = 1) (h2 : m.gcd c = 1) (hg : g = n.gcd c) (hh : h = m.gcd d) :
    low (sv s n * sv t m) ((d : Int) * c) = fitI (sv (s != t) (n / g * (m / h))) (d / h * (c / g)) := by
  have hg0 : 0 < g := by rw [hg]; exact Nat.gcd_pos_of_pos_right _ hc
  have hh0 : 0 < h := by rw [hh]; exact Nat.gcd_pos_of_pos_right _ hd
  obtain ⟨n', hn'⟩ : g ∣ n := hg ▸ Nat.gcd_dvd_left n c
  obtain ⟨c', hc'⟩ : g ∣ c := hg ▸ Nat.gcd_dvd_right n c
  obtain ⟨m', hm'⟩ : h ∣ m := hh ▸ Nat.gcd_dvd_left m d
  obtain ⟨d', hd'⟩ : h ∣ d := hh ▸ Nat.gcd_dvd_right m d
  have en : n / g = n' := by rw [hn', Nat.mul_div_cancel_left _ hg0]
  have ec : c / g = c' := by rw [hc', Nat.mul_div_cancel_left _ hg0]
  have em : m / h = m' := by rw [hm', Nat.mul_div_cancel_left _ hh0]
  have ed : d / h = d' := by rw [hd', Nat.mul_div_cancel_left _ hh0]
  have k1 : n'.gcd c' = 1 := by rw [← en, ← ec, hg]; exact Nat.gcd_div_gcd_div_gcd_of_pos_right hc
  have k2 : m'.gcd d' = 1 := by rw [← em, ← ed, hh]; exact Nat.gcd_div_gcd_div_gcd_of_pos_right hd
  have k3 : n'.gcd d' = 1 := gcd_one_of fun k ha hb => dvd_one h1 (hn' ▸ Nat.dvd_trans ha (Nat.dvd_mul_left _ _)) (hd' ▸ Nat.dvd_trans hb (Nat.dvd_mul_left _ _))
  have k4 : m'.gcd c' = 1 := gcd_one_of fun k ha hb => dvd_one h2 (hm' ▸ Nat.dvd_trans ha (Nat.dvd_mul_left _ _)) (hc' ▸ Nat.dvd_trans hb (Nat.dvd_mul_left _ _))
  have k5 : (n' * m').gcd (d' * c') = 1 := by
    have a1 : Nat.Coprime n' (d' * c') := Nat.Coprime.mul_right k3 k1
    have a2 : Nat.Coprime m' (d' * c') := Nat.Coprime.mul_right k2 k4
    exact Nat.Coprime.mul_left a1 a2
  have eA : n * m = g * h * (n' * m') := by rw [hn', hm', Nat.mul_assoc, Nat.mul_assoc, ← Nat.mul_assoc n', Nat.mul_comm n' h, Nat.mul_assoc]
  have eB : d * c = g * h * (d' * c') := by rw [hd', hc', Nat.mul_comm g h, Nat.mul_assoc, Nat.mul_assoc, ← Nat.mul_assoc d', Nat.mul_comm d' g, Nat.mul_assoc]
  have eG : (n * m).gcd (d * c) = g * h := by rw [eA, eB, Nat.gcd_mul_left, k5, Nat.mul_one]
  have hgh : 0 < g * h := Nat.mul_pos hg0 hh0
  have e1 : sv s n * sv t m = sv (s != t) (n * m) := by cases s <;> cases t <;> simp [sv, Int.neg_mul, Int.mul_neg]
  rw [e1, show (d : Int) * (c : Int) = ((d * c : Nat) : Int) by rw [Int.natCast_mul]]
  refine low_pos _ _ (n * m) _ (Nat.mul_pos hd hc) (s != t) rfl _ ?_ ?_
  · rw [eG, en, em, eA, Nat.mul_div_cancel_left _ hgh]
  · rw [eG, ed, ec, eB, Nat.mul_div_cancel_left _ hgh]
end Go.Proofs.YtpobhegllhhdgaaGreat
namespace Go.Proofs.YtpobhegllhhdgaaGreat
open Go.RowKit

/-- Two fractions in boxes, the answer's box, and boxes behind them that are yet empty. -/
structure SuH (L : List Nat) (w W : World) (s : Bool) (n d : Nat) (t : Bool) (m c : Nat) : Prop where
  x : Pt W w.heap.size s n d
  y : Pt W (w.heap.size + 1) t m c
  rr : Rt W (w.heap.size + 1 + 1) 0 0
  bxs : ∀ g ∈ L, w.heap.size + 1 + 1 < g ∧ O.Box W g 0 0
  bel : Below w.heap.size w W
/-- Two fractions in boxes, the answer's box, and a number in a box behind them. -/
structure SvH (w W : World) (s : Bool) (n d : Nat) (t : Bool) (m c : Nat) (G a b : Nat) (p q : Int) : Prop where
  x : Pt W w.heap.size s n d
  y : Pt W (w.heap.size + 1) t m c
  rr : Rt W (w.heap.size + 1 + 1) p q
  hG : w.heap.size + 1 + 1 < G
  b : O.Box W G a b
  bel : Below w.heap.size w W
section
variable {w W W' : World} {s t : Bool} {n d m c G a b : Nat} {L : List Nat} {p q : Int}
theorem Box.bel {w w' : World} {g a b : Nat} (h : O.Box w g a b) (hb : Below w.heap.size w w') : O.Box w' g a b := h.below hb h.lt
theorem SuH.start (w : World) (s : Bool) (n d : Nat) (t : Bool) (m c : Nat) : SuH [] w (((w.alloc (.cells #[.bool s, .int .u64 (n : Int), .int .u64 (d : Int)] 138)).alloc (.cells #[.bool t, .int .u64 (m : Int), .int .u64 (c : Int)] 138)).alloc (.cells #[.int .i64 0, .int .i64 0] 24)) s n d t m c :=
  ⟨((Pt.new w s n d).alloc _).alloc _, (Pt.newg (by simp)).alloc _, Rt.newg (by simp), fun _ h => by simp at h, bel_tr (bel_tr (bel_a w _) (bel_a _ _)) (bel_a _ _)⟩
theorem SuH.next (h : SuH L w W s n d t m c) (hb : Below W.heap.size W W') : SuH L w W' s n d t m c := ⟨h.x.bel hb, h.y.bel hb, h.rr.bel hb, fun g hg => ⟨(h.bxs g hg).1, Box.bel (h.bxs g hg).2 hb⟩, bel_tr h.bel hb⟩
theorem SuH.drew (h : SuH L w W s n d t m c) : SuH L w W.drew s n d t m c := ⟨h.x, h.y, h.rr, h.bxs, h.bel.drew⟩
theorem SuH.alloc (h : SuH L w W s n d t m c) : SuH (W.heap.size :: L) w (W.alloc (.cells #[.int .u64 0, .int .u64 0] 153)) s n d t m c :=
  ⟨h.x.alloc _, h.y.alloc _, h.rr.alloc _, fun g hg => by
    rcases List.mem_cons.1 hg with rfl | hg
    · exact ⟨h.rr.lt, O.Box.new W 0 0⟩
    · exact ⟨(h.bxs g hg).1, (h.bxs g hg).2.alloc _⟩, bel_tr h.bel (bel_a _ _)⟩
theorem SuH.facts (h : SuH L w W s n d t m c) : W.cell? ⟨w.heap.size, 0, none⟩ = some (.bool s) ∧ W.cell? ⟨w.heap.size, 1, none⟩ = some (.int .u64 (n : Int)) ∧ W.cell? ⟨w.heap.size, 2, none⟩ = some (.int .u64 (d : Int)) ∧
    W.cell? ⟨w.heap.size + 1, 0, none⟩ = some (.bool t) ∧ W.cell? ⟨w.heap.size + 1, 1, none⟩ = some (.int .u64 (m : Int)) ∧ W.cell? ⟨w.heap.size + 1, 2, none⟩ = some (.int .u64 (c : Int)) := ⟨h.x.c0, h.x.c1, h.x.c2, h.y.c0, h.y.c1, h.y.c2⟩
theorem SuH.fs (h : SuH L w W s n d t m c) : ∀ g ∈ L, W.cell? ⟨g, 0, none⟩ = some (.int .u64 0) ∧ W.cell? ⟨g, 1, none⟩ = some (.int .u64 0) ∧ W.frozen? ⟨g, 0, none⟩ = false ∧ W.frozen? ⟨g, 1, none⟩ = false := fun g hg =>
  have hB := (h.bxs g hg).2
  ⟨hB.c0, hB.c1, hB.fr 0, hB.fr 1⟩
theorem SuH.finA (h : SuH L w W s n d t m c) (a b : Nat) : SvH w (W.alloc (.cells #[.int .u64 (a : Int), .int .u64 (b : Int)] 153)) s n d t m c W.heap.size a b 0 0 :=
  ⟨h.x.alloc _, h.y.alloc _, h.rr.alloc _, h.rr.lt, O.Box.new W a b, bel_tr h.bel (bel_a _ _)⟩
theorem Pt.far2 {W : World} {G g : Nat} {x y : Value} (h : Pt W G s n d) (hg : G ≠ g) : Pt ((W.setCell ⟨g, 0, none⟩ x).setCell ⟨g, 1, none⟩ y) G s n d := (h.far hg _).far hg _
theorem SuH.finB (h : SuH L w W s n d t m c) (hg : G ∈ L) (a b : Nat) : SvH w ((W.setCell ⟨G, 0, none⟩ (.int .u64 (a : Int))).setCell ⟨G, 1, none⟩ (.int .u64 (b : Int))) s n d t m c G a b 0 0 :=
  have hB := (h.bxs G hg).2
  have hl := (h.bxs G hg).1
  ⟨h.x.far2 (by omega), h.y.far2 (by omega), h.rr.far2 (by omega), hl, (hB.set0 a).set1 b, bel_set (bel_set h.bel (by omega) _ _) (by omega) _ _⟩
theorem SvH.next (h : SvH w W s n d t m c G a b p q) (hb : Below W.heap.size W W') : SvH w W' s n d t m c G a b p q := ⟨h.x.bel hb, h.y.bel hb, h.rr.bel hb, h.hG, Box.bel h.b hb, bel_tr h.bel hb⟩
theorem SvH.drew (h : SvH w W s n d t m c G a b p q) : SvH w W.drew s n d t m c G a b p q := ⟨h.x, h.y, h.rr, h.hG, h.b, h.bel.drew⟩
theorem SvH.put (h : SvH w W s n d t m c G a b p q) (x y : Nat) : SvH w ((W.setCell ⟨G, 0, none⟩ (.int .u64 (x : Int))).setCell ⟨G, 1, none⟩ (.int .u64 (y : Int))) s n d t m c G x y p q :=
  have hl := h.hG
  ⟨h.x.far2 (by omega), h.y.far2 (by omega), h.rr.far2 (by omega), hl, (h.b.set0 x).set1 y, bel_set (bel_set h.bel (by omega) _ _) (by omega) _ _⟩
theorem Box.far2 {W : World} {G g : Nat} {x y : Value} (h : O.Box W G a b) (hg : G ≠ g) : O.Box ((W.setCell ⟨g, 0, none⟩ x).setCell ⟨g, 1, none⟩ y) G a b := (h.far hg _).far hg _
theorem SvH.res (h : SvH w W s n d t m c G a b p q) (x y : Int) : SvH w ((W.setCell ⟨w.heap.size + 1 + 1, 0, none⟩ (.int .i64 x)).setCell ⟨w.heap.size + 1 + 1, 1, none⟩ (.int .i64 y)) s n d t m c G a b x y :=
  have hl := h.hG
  ⟨h.x.far2 (by omega), h.y.far2 (by omega), (h.rr.set0 x).set1 y, hl, Box.far2 h.b (by omega), bel_set (bel_set h.bel (by omega) _ _) (by omega) _ _⟩
theorem SvH.facts (h : SvH w W s n d t m c G a b p q) : W.cell? ⟨w.heap.size, 2, none⟩ = some (.int .u64 (d : Int)) ∧ W.cell? ⟨w.heap.size + 1, 2, none⟩ = some (.int .u64 (c : Int)) ∧ W.cell? ⟨G, 0, none⟩ = some (.int .u64 (a : Int)) ∧ W.cell? ⟨G, 1, none⟩ = some (.int .u64 (b : Int)) := ⟨h.x.c2, h.y.c2, h.b.c0, h.b.c1⟩
theorem SvH.facts6 (h : SvH w W s n d t m c G a b p q) : W.cell? ⟨w.heap.size, 0, none⟩ = some (.bool s) ∧ W.cell? ⟨w.heap.size, 1, none⟩ = some (.int .u64 (n : Int)) ∧ W.cell? ⟨w.heap.size, 2, none⟩ = some (.int .u64 (d : Int)) ∧
    W.cell? ⟨w.heap.size + 1, 0, none⟩ = some (.bool t) ∧ W.cell? ⟨w.heap.size + 1, 1, none⟩ = some (.int .u64 (m : Int)) ∧ W.cell? ⟨w.heap.size + 1, 2, none⟩ = some (.int .u64 (c : Int)) := ⟨h.x.c0, h.x.c1, h.x.c2, h.y.c0, h.y.c1, h.y.c2⟩
theorem SvH.frs (h : SvH w W s n d t m c G a b p q) : W.frozen? ⟨G, 0, none⟩ = false ∧ W.frozen? ⟨G, 1, none⟩ = false ∧ ¬ G = W.heap.size ∧ ¬ W.heap.size = G := ⟨h.b.fr 0, h.b.fr 1, by have := h.b.lt; omega, by have := h.b.lt; omega⟩
theorem SvH.ans (h : SvH w W s n d t m c G a b p q) : W.cell? ⟨w.heap.size + 1 + 1, 0, none⟩ = some (.int .i64 p) ∧ W.cell? ⟨w.heap.size + 1 + 1, 1, none⟩ = some (.int .i64 q) ∧ W.frozen? ⟨w.heap.size + 1 + 1, 0, none⟩ = false ∧ W.frozen? ⟨w.heap.size + 1 + 1, 1, none⟩ = false := ⟨h.rr.c0, h.rr.c1, h.rr.fr 0, h.rr.fr 1⟩
end
theorem mul_pt (x y h l : Nat) (hh : h = O.pHi x y) (hl : l = O.pLo x y) (hx : x < 18446744073709551616) (hy : y < 18446744073709551616) (w : World) : Calls Tryz.prog 120 #[.int .u64 (x : Int), .int .u64 (y : Int)] w fun e w' => e = .returned (.agg #[.int .u64 (h : Int), .int .u64 (l : Int)]) ∧ Below w.heap.size w w' := by
  subst hh hl
  exact O.mul_any x y w hx hy
theorem mul_num {x y : Nat} : O.numW (O.pHi x y) (O.pLo x y) = x * y := by unfold O.numW O.pHi O.pLo; omega
theorem mul_lim {x y : Nat} (hx : x < 18446744073709551616) (hy : y < 18446744073709551616) : O.pHi x y < 18446744073709551616 ∧ O.pLo x y < 18446744073709551616 := by
  refine ⟨?_, Nat.mod_lt _ (by decide)⟩
  unfold O.pHi
  rw [Nat.div_lt_iff_lt_mul (by decide)]
  exact Nat.mul_lt_mul_of_lt_of_le hx (Nat.le_of_lt hy) (by decide)
theorem div_pt (a b g h l r : Nat) (hh : h = O.hiW (O.numW a b / g)) (hl : l = O.loW (O.numW a b / g)) (hr : r = O.numW a b % g) (h0 : 0 < g) (ha : a < 18446744073709551616) (hb : b < 18446744073709551616) (hg : g < 18446744073709551616) (w : World) :
    Calls Tryz.prog 131 #[.agg #[.int .u64 (a : Int), .int .u64 (b : Int)], .int .u64 (g : Int)] w fun e w' => e = .returned (.tuple #[.agg #[.int .u64 (h : Int), .int .u64 (l : Int)], .int .u64 (r : Int), .int .i64 0]) ∧ Below w.heap.size w w' :=
  (O.div_any a b g w hb ha hg).mono fun _ _ ⟨x, y, z, k, he, hf, hw⟩ => by
    rcases hf with ⟨h1, _⟩ | ⟨_, h1, h2, h3, h4⟩
    · omega
    · exact ⟨by rw [he, h1, h2, h3, h4, hh, hl, hr], hw⟩
end Go.Proofs.YtpobhegllhhdgaaGreat

namespace Go.Proofs.YtpobhegllhhdgaaGreat
open Go.RowKit

set_option linter.unusedSimpArgs false in
set_option maxHeartbeats 8000000 in
theorem sum_core (s t : Bool) (n d m c g d' c' h1 l1 h2 l2 : Nat) (S p q k : Int) (w : World) (hd : 0 < d) (hc : 0 < c) (hdl : d < 9223372036854775808) (hcl : c < 9223372036854775808)
    (hg : g = d.gcd c) (hd' : d' = d / g) (hc' : c' = c / g) (hh1 : h1 = O.pHi n c') (hl1 : l1 = O.pLo n c') (hh2 : h2 = O.pHi m d') (hl2 : l2 = O.pLo m d') (hn : n ≤ 9223372036854775808) (hm : m ≤ 9223372036854775808)
    (hS : S = sv s (n * c') + sv t (m * d')) (hr : ∀ u N, sv u N = S → (p, q, k) = fitI (sv u (N / (N % g).gcd g)) (d' * (c / (N % g).gcd g))) :
    Calls Tryz.prog 125 #[.agg #[.bool s, .int .u64 (n : Int), .int .u64 (d : Int)], .agg #[.bool t, .int .u64 (m : Int), .int .u64 (c : Int)]] w (RatE (p, q, k) w) := by
  have hg0 : 0 < g := by rw [hg]; exact Nat.gcd_pos_of_pos_right _ hc
  have hgl : g < 9223372036854775808 := by rw [hg]; exact Nat.lt_of_le_of_lt (Nat.gcd_le_left _ hd) hdl
  have hdl' : d' < 9223372036854775808 := by rw [hd']; exact Nat.lt_of_le_of_lt (Nat.div_le_self _ _) hdl
  have hcl' : c' < 9223372036854775808 := by rw [hc']; exact Nat.lt_of_le_of_lt (Nat.div_le_self _ _) hcl
  have HG := Lib.hid (fun W => p_gcd d c W (by omega) (by omega))
  rw [← hg] at HG
  have HM1 := Lib.hid (mul_pt n c' h1 l1 hh1 hl1 (by omega) (by omega))
  have HM2 := Lib.hid (mul_pt m d' h2 l2 hh2 hl2 (by omega) (by omega))
  have m1 := mul_lim (x := n) (y := c') (by omega) (by omega)
  have m2 := mul_lim (x := m) (y := d') (by omega) (by omega)
  have e1 : O.numW h1 l1 = n * c' := by rw [hh1, hl1, mul_num]
  have e2 : O.numW h2 l2 = m * d' := by rw [hh2, hl2, mul_num]
  have HS := Lib.hid (fun W => p_signed s t h1 l1 h2 l2 W (by
    rw [e1, e2]
    have x1 := Nat.mul_le_mul hn (Nat.le_of_lt hcl')
    have x2 := Nat.mul_le_mul hm (Nat.le_of_lt hdl')
    omega) (by rw [hh1]; exact m1.1) (by rw [hl1]; exact m1.2) (by rw [hh2]; exact m2.1) (by rw [hl2]; exact m2.2))
  rw [e1, e2, ← hS] at HS
  have F1 : (c : Int) / (g : Int) = (c' : Int) := by rw [hc']; simp
  have F2 : (d : Int) / (g : Int) = (d' : Int) := by rw [hd']; simp
  have F3 : IntKind.u64.wrap (c' : Int) = (c' : Int) := wrap_nat rfl (by omega)
  have F4 : IntKind.u64.wrap (d' : Int) = (d' : Int) := wrap_nat rfl (by omega)
  have hgz : ¬ (g : Int) = 0 := by omega
  have hgz2 : ¬ g = 0 := by omega
  have F5 : (c : Int).tdiv (g : Int) = (c' : Int) := by rw [Int.tdiv_eq_ediv_of_nonneg (Int.natCast_nonneg _), F1]
  have F6 : (d : Int).tdiv (g : Int) = (d' : Int) := by rw [Int.tdiv_eq_ediv_of_nonneg (Int.natCast_nonneg _), F2]
  have HK := Lib.hid (And.intro hg0 (And.intro hgl (And.intro hdl' (And.intro hcl hr))))
  have H := Lib.hid (SuH.start w s n d t m c)
  obtain ⟨f1, f2, f3, f4, f5, f6⟩ := H.out.facts
  clear hg hd' hc' hh1 hl1 hh2 hl2 hn hm hS hr hg0 hgl hdl' hcl' m1 m2 e1 e2 hd hc hdl hcl
  go_enter Tryz.func125, Tryz.ntmps125
  go_upto_region 2 with (go_at_call 76; (with_reducible refine (HG.out _).mono ?_); rintro e w1 ⟨rfl, rfl⟩)
  go_cut [7, 8] from 18 to 40 (fun a b wx => ∃ (u : Bool) (G x y : Nat), a = .bool u ∧ b = .pointer (some ⟨G, 0, none⟩) ∧ SvH w wx s n d t m c G x y 0 0 ∧ sv u (O.numW x y) = S ∧ x < 18446744073709551616 ∧ y < 18446744073709551616)
  case first =>
    go_region_held3 (fun w' => w'.cell? ⟨w.heap.size, 0, none⟩ = some (.bool s) ∧ w'.cell? ⟨w.heap.size, 1, none⟩ = some (.int .u64 (n : Int)) ∧ w'.cell? ⟨w.heap.size, 2, none⟩ = some (.int .u64 (d : Int)) ∧
        w'.cell? ⟨w.heap.size + 1, 0, none⟩ = some (.bool t) ∧ w'.cell? ⟨w.heap.size + 1, 1, none⟩ = some (.int .u64 (m : Int)) ∧ w'.cell? ⟨w.heap.size + 1, 2, none⟩ = some (.int .u64 (c : Int)))
      (first | with_reducible exact H.out.facts | with_reducible exact H.out.drew.facts | with_reducible exact H.out.alloc.facts | with_reducible exact H.out.alloc.drew.facts | with_reducible exact H.out.drew.alloc.facts | with_reducible exact (H.out.finA x y).facts6 | with_reducible exact (H.out.finB (by simp [size_a]) x y).facts6 | go_keep)
      (first
        | (go_at_call 120; (with_reducible refine (HM1.out _).mono ?_); rintro e w2 ⟨rfl, hb⟩; (first | (with_reducible have H := Lib.hid (H.out.next hb)) | (with_reducible have H := Lib.hid (H.out.drew.next hb)) | (with_reducible have H := Lib.hid (H.out.alloc.next hb)) | (with_reducible have H := Lib.hid (H.out.alloc.drew.next hb)) | (with_reducible have H := Lib.hid (H.out.drew.alloc.next hb))); clear hb)
        | (go_at_call 120; (with_reducible refine (HM2.out _).mono ?_); rintro e w3 ⟨rfl, hb⟩; (first | (with_reducible have H := Lib.hid (H.out.next hb)) | (with_reducible have H := Lib.hid (H.out.drew.next hb)) | (with_reducible have H := Lib.hid (H.out.alloc.next hb)) | (with_reducible have H := Lib.hid (H.out.alloc.drew.next hb)) | (with_reducible have H := Lib.hid (H.out.drew.alloc.next hb))); clear hb)
        | (go_at_call 130; (with_reducible refine (HS.out _).mono ?_); rintro e w4 ⟨u, x, y, rfl, hv, hx, hy, hb⟩; (first | (with_reducible have H := Lib.hid (H.out.next hb)) | (with_reducible have H := Lib.hid (H.out.drew.next hb)) | (with_reducible have H := Lib.hid (H.out.alloc.next hb)) | (with_reducible have H := Lib.hid (H.out.alloc.drew.next hb)) | (with_reducible have H := Lib.hid (H.out.drew.alloc.next hb))); have HV := Lib.hid (And.intro hv (And.intro hx hy)); clear hb hv hx hy; have hfs := H.out.fs; simp only [List.forall_mem_cons, List.not_mem_nil, false_implies, implies_true, and_true, size_a] at hfs))
    all_goals
      go_wp2_with fail
      go_meet
      refine ⟨u, _, x, y, rfl, rfl, ?_, HV.out.1, HV.out.2.1, HV.out.2.2⟩
      first
        | with_reducible exact H.out.finA x y
        | with_reducible exact H.out.finB (by simp [size_a]) x y
        | trace_state
  case rest =>
    obtain ⟨u, G, x, y, rfl, rfl, hL, hv, hx, hy⟩ := hcut
    obtain ⟨W0, hW0⟩ : ∃ W, W = wc := ⟨_, rfl⟩
    subst wc
    obtain ⟨hg0, hgl, hdl', hcl, hr⟩ := HK.out
    obtain ⟨N, hN⟩ : ∃ N, N = O.numW x y := ⟨_, rfl⟩
    rw [← hN] at hv
    have hr2 := hr u N hv
    obtain ⟨r, hrr⟩ : ∃ r, r = N % g := ⟨_, rfl⟩
    rw [← hrr] at hr2
    obtain ⟨h, hh⟩ : ∃ h, h = r.gcd g := ⟨_, rfl⟩
    rw [← hh] at hr2
    have hrl : r < 9223372036854775808 := by rw [hrr]; exact Nat.lt_trans (Nat.mod_lt _ hg0) hgl
    have hh0 : 0 < h := by rw [hh]; exact Nat.gcd_pos_of_pos_right _ hg0
    have hhl : h < 9223372036854775808 := by rw [hh]; exact Nat.lt_of_le_of_lt (Nat.gcd_le_right _ hg0) hgl
    have HD1 := Lib.hid (div_pt x y g _ _ r rfl rfl (by rw [hrr, hN]) hg0 hx hy (by omega))
    have HG2 := Lib.hid (fun W => p_gcd r g W (by omega) (by omega))
    rw [← hh] at HG2
    obtain ⟨a1, ha1⟩ : ∃ a, a = O.hiW (O.numW x y / g) := ⟨_, rfl⟩
    obtain ⟨b1, hb1⟩ : ∃ a, a = O.loW (O.numW x y / g) := ⟨_, rfl⟩
    rw [← ha1, ← hb1] at HD1
    obtain ⟨a2, ha2⟩ : ∃ a, a = O.hiW (O.numW x y / h) := ⟨_, rfl⟩
    obtain ⟨b2, hb2⟩ : ∃ a, a = O.loW (O.numW x y / h) := ⟨_, rfl⟩
    obtain ⟨r2, hr3⟩ : ∃ a, a = O.numW x y % h := ⟨_, rfl⟩
    have HD2 := Lib.hid (div_pt x y h a2 b2 r2 ha2 hb2 hr3 hh0 hx hy (by omega))
    obtain ⟨ch, hch⟩ : ∃ a, a = c / h := ⟨_, rfl⟩
    have hchl : ch < 9223372036854775808 := by rw [hch]; exact Nat.lt_of_le_of_lt (Nat.div_le_self _ _) hcl
    obtain ⟨h3, hh3⟩ : ∃ a, a = O.pHi d' ch := ⟨_, rfl⟩
    obtain ⟨l3, hl3⟩ : ∃ a, a = O.pLo d' ch := ⟨_, rfl⟩
    have HM := Lib.hid (mul_pt d' ch h3 l3 hh3 hl3 (by omega) (by omega))
    have m3 := mul_lim (x := d') (y := ch) (by omega) (by omega)
    have e3 : O.numW h3 l3 = d' * ch := by rw [hh3, hl3, mul_num]
    have hNl : O.numW x y / h < 340282366920938463463374607431768211456 := Nat.lt_of_le_of_lt (Nat.div_le_self _ _) (by unfold O.numW; omega)
    have e2 := hl_of _ hNl
    rw [← ha2, ← hb2, ← hN] at e2
    have HF := Lib.hid (p_fit_pt u a2 b2 h3 l3 p q k (by rw [e2.2.2, e3, hch]; exact hr2) e2.2.1 (by rw [hl3]; exact m3.2))
    have F7 : (c : Int) / (h : Int) = (ch : Int) := by rw [hch]; simp
    have F8 : IntKind.u64.wrap (ch : Int) = (ch : Int) := wrap_nat rfl (by omega)
    have F9 : (c : Int).tdiv (h : Int) = (ch : Int) := by rw [Int.tdiv_eq_ediv_of_nonneg (Int.natCast_nonneg _), F7]
    have hhz : ¬ (h : Int) = 0 := by omega
    have hhz2 : ¬ h = 0 := by omega
    have H := Lib.hid hL
    clear hL hv hx hy hg0 hgl hdl' hcl hr hN hr2 hrr hh hrl hh0 hhl ha1 hb1 ha2 hb2 hr3 hch hchl hh3 hl3 m3 e3 hNl e2 f1 f2 f3 f4 f5 f6
    obtain ⟨f1, f2, f3, f4⟩ := H.out.facts
    go_wp2_with (first
      | (go_at_call 131; (with_reducible refine (HD1.out _).mono ?_); rintro e w5 ⟨rfl, hb⟩; have H := Lib.hid ((H.out.next hb).next (bel_a w5 (.cells #[.int .u64 (a1 : Int), .int .u64 (b1 : Int)] 153))); clear hb f1 f2 f3 f4; obtain ⟨f1, f2, f3, f4⟩ := H.out.facts)
      | (go_at_call 76; (with_reducible refine (HG2.out _).mono ?_); rintro e w6 ⟨rfl, rfl⟩)
      | (go_at_call 131; (with_reducible refine (HD2.out _).mono ?_); rintro e w7 ⟨rfl, hb⟩; have H := Lib.hid (H.out.next hb); clear hb f1 f2 f3 f4; obtain ⟨f1, f2, f3, f4⟩ := H.out.facts; obtain ⟨k1, k2, k3, k4⟩ := H.out.frs))
    clear f1 f2 f3 f4 k1 k2 k3 k4
    have H := Lib.hid (H.out.put a2 b2)
    obtain ⟨f1, f2, f3, f4⟩ := H.out.facts
    go_region_held3 (fun w' => w'.cell? ⟨w.heap.size, 2, none⟩ = some (.int .u64 (d : Int)) ∧ w'.cell? ⟨w.heap.size + 1, 2, none⟩ = some (.int .u64 (c : Int)) ∧ w'.cell? ⟨G, 0, none⟩ = some (.int .u64 (a2 : Int)) ∧ w'.cell? ⟨G, 1, none⟩ = some (.int .u64 (b2 : Int)))
      (first | with_reducible exact H.out.facts | with_reducible exact H.out.drew.facts | with_reducible exact (H.out.res p q).facts | go_keep)
      (first
        | (go_at_call 120; (with_reducible refine (HM.out _).mono ?_); rintro e w8 ⟨rfl, hb⟩; (first | (with_reducible have H := Lib.hid (H.out.next hb)) | (with_reducible have H := Lib.hid (H.out.drew.next hb))); clear hb)
        | (go_at_call 132; (with_reducible refine (HF.out _).mono ?_); rintro e w9 ⟨rfl, hb⟩; (first | (with_reducible have H := Lib.hid (H.out.next hb)) | (with_reducible have H := Lib.hid (H.out.drew.next hb))); clear hb; obtain ⟨k1, k2, k3, k4⟩ := H.out.ans))
    all_goals
      go_wp2_with fail
      exact bodyPost_ret (ret_rt_2 rfl rfl rfl (H.out.res p q).rr) rfl ⟨rfl, (H.out.res p q).bel⟩
end Go.Proofs.YtpobhegllhhdgaaGreat
