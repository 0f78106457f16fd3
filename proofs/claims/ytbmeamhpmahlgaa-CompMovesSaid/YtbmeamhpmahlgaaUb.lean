/- Proved here: what Move answers: in the program and in the document. No condition. -/
import Derived.Test.YtbmeamhpmahlgaaUa
namespace Go.Proofs.Ytbmeamhpmahlgaa
open Go.RowKit

/-- The nearest whole number of n 2^14ths. -/
def rn (n : Int) : Int := (n + 8192) / 16384
theorem mul_bd {a x : Int} (ha : -32768 ≤ a ∧ a ≤ 32767) (hx : -32767 ≤ x ∧ x ≤ 32767) : -1073741824 ≤ a * x ∧ a * x ≤ 1073741824 := by
  have h1 : (a * x).natAbs = a.natAbs * x.natAbs := Int.natAbs_mul a x
  have h2 : a.natAbs * x.natAbs ≤ 32768 * 32768 := Nat.mul_le_mul (by omega) (by omega)
  omega
theorem turn_same {f : FuncId} {args : Array Value} {w : World} {v : Ending} (h : Calls Try.prog f args w fun e w' => e = v ∧ w = w') : Calls Try.prog f args w fun e w' => e = v ∧ w' = w := h.mono fun _ _ ⟨h1, h2⟩ => ⟨h1, h2.symm⟩
set_option maxHeartbeats 1000000 in
set_option maxRecDepth 100000 in
theorem nearest_any (n : Int) (w : World) (h : -2147483648 ≤ n ∧ n ≤ 2147483648) : Calls Try.prog 33 #[.int .i64 n] w fun e w' => e = .returned (.int .i64 (rn n)) ∧ w = w' := by
  have e1 : IntKind.i64.wrap (n + 8192) = n + 8192 := i64_in _ (by omega)
  have hr : rn n = (n + 8192) / 16384 := rfl
  obtain ⟨m, hm⟩ : ∃ m, m = n + 8192 := ⟨_, rfl⟩
  rw [← hm] at e1 hr
  rw [hr]
  have e2 : n + 8192 = m := hm.symm
  have hb : -2147483648 ≤ m ∧ m ≤ 2147500000 := by omega
  clear h hm hr
  go_enter Try.func33, Try.ntmps33
  go_wp2_with fail
  go_ret
  exact ⟨rfl, rfl⟩
set_option maxHeartbeats 1000000 in
set_option maxRecDepth 100000 in
theorem rround_any (n : Int) (w : World) (h : -2147483648 ≤ n ∧ n ≤ 2147483648) : Calls Try.prog 35 #[.int .i64 n] w fun e w' => e = .returned (.int .i64 (rn n)) ∧ w = w' := by
  have e1 : IntKind.i64.wrap (n + 8192) = n + 8192 := i64_in _ (by omega)
  have hr : rn n = (n + 8192) / 16384 := rfl
  obtain ⟨m, hm⟩ : ∃ m, m = n + 8192 := ⟨_, rfl⟩
  rw [← hm] at e1 hr
  have e2 : n + 8192 = m := hm.symm
  obtain ⟨q, hq⟩ : ∃ q, q = m.tdiv 16384 := ⟨_, rfl⟩
  obtain ⟨t, ht⟩ : ∃ t, t = m.tmod 16384 := ⟨_, rfl⟩
  have hdm : 16384 * q + t = m := by rw [hq, ht]; exact Int.mul_tdiv_add_tmod m 16384
  have htn : (0 ≤ m → 0 ≤ t ∧ t < 16384) ∧ (m ≤ 0 → -16384 < t ∧ t ≤ 0) := by
    refine ⟨fun h0 => ?_, fun h0 => ?_⟩
    · rw [ht]; exact ⟨Int.tmod_nonneg _ h0, Int.tmod_lt_of_pos _ (by omega)⟩
    · have h3 : (-m).tmod 16384 = -(m.tmod 16384) := Int.neg_tmod m 16384
      have h4 := Int.tmod_nonneg (a := -m) 16384 (by omega)
      have h5 := Int.tmod_lt_of_pos (-m) (b := 16384) (by omega)
      omega
  have w1 : IntKind.i64.wrap (m.tdiv 16384) = m.tdiv 16384 := i64_in _ (by omega)
  have w2 : IntKind.i64.wrap (m.tmod 16384) = m.tmod 16384 := i64_in _ (by omega)
  have w3 : IntKind.i64.wrap (m.tdiv 16384 - 1) = m.tdiv 16384 - 1 := i64_in _ (by omega)
  have hqb : -2147483648 ≤ q ∧ q ≤ 2147483648 := by omega
  have HQ := Lib.hid hq
  have h00 : m.tmod 16384 = t := ht.symm
  by_cases h0 : m.tmod 16384 < 0
  · have hR : rn n = q - 1 := by rw [hr]; omega
    rw [hR]
    clear h hm hr hdm htn hR h00 hq ht
    go_enter Try.func35, Try.ntmps35
    go_wp2_with fail
    go_ret
    exact ⟨by rw [HQ.out]; rfl, rfl⟩
  · have hR : rn n = q := by rw [hr]; omega
    rw [hR]
    clear h hm hr hdm htn hR h00 hq ht
    go_enter Try.func35, Try.ntmps35
    go_wp2_with fail
    go_ret
    exact ⟨by rw [HQ.out]; rfl, rfl⟩
/-- What Move answers. -/
def mvR (p : Prt) (x y : Int) : Int × Int := (rn (p.2.2.2.1 * x + p.2.2.2.2.2.1 * y) + p.2.1, rn (p.2.2.2.2.1 * x + p.2.2.2.2.2.2 * y) + p.2.2.1)
def mvA (p : Prt) (x y : Int) : Int × Int × Int := if ¬ (okP p 1024 ∧ okU x ∧ okU y) then (0, 0, 1) else if ¬ (okU (mvR p x y).1 ∧ okU (mvR p x y).2) then (0, 0, 2) else ((mvR p x y).1, (mvR p x y).2, 0)
set_option maxHeartbeats 8000000 in
set_option maxRecDepth 100000 in
theorem move_any (g dx dy a b c d x y : Int) (w : World) : Calls Try.prog 16 #[.agg #[.int .i64 g, .int .i64 dx, .int .i64 dy, .int .i64 a, .int .i64 b, .int .i64 c, .int .i64 d], .int .i64 x, .int .i64 y] w fun e w' =>
    e = .returned (.tuple #[.int .i64 (mvA (g, dx, dy, a, b, c, d) x y).1, .int .i64 (mvA (g, dx, dy, a, b, c, d) x y).2.1, .int .i64 (mvA (g, dx, dy, a, b, c, d) x y).2.2]) ∧ Below w.heap.size w w' := by
  have HB0 := Lib.hid (show Below w.heap.size w (w.alloc (.cells #[.int .i64 g, .int .i64 dx, .int .i64 dy, .int .i64 a, .int .i64 b, .int .i64 c, .int .i64 d] 38)) from (Below.refl _ _).alloc (Nat.le_refl _) _)
  have BX := Lib.hid (Bp.new w g dx dy a b c d)
  have CP := Lib.hid (fun W => mayPart_any g dx dy a b c d 1024 W)
  have CX := Lib.hid (fun W => unit_any x W)
  have CY := Lib.hid (fun W => unit_any y W)
  by_cases k1 : okP (g, dx, dy, a, b, c, d) 1024
  rotate_left
  · rw [decide_eq_false k1] at CP
    have hA : mvA (g, dx, dy, a, b, c, d) x y = (0, 0, 1) := by unfold mvA; rw [if_pos (fun h => k1 h.1)]
    rw [hA]
    clear hA k1
    go_enter Try.func16, Try.ntmps16
    go_wp2_with (first
      | (go_at_call 24; (with_reducible refine (CP.out _).mono ?_); rintro e w1 ⟨rfl, hb⟩; have B1 := Lib.hid (HB0.out.trans (hb.mono HB0.out.size)); have BX1 := Lib.hid (BX.out.bel hb); have BB := Lib.hid (Below.refl w1.heap.size w1); obtain ⟨c0, c1, c2, c3, c4, c5, c6⟩ := (BX.out.bel hb).cells; clear hb)
      | (go_at_call 32; (with_reducible refine (CX.out _).mono ?_); rintro e w2 ⟨rfl, rfl⟩)
      | (go_at_call 32; (with_reducible refine (CY.out _).mono ?_); rintro e w2 ⟨rfl, rfl⟩))
    go_ret3
    exact ⟨rfl, B1.out⟩
  by_cases k2 : okU x
  rotate_left
  · rw [decide_eq_true k1] at CP
    rw [decide_eq_false k2] at CX
    have hA : mvA (g, dx, dy, a, b, c, d) x y = (0, 0, 1) := by unfold mvA; rw [if_pos (fun h => k2 h.2.1)]
    rw [hA]
    clear hA k1 k2
    go_enter Try.func16, Try.ntmps16
    go_wp2_with (first
      | (go_at_call 24; (with_reducible refine (CP.out _).mono ?_); rintro e w1 ⟨rfl, hb⟩; have B1 := Lib.hid (HB0.out.trans (hb.mono HB0.out.size)); have BX1 := Lib.hid (BX.out.bel hb); have BB := Lib.hid (Below.refl w1.heap.size w1); obtain ⟨c0, c1, c2, c3, c4, c5, c6⟩ := (BX.out.bel hb).cells; clear hb)
      | (go_at_call 32; (with_reducible refine (CX.out _).mono ?_); rintro e w2 ⟨rfl, rfl⟩)
      | (go_at_call 32; (with_reducible refine (CY.out _).mono ?_); rintro e w2 ⟨rfl, rfl⟩))
    go_ret3
    exact ⟨rfl, B1.out⟩
  by_cases k3 : okU y
  rotate_left
  · rw [decide_eq_true k1] at CP
    rw [decide_eq_true k2] at CX
    rw [decide_eq_false k3] at CY
    have hA : mvA (g, dx, dy, a, b, c, d) x y = (0, 0, 1) := by unfold mvA; rw [if_pos (fun h => k3 h.2.2)]
    rw [hA]
    clear hA k1 k2 k3
    go_enter Try.func16, Try.ntmps16
    go_wp2_with (first
      | (go_at_call 24; (with_reducible refine (CP.out _).mono ?_); rintro e w1 ⟨rfl, hb⟩; have B1 := Lib.hid (HB0.out.trans (hb.mono HB0.out.size)); have BX1 := Lib.hid (BX.out.bel hb); have BB := Lib.hid (Below.refl w1.heap.size w1); obtain ⟨c0, c1, c2, c3, c4, c5, c6⟩ := (BX.out.bel hb).cells; clear hb)
      | (go_at_call 32; (with_reducible refine (CX.out _).mono ?_); rintro e w2 ⟨rfl, rfl⟩)
      | (go_at_call 32; (with_reducible refine (CY.out _).mono ?_); rintro e w2 ⟨rfl, rfl⟩))
    go_ret3
    exact ⟨rfl, B1.out⟩
  rw [decide_eq_true k1] at CP
  rw [decide_eq_true k2] at CX
  rw [decide_eq_true k3] at CY
  have hA : mvA (g, dx, dy, a, b, c, d) x y = if ¬ (okU (rn (a * x + c * y) + dx) ∧ okU (rn (b * x + d * y) + dy)) then (0, 0, 2) else (rn (a * x + c * y) + dx, rn (b * x + d * y) + dy, 0) := by
    unfold mvA; rw [if_neg (fun h => h ⟨k1, k2, k3⟩)]; rfl
  rw [hA]
  obtain ⟨_, i1, i2, i3, i4, i5, i6⟩ := k1
  have i1 : -32768 ≤ dx ∧ dx ≤ 32767 := i1
  have i2 : -32768 ≤ dy ∧ dy ≤ 32767 := i2
  have j1 := mul_bd i3 k2
  have j2 := mul_bd i5 k3
  have j3 := mul_bd i4 k2
  have j4 := mul_bd i6 k3
  dsimp only at j1 j2 j3 j4
  have w1 : IntKind.i64.wrap (a * x) = a * x := i64_in _ (by omega)
  have w2 : IntKind.i64.wrap (c * y) = c * y := i64_in _ (by omega)
  have w3 : IntKind.i64.wrap (b * x) = b * x := i64_in _ (by omega)
  have w4 : IntKind.i64.wrap (d * y) = d * y := i64_in _ (by omega)
  obtain ⟨m1, hm1⟩ : ∃ m, m = a * x := ⟨_, rfl⟩
  obtain ⟨m2, hm2⟩ : ∃ m, m = c * y := ⟨_, rfl⟩
  obtain ⟨m3, hm3⟩ : ∃ m, m = b * x := ⟨_, rfl⟩
  obtain ⟨m4, hm4⟩ : ∃ m, m = d * y := ⟨_, rfl⟩
  rw [← hm1] at w1 j1
  rw [← hm2] at w2 j2
  rw [← hm3] at w3 j3
  rw [← hm4] at w4 j4
  rw [← hm1, ← hm2, ← hm3, ← hm4]
  have v1 : IntKind.i64.wrap (m1 + m2) = m1 + m2 := i64_in _ (by omega)
  have v2 : IntKind.i64.wrap (m3 + m4) = m3 + m4 := i64_in _ (by omega)
  obtain ⟨s1, hs1⟩ : ∃ m, m = m1 + m2 := ⟨_, rfl⟩
  obtain ⟨s2, hs2⟩ : ∃ m, m = m3 + m4 := ⟨_, rfl⟩
  rw [← hs1] at v1
  rw [← hs2] at v2
  rw [← hs1, ← hs2]
  have CN1 := fun W => nearest_any s1 W (by omega)
  have CN2 := fun W => nearest_any s2 W (by omega)
  have b1 : -200000 ≤ rn s1 ∧ rn s1 ≤ 200000 := by unfold rn; omega
  have b2 : -200000 ≤ rn s2 ∧ rn s2 ≤ 200000 := by unfold rn; omega
  obtain ⟨n1, hn1⟩ : ∃ m, m = rn s1 := ⟨_, rfl⟩
  obtain ⟨n2, hn2⟩ : ∃ m, m = rn s2 := ⟨_, rfl⟩
  rw [← hn1] at CN1 b1
  rw [← hn2] at CN2 b2
  rw [← hn1, ← hn2]
  have u1 : IntKind.i64.wrap (n1 + dx) = n1 + dx := i64_in _ (by omega)
  have u2 : IntKind.i64.wrap (n2 + dy) = n2 + dy := i64_in _ (by omega)
  obtain ⟨r1, hr1⟩ : ∃ m, m = n1 + dx := ⟨_, rfl⟩
  obtain ⟨r2, hr2⟩ : ∃ m, m = n2 + dy := ⟨_, rfl⟩
  rw [← hr1] at u1
  rw [← hr2] at u2
  rw [← hr1, ← hr2]
  have N1 := Lib.hid (fun W => turn_same (CN1 W))
  have N2 := Lib.hid (fun W => turn_same (CN2 W))
  have U1 := Lib.hid (fun W => unit_any r1 W)
  have U2 := Lib.hid (fun W => unit_any r2 W)
  have hw1 : IntKind.i64.wrap (a * x) = m1 := by rw [← hm1]; exact w1
  have hw2 : IntKind.i64.wrap (c * y) = m2 := by rw [← hm2]; exact w2
  have hw3 : IntKind.i64.wrap (b * x) = m3 := by rw [← hm3]; exact w3
  have hw4 : IntKind.i64.wrap (d * y) = m4 := by rw [← hm4]; exact w4
  have hv1 : IntKind.i64.wrap (m1 + m2) = s1 := by rw [← hs1]; exact v1
  have hv2 : IntKind.i64.wrap (m3 + m4) = s2 := by rw [← hs2]; exact v2
  have hu1 : IntKind.i64.wrap (n1 + dx) = r1 := by rw [← hr1]; exact u1
  have hu2 : IntKind.i64.wrap (n2 + dy) = r2 := by rw [← hr2]; exact u2
  clear hA i1 i2 i3 i4 i5 i6 j1 j2 j3 j4 w1 w2 w3 w4 v1 v2 u1 u2 hm1 hm2 hm3 hm4 hs1 hs2 hn1 hn2 hr1 hr2 CN1 CN2 b1 b2 k2 k3
  by_cases q1 : okU r1
  · rw [decide_eq_true q1] at U1
    by_cases q2 : okU r2
    · rw [decide_eq_true q2] at U2
      rw [if_neg (fun h => h ⟨q1, q2⟩)]
      clear q1 q2
      go_enter Try.func16, Try.ntmps16
      go_upto_region 3 with (first
        | (go_at_call 24; (with_reducible refine (CP.out _).mono ?_); rintro e w1 ⟨rfl, hb⟩; have B1 := Lib.hid (HB0.out.trans (hb.mono HB0.out.size)); have BX1 := Lib.hid (BX.out.bel hb); have BB := Lib.hid (Below.refl w1.heap.size w1); obtain ⟨c0, c1, c2, c3, c4, c5, c6⟩ := (BX.out.bel hb).cells; clear hb)
        | (go_at_call 32; (with_reducible refine (CX.out _).mono ?_); rintro e w2 ⟨rfl, rfl⟩)
        | (go_at_call 32; (with_reducible refine (CY.out _).mono ?_); rintro e w2 ⟨rfl, rfl⟩))
      go_quiet ((first | (go_at_call 33; with_reducible exact Calls.quiet_of_same (N1.out _)) | (go_at_call 33; with_reducible exact Calls.quiet_of_same (N2.out _))))
      go_upto_region 4 with fail
      generalize hW2 : w1.drewN _ = W2
      have BX2 := Lib.hid (show Bp W2 w.heap.size (g, dx, dy, a, b, c, d) from by rw [← hW2]; exact BX1.out)
      have B2 := Lib.hid (show Below w.heap.size w W2 from by rw [← hW2]; exact below_drewN B1.out _)
      clear hW2 c0 c1 c2 c3 c4 c5 c6
      obtain ⟨c0, c1, c2, c3, c4, c5, c6⟩ := BX2.out.cells
      go_quiet ((first | (go_at_call 33; with_reducible exact Calls.quiet_of_same (N1.out _)) | (go_at_call 33; with_reducible exact Calls.quiet_of_same (N2.out _))))
      go_wp2_with (first
        | (go_at_call 32; (with_reducible refine (U1.out _).mono ?_); rintro e w2 ⟨rfl, rfl⟩)
        | (go_at_call 32; (with_reducible refine (U2.out _).mono ?_); rintro e w2 ⟨rfl, rfl⟩))
      go_ret3
      exact ⟨rfl, below_drewN B2.out _⟩
    · rw [decide_eq_false q2] at U2
      rw [if_pos (fun h => q2 h.2)]
      clear q1 q2
      go_enter Try.func16, Try.ntmps16
      go_upto_region 3 with (first
        | (go_at_call 24; (with_reducible refine (CP.out _).mono ?_); rintro e w1 ⟨rfl, hb⟩; have B1 := Lib.hid (HB0.out.trans (hb.mono HB0.out.size)); have BX1 := Lib.hid (BX.out.bel hb); have BB := Lib.hid (Below.refl w1.heap.size w1); obtain ⟨c0, c1, c2, c3, c4, c5, c6⟩ := (BX.out.bel hb).cells; clear hb)
        | (go_at_call 32; (with_reducible refine (CX.out _).mono ?_); rintro e w2 ⟨rfl, rfl⟩)
        | (go_at_call 32; (with_reducible refine (CY.out _).mono ?_); rintro e w2 ⟨rfl, rfl⟩))
      go_quiet ((first | (go_at_call 33; with_reducible exact Calls.quiet_of_same (N1.out _)) | (go_at_call 33; with_reducible exact Calls.quiet_of_same (N2.out _))))
      go_upto_region 4 with fail
      generalize hW2 : w1.drewN _ = W2
      have BX2 := Lib.hid (show Bp W2 w.heap.size (g, dx, dy, a, b, c, d) from by rw [← hW2]; exact BX1.out)
      have B2 := Lib.hid (show Below w.heap.size w W2 from by rw [← hW2]; exact below_drewN B1.out _)
      clear hW2 c0 c1 c2 c3 c4 c5 c6
      obtain ⟨c0, c1, c2, c3, c4, c5, c6⟩ := BX2.out.cells
      go_quiet ((first | (go_at_call 33; with_reducible exact Calls.quiet_of_same (N1.out _)) | (go_at_call 33; with_reducible exact Calls.quiet_of_same (N2.out _))))
      go_wp2_with (first
        | (go_at_call 32; (with_reducible refine (U1.out _).mono ?_); rintro e w2 ⟨rfl, rfl⟩)
        | (go_at_call 32; (with_reducible refine (U2.out _).mono ?_); rintro e w2 ⟨rfl, rfl⟩))
      go_ret3
      exact ⟨rfl, below_drewN B2.out _⟩
  · rw [decide_eq_false q1] at U1
    rw [if_pos (fun h => q1 h.1)]
    clear q1
    go_enter Try.func16, Try.ntmps16
    go_upto_region 3 with (first
      | (go_at_call 24; (with_reducible refine (CP.out _).mono ?_); rintro e w1 ⟨rfl, hb⟩; have B1 := Lib.hid (HB0.out.trans (hb.mono HB0.out.size)); have BX1 := Lib.hid (BX.out.bel hb); have BB := Lib.hid (Below.refl w1.heap.size w1); obtain ⟨c0, c1, c2, c3, c4, c5, c6⟩ := (BX.out.bel hb).cells; clear hb)
      | (go_at_call 32; (with_reducible refine (CX.out _).mono ?_); rintro e w2 ⟨rfl, rfl⟩)
      | (go_at_call 32; (with_reducible refine (CY.out _).mono ?_); rintro e w2 ⟨rfl, rfl⟩))
    go_quiet ((first | (go_at_call 33; with_reducible exact Calls.quiet_of_same (N1.out _)) | (go_at_call 33; with_reducible exact Calls.quiet_of_same (N2.out _))))
    go_upto_region 4 with fail
    generalize hW2 : w1.drewN _ = W2
    have BX2 := Lib.hid (show Bp W2 w.heap.size (g, dx, dy, a, b, c, d) from by rw [← hW2]; exact BX1.out)
    have B2 := Lib.hid (show Below w.heap.size w W2 from by rw [← hW2]; exact below_drewN B1.out _)
    clear hW2 c0 c1 c2 c3 c4 c5 c6
    obtain ⟨c0, c1, c2, c3, c4, c5, c6⟩ := BX2.out.cells
    go_quiet ((first | (go_at_call 33; with_reducible exact Calls.quiet_of_same (N1.out _)) | (go_at_call 33; with_reducible exact Calls.quiet_of_same (N2.out _))))
    go_wp2_with (first
      | (go_at_call 32; (with_reducible refine (U1.out _).mono ?_); rintro e w2 ⟨rfl, rfl⟩)
      | (go_at_call 32; (with_reducible refine (U2.out _).mono ?_); rintro e w2 ⟨rfl, rfl⟩))
    go_ret3
    exact ⟨rfl, below_drewN B2.out _⟩
set_option maxHeartbeats 8000000 in
set_option maxRecDepth 100000 in
theorem rmove_any (g dx dy a b c d x y : Int) (w : World) : Calls Try.prog 17 #[.agg #[.int .i64 g, .int .i64 dx, .int .i64 dy, .int .i64 a, .int .i64 b, .int .i64 c, .int .i64 d], .int .i64 x, .int .i64 y] w fun e w' =>
    e = .returned (.tuple #[.int .i64 (mvA (g, dx, dy, a, b, c, d) x y).1, .int .i64 (mvA (g, dx, dy, a, b, c, d) x y).2.1, .int .i64 (mvA (g, dx, dy, a, b, c, d) x y).2.2]) ∧ Below w.heap.size w w' := by
  have HB0 := Lib.hid (show Below w.heap.size w (w.alloc (.cells #[.int .i64 g, .int .i64 dx, .int .i64 dy, .int .i64 a, .int .i64 b, .int .i64 c, .int .i64 d] 38)) from (Below.refl _ _).alloc (Nat.le_refl _) _)
  have BX := Lib.hid (Bp.new w g dx dy a b c d)
  have CP := Lib.hid (fun W => rone_any g dx dy a b c d 1024 W)
  have CX := Lib.hid (fun W => runit_any x W)
  have CY := Lib.hid (fun W => runit_any y W)
  by_cases k1 : okP (g, dx, dy, a, b, c, d) 1024
  rotate_left
  · rw [decide_eq_false k1] at CP
    have hA : mvA (g, dx, dy, a, b, c, d) x y = (0, 0, 1) := by unfold mvA; rw [if_pos (fun h => k1 h.1)]
    rw [hA]
    clear hA k1
    go_enter Try.func17, Try.ntmps17
    go_wp2_with (first
      | (go_at_call 25; (with_reducible refine (CP.out _).mono ?_); rintro e w1 ⟨rfl, hb⟩; have B1 := Lib.hid (HB0.out.trans (hb.mono HB0.out.size)); have BX1 := Lib.hid (BX.out.bel hb); have BB := Lib.hid (Below.refl w1.heap.size w1); obtain ⟨c0, c1, c2, c3, c4, c5, c6⟩ := (BX.out.bel hb).cells; clear hb)
      | (go_at_call 34; (with_reducible refine (CX.out _).mono ?_); rintro e w2 ⟨rfl, rfl⟩)
      | (go_at_call 34; (with_reducible refine (CY.out _).mono ?_); rintro e w2 ⟨rfl, rfl⟩))
    go_ret3
    exact ⟨rfl, B1.out⟩
  by_cases k2 : okU x
  rotate_left
  · rw [decide_eq_true k1] at CP
    rw [decide_eq_false k2] at CX
    have hA : mvA (g, dx, dy, a, b, c, d) x y = (0, 0, 1) := by unfold mvA; rw [if_pos (fun h => k2 h.2.1)]
    rw [hA]
    clear hA k1 k2
    go_enter Try.func17, Try.ntmps17
    go_wp2_with (first
      | (go_at_call 25; (with_reducible refine (CP.out _).mono ?_); rintro e w1 ⟨rfl, hb⟩; have B1 := Lib.hid (HB0.out.trans (hb.mono HB0.out.size)); have BX1 := Lib.hid (BX.out.bel hb); have BB := Lib.hid (Below.refl w1.heap.size w1); obtain ⟨c0, c1, c2, c3, c4, c5, c6⟩ := (BX.out.bel hb).cells; clear hb)
      | (go_at_call 34; (with_reducible refine (CX.out _).mono ?_); rintro e w2 ⟨rfl, rfl⟩)
      | (go_at_call 34; (with_reducible refine (CY.out _).mono ?_); rintro e w2 ⟨rfl, rfl⟩))
    go_ret3
    exact ⟨rfl, B1.out⟩
  by_cases k3 : okU y
  rotate_left
  · rw [decide_eq_true k1] at CP
    rw [decide_eq_true k2] at CX
    rw [decide_eq_false k3] at CY
    have hA : mvA (g, dx, dy, a, b, c, d) x y = (0, 0, 1) := by unfold mvA; rw [if_pos (fun h => k3 h.2.2)]
    rw [hA]
    clear hA k1 k2 k3
    go_enter Try.func17, Try.ntmps17
    go_wp2_with (first
      | (go_at_call 25; (with_reducible refine (CP.out _).mono ?_); rintro e w1 ⟨rfl, hb⟩; have B1 := Lib.hid (HB0.out.trans (hb.mono HB0.out.size)); have BX1 := Lib.hid (BX.out.bel hb); have BB := Lib.hid (Below.refl w1.heap.size w1); obtain ⟨c0, c1, c2, c3, c4, c5, c6⟩ := (BX.out.bel hb).cells; clear hb)
      | (go_at_call 34; (with_reducible refine (CX.out _).mono ?_); rintro e w2 ⟨rfl, rfl⟩)
      | (go_at_call 34; (with_reducible refine (CY.out _).mono ?_); rintro e w2 ⟨rfl, rfl⟩))
    go_ret3
    exact ⟨rfl, B1.out⟩
  rw [decide_eq_true k1] at CP
  rw [decide_eq_true k2] at CX
  rw [decide_eq_true k3] at CY
  have hA : mvA (g, dx, dy, a, b, c, d) x y = if ¬ (okU (rn (a * x + c * y) + dx) ∧ okU (rn (b * x + d * y) + dy)) then (0, 0, 2) else (rn (a * x + c * y) + dx, rn (b * x + d * y) + dy, 0) := by
    unfold mvA; rw [if_neg (fun h => h ⟨k1, k2, k3⟩)]; rfl
  rw [hA]
  obtain ⟨_, i1, i2, i3, i4, i5, i6⟩ := k1
  have i1 : -32768 ≤ dx ∧ dx ≤ 32767 := i1
  have i2 : -32768 ≤ dy ∧ dy ≤ 32767 := i2
  have j1 := mul_bd i3 k2
  have j2 := mul_bd i5 k3
  have j3 := mul_bd i4 k2
  have j4 := mul_bd i6 k3
  dsimp only at j1 j2 j3 j4
  have w1 : IntKind.i64.wrap (a * x) = a * x := i64_in _ (by omega)
  have w2 : IntKind.i64.wrap (c * y) = c * y := i64_in _ (by omega)
  have w3 : IntKind.i64.wrap (b * x) = b * x := i64_in _ (by omega)
  have w4 : IntKind.i64.wrap (d * y) = d * y := i64_in _ (by omega)
  obtain ⟨m1, hm1⟩ : ∃ m, m = a * x := ⟨_, rfl⟩
  obtain ⟨m2, hm2⟩ : ∃ m, m = c * y := ⟨_, rfl⟩
  obtain ⟨m3, hm3⟩ : ∃ m, m = b * x := ⟨_, rfl⟩
  obtain ⟨m4, hm4⟩ : ∃ m, m = d * y := ⟨_, rfl⟩
  rw [← hm1] at w1 j1
  rw [← hm2] at w2 j2
  rw [← hm3] at w3 j3
  rw [← hm4] at w4 j4
  rw [← hm1, ← hm2, ← hm3, ← hm4]
  have v1 : IntKind.i64.wrap (m1 + m2) = m1 + m2 := i64_in _ (by omega)
  have v2 : IntKind.i64.wrap (m3 + m4) = m3 + m4 := i64_in _ (by omega)
  obtain ⟨s1, hs1⟩ : ∃ m, m = m1 + m2 := ⟨_, rfl⟩
  obtain ⟨s2, hs2⟩ : ∃ m, m = m3 + m4 := ⟨_, rfl⟩
  rw [← hs1] at v1
  rw [← hs2] at v2
  rw [← hs1, ← hs2]
  have CN1 := fun W => rround_any s1 W (by omega)
  have CN2 := fun W => rround_any s2 W (by omega)
  have b1 : -200000 ≤ rn s1 ∧ rn s1 ≤ 200000 := by unfold rn; omega
  have b2 : -200000 ≤ rn s2 ∧ rn s2 ≤ 200000 := by unfold rn; omega
  obtain ⟨n1, hn1⟩ : ∃ m, m = rn s1 := ⟨_, rfl⟩
  obtain ⟨n2, hn2⟩ : ∃ m, m = rn s2 := ⟨_, rfl⟩
  rw [← hn1] at CN1 b1
  rw [← hn2] at CN2 b2
  rw [← hn1, ← hn2]
  have u1 : IntKind.i64.wrap (n1 + dx) = n1 + dx := i64_in _ (by omega)
  have u2 : IntKind.i64.wrap (n2 + dy) = n2 + dy := i64_in _ (by omega)
  obtain ⟨r1, hr1⟩ : ∃ m, m = n1 + dx := ⟨_, rfl⟩
  obtain ⟨r2, hr2⟩ : ∃ m, m = n2 + dy := ⟨_, rfl⟩
  rw [← hr1] at u1
  rw [← hr2] at u2
  rw [← hr1, ← hr2]
  have N1 := Lib.hid (fun W => turn_same (CN1 W))
  have N2 := Lib.hid (fun W => turn_same (CN2 W))
  have U1 := Lib.hid (fun W => runit_any r1 W)
  have U2 := Lib.hid (fun W => runit_any r2 W)
  have hw1 : IntKind.i64.wrap (a * x) = m1 := by rw [← hm1]; exact w1
  have hw2 : IntKind.i64.wrap (c * y) = m2 := by rw [← hm2]; exact w2
  have hw3 : IntKind.i64.wrap (b * x) = m3 := by rw [← hm3]; exact w3
  have hw4 : IntKind.i64.wrap (d * y) = m4 := by rw [← hm4]; exact w4
  have hv1 : IntKind.i64.wrap (m1 + m2) = s1 := by rw [← hs1]; exact v1
  have hv2 : IntKind.i64.wrap (m3 + m4) = s2 := by rw [← hs2]; exact v2
  have hu1 : IntKind.i64.wrap (n1 + dx) = r1 := by rw [← hr1]; exact u1
  have hu2 : IntKind.i64.wrap (n2 + dy) = r2 := by rw [← hr2]; exact u2
  clear hA i1 i2 i3 i4 i5 i6 j1 j2 j3 j4 w1 w2 w3 w4 v1 v2 u1 u2 hm1 hm2 hm3 hm4 hs1 hs2 hn1 hn2 hr1 hr2 CN1 CN2 b1 b2 k2 k3
  by_cases q1 : okU r1
  · rw [decide_eq_true q1] at U1
    by_cases q2 : okU r2
    · rw [decide_eq_true q2] at U2
      rw [if_neg (fun h => h ⟨q1, q2⟩)]
      clear q1 q2
      go_enter Try.func17, Try.ntmps17
      go_upto_region 3 with (first
        | (go_at_call 25; (with_reducible refine (CP.out _).mono ?_); rintro e w1 ⟨rfl, hb⟩; have B1 := Lib.hid (HB0.out.trans (hb.mono HB0.out.size)); have BX1 := Lib.hid (BX.out.bel hb); have BB := Lib.hid (Below.refl w1.heap.size w1); obtain ⟨c0, c1, c2, c3, c4, c5, c6⟩ := (BX.out.bel hb).cells; clear hb)
        | (go_at_call 34; (with_reducible refine (CX.out _).mono ?_); rintro e w2 ⟨rfl, rfl⟩)
        | (go_at_call 34; (with_reducible refine (CY.out _).mono ?_); rintro e w2 ⟨rfl, rfl⟩))
      go_quiet ((first | (go_at_call 35; with_reducible exact Calls.quiet_of_same (N1.out _)) | (go_at_call 35; with_reducible exact Calls.quiet_of_same (N2.out _))))
      go_upto_region 4 with fail
      generalize hW2 : w1.drewN _ = W2
      have BX2 := Lib.hid (show Bp W2 w.heap.size (g, dx, dy, a, b, c, d) from by rw [← hW2]; exact BX1.out)
      have B2 := Lib.hid (show Below w.heap.size w W2 from by rw [← hW2]; exact below_drewN B1.out _)
      clear hW2 c0 c1 c2 c3 c4 c5 c6
      obtain ⟨c0, c1, c2, c3, c4, c5, c6⟩ := BX2.out.cells
      go_quiet ((first | (go_at_call 35; with_reducible exact Calls.quiet_of_same (N1.out _)) | (go_at_call 35; with_reducible exact Calls.quiet_of_same (N2.out _))))
      go_wp2_with (first
        | (go_at_call 34; (with_reducible refine (U1.out _).mono ?_); rintro e w2 ⟨rfl, rfl⟩)
        | (go_at_call 34; (with_reducible refine (U2.out _).mono ?_); rintro e w2 ⟨rfl, rfl⟩))
      go_ret3
      exact ⟨rfl, below_drewN B2.out _⟩
    · rw [decide_eq_false q2] at U2
      rw [if_pos (fun h => q2 h.2)]
      clear q1 q2
      go_enter Try.func17, Try.ntmps17
      go_upto_region 3 with (first
        | (go_at_call 25; (with_reducible refine (CP.out _).mono ?_); rintro e w1 ⟨rfl, hb⟩; have B1 := Lib.hid (HB0.out.trans (hb.mono HB0.out.size)); have BX1 := Lib.hid (BX.out.bel hb); have BB := Lib.hid (Below.refl w1.heap.size w1); obtain ⟨c0, c1, c2, c3, c4, c5, c6⟩ := (BX.out.bel hb).cells; clear hb)
        | (go_at_call 34; (with_reducible refine (CX.out _).mono ?_); rintro e w2 ⟨rfl, rfl⟩)
        | (go_at_call 34; (with_reducible refine (CY.out _).mono ?_); rintro e w2 ⟨rfl, rfl⟩))
      go_quiet ((first | (go_at_call 35; with_reducible exact Calls.quiet_of_same (N1.out _)) | (go_at_call 35; with_reducible exact Calls.quiet_of_same (N2.out _))))
      go_upto_region 4 with fail
      generalize hW2 : w1.drewN _ = W2
      have BX2 := Lib.hid (show Bp W2 w.heap.size (g, dx, dy, a, b, c, d) from by rw [← hW2]; exact BX1.out)
      have B2 := Lib.hid (show Below w.heap.size w W2 from by rw [← hW2]; exact below_drewN B1.out _)
      clear hW2 c0 c1 c2 c3 c4 c5 c6
      obtain ⟨c0, c1, c2, c3, c4, c5, c6⟩ := BX2.out.cells
      go_quiet ((first | (go_at_call 35; with_reducible exact Calls.quiet_of_same (N1.out _)) | (go_at_call 35; with_reducible exact Calls.quiet_of_same (N2.out _))))
      go_wp2_with (first
        | (go_at_call 34; (with_reducible refine (U1.out _).mono ?_); rintro e w2 ⟨rfl, rfl⟩)
        | (go_at_call 34; (with_reducible refine (U2.out _).mono ?_); rintro e w2 ⟨rfl, rfl⟩))
      go_ret3
      exact ⟨rfl, below_drewN B2.out _⟩
  · rw [decide_eq_false q1] at U1
    rw [if_pos (fun h => q1 h.1)]
    clear q1
    go_enter Try.func17, Try.ntmps17
    go_upto_region 3 with (first
      | (go_at_call 25; (with_reducible refine (CP.out _).mono ?_); rintro e w1 ⟨rfl, hb⟩; have B1 := Lib.hid (HB0.out.trans (hb.mono HB0.out.size)); have BX1 := Lib.hid (BX.out.bel hb); have BB := Lib.hid (Below.refl w1.heap.size w1); obtain ⟨c0, c1, c2, c3, c4, c5, c6⟩ := (BX.out.bel hb).cells; clear hb)
      | (go_at_call 34; (with_reducible refine (CX.out _).mono ?_); rintro e w2 ⟨rfl, rfl⟩)
      | (go_at_call 34; (with_reducible refine (CY.out _).mono ?_); rintro e w2 ⟨rfl, rfl⟩))
    go_quiet ((first | (go_at_call 35; with_reducible exact Calls.quiet_of_same (N1.out _)) | (go_at_call 35; with_reducible exact Calls.quiet_of_same (N2.out _))))
    go_upto_region 4 with fail
    generalize hW2 : w1.drewN _ = W2
    have BX2 := Lib.hid (show Bp W2 w.heap.size (g, dx, dy, a, b, c, d) from by rw [← hW2]; exact BX1.out)
    have B2 := Lib.hid (show Below w.heap.size w W2 from by rw [← hW2]; exact below_drewN B1.out _)
    clear hW2 c0 c1 c2 c3 c4 c5 c6
    obtain ⟨c0, c1, c2, c3, c4, c5, c6⟩ := BX2.out.cells
    go_quiet ((first | (go_at_call 35; with_reducible exact Calls.quiet_of_same (N1.out _)) | (go_at_call 35; with_reducible exact Calls.quiet_of_same (N2.out _))))
    go_wp2_with (first
      | (go_at_call 34; (with_reducible refine (U1.out _).mono ?_); rintro e w2 ⟨rfl, rfl⟩)
      | (go_at_call 34; (with_reducible refine (U2.out _).mono ?_); rintro e w2 ⟨rfl, rfl⟩))
    go_ret3
    exact ⟨rfl, below_drewN B2.out _⟩
end Go.Proofs.Ytbmeamhpmahlgaa
