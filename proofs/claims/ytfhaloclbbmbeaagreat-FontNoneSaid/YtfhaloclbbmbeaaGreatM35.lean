/- Proved here: what Move answers: in the program and in the document. No condition · whether contours may be, in the document; whether two lists of contours are the same, and what few answers. Condition: contours that lie in memory · shapes as they lie in memory; which may be (the document's May); how many points contours have. Condition: shapes that lie in memory, within limits · what the law's Few answers. Condition: shapes that lie in memory · what the document's moved answers. Condition: contours that lie in memory, within limits · what the document's moved answers. Condition: contours that lie in memory, within limits · Proved here (plain): a glyph's outline, with all that it is put together of; its b. -/
import Derived.Test.YtfhaloclbbmbeaaGreatM34
import Derived.Test.YtfhaloclbbmbeaaGreatM28
import Derived.Test.YtfhaloclbbmbeaaGreatM31
namespace Go.Proofs.YtfhaloclbbmbeaaGreat
open Go.RowKit
namespace N15.C
def rn (n : Int) : Int := (n + 8192) / 16384
theorem mul_bd {a x : Int} (ha : -32768 ≤ a ∧ a ≤ 32767) (hx : -32767 ≤ x ∧ x ≤ 32767) : -1073741824 ≤ a * x ∧ a * x ≤ 1073741824 := by
  have h1 : (a * x).natAbs = a.natAbs * x.natAbs := Int.natAbs_mul a x
  have h2 : a.natAbs * x.natAbs ≤ 32768 * 32768 := Nat.mul_le_mul (by omega) (by omega)
  omega
theorem turn_same {f : FuncId} {args : Array Value} {w : World} {v : Ending} (h : Calls Tryz.prog f args w fun e w' => e = v ∧ w = w') : Calls Tryz.prog f args w fun e w' => e = v ∧ w' = w := h.mono fun _ _ ⟨h1, h2⟩ => ⟨h1, h2.symm⟩
set_option maxHeartbeats 1000000 in
set_option maxRecDepth 100000 in
theorem nearest_any (n : Int) (w : World) (h : -2147483648 ≤ n ∧ n ≤ 2147483648) : Calls Tryz.prog 299 #[.int .i64 n] w fun e w' => e = .returned (.int .i64 (rn n)) ∧ w = w' := by
  have e1 : IntKind.i64.wrap (n + 8192) = n + 8192 := i64_in _ (by omega)
  have hr : rn n = (n + 8192) / 16384 := rfl
  obtain ⟨m, hm⟩ : ∃ m, m = n + 8192 := ⟨_, rfl⟩
  rw [← hm] at e1 hr
  rw [hr]
  have e2 : n + 8192 = m := hm.symm
  have hb : -2147483648 ≤ m ∧ m ≤ 2147500000 := by omega
  clear h hm hr
  go_enter Tryz.func299, Tryz.ntmps299
  go_wp2_with fail
  go_ret
  exact ⟨rfl, rfl⟩
def mvR (p : Prt) (x y : Int) : Int × Int := (rn (p.2.2.2.1 * x + p.2.2.2.2.2.1 * y) + p.2.1, rn (p.2.2.2.2.1 * x + p.2.2.2.2.2.2 * y) + p.2.2.1)
def mvA (p : Prt) (x y : Int) : Int × Int × Int := if ¬ (okP p 1024 ∧ okU x ∧ okU y) then (0, 0, 1) else if ¬ (okU (mvR p x y).1 ∧ okU (mvR p x y).2) then (0, 0, 2) else ((mvR p x y).1, (mvR p x y).2, 0)
set_option maxHeartbeats 8000000 in
set_option maxRecDepth 100000 in
theorem move_any (g dx dy a b c d x y : Int) (w : World) : Calls Tryz.prog 286 #[.agg #[.int .i64 g, .int .i64 dx, .int .i64 dy, .int .i64 a, .int .i64 b, .int .i64 c, .int .i64 d], .int .i64 x, .int .i64 y] w fun e w' =>
    e = .returned (.tuple #[.int .i64 (mvA (g, dx, dy, a, b, c, d) x y).1, .int .i64 (mvA (g, dx, dy, a, b, c, d) x y).2.1, .int .i64 (mvA (g, dx, dy, a, b, c, d) x y).2.2]) ∧ Below w.heap.size w w' := by
  have HB0 := Lib.hid (show Below w.heap.size w (w.alloc (.cells #[.int .i64 g, .int .i64 dx, .int .i64 dy, .int .i64 a, .int .i64 b, .int .i64 c, .int .i64 d] 265)) from (Below.refl _ _).alloc (Nat.le_refl _) _)
  have BX := Lib.hid (Bp.new w g dx dy a b c d)
  have CP := Lib.hid (fun W => mayPart_any g dx dy a b c d 1024 W)
  have CX := Lib.hid (fun W => unit_any x W)
  have CY := Lib.hid (fun W => unit_any y W)
  by_cases k1 : okP (g, dx, dy, a, b, c, d) 1024
  rotate_left
  · rw [decide_eq_false k1] at CP
    have hA : mvA (g, dx, dy, a, b, c, d) x y = (0, 0, 1) := by unfold mvA; rw [if_pos (fun h => k1 h.1)]
    rw [hA]
    clear hA k1
    go_enter Tryz.func286, Tryz.ntmps286
    go_wp2_with (first
      | (go_at_call 229; (with_reducible refine (CP.out _).mono ?_); rintro e w1 ⟨rfl, hb⟩; have B1 := Lib.hid (HB0.out.trans (hb.mono HB0.out.size)); have BX1 := Lib.hid (BX.out.bel hb); have BB := Lib.hid (Below.refl w1.heap.size w1); obtain ⟨c0, c1, c2, c3, c4, c5, c6⟩ := (BX.out.bel hb).cells; clear hb)
      | (go_at_call 298; (with_reducible refine (CX.out _).mono ?_); rintro e w2 ⟨rfl, rfl⟩)
      | (go_at_call 298; (with_reducible refine (CY.out _).mono ?_); rintro e w2 ⟨rfl, rfl⟩))
    go_ret3
    exact ⟨rfl, B1.out⟩
  by_cases k2 : okU x
  rotate_left
  · rw [decide_eq_true k1] at CP
    rw [decide_eq_false k2] at CX
    have hA : mvA (g, dx, dy, a, b, c, d) x y = (0, 0, 1) := by unfold mvA; rw [if_pos (fun h => k2 h.2.1)]
    rw [hA]
    clear hA k1 k2
    go_enter Tryz.func286, Tryz.ntmps286
    go_wp2_with (first
      | (go_at_call 229; (with_reducible refine (CP.out _).mono ?_); rintro e w1 ⟨rfl, hb⟩; have B1 := Lib.hid (HB0.out.trans (hb.mono HB0.out.size)); have BX1 := Lib.hid (BX.out.bel hb); have BB := Lib.hid (Below.refl w1.heap.size w1); obtain ⟨c0, c1, c2, c3, c4, c5, c6⟩ := (BX.out.bel hb).cells; clear hb)
      | (go_at_call 298; (with_reducible refine (CX.out _).mono ?_); rintro e w2 ⟨rfl, rfl⟩)
      | (go_at_call 298; (with_reducible refine (CY.out _).mono ?_); rintro e w2 ⟨rfl, rfl⟩))
    go_ret3
    exact ⟨rfl, B1.out⟩
  by_cases k3 : okU y
  rotate_left
  · rw [decide_eq_true k1] at CP
    rw [decide_eq_true k2] at CX
    rw [decide_eq_false k3] at CY
    have hA : mvA (g, dx, dy, a, b, c, d) x y = (0, 0, 1) := by unfold mvA; rw [if_pos (fun h => k3 h.2.2)]
    rw [hA]
    clear hA k1 k2 k3
    go_enter Tryz.func286, Tryz.ntmps286
    go_wp2_with (first
      | (go_at_call 229; (with_reducible refine (CP.out _).mono ?_); rintro e w1 ⟨rfl, hb⟩; have B1 := Lib.hid (HB0.out.trans (hb.mono HB0.out.size)); have BX1 := Lib.hid (BX.out.bel hb); have BB := Lib.hid (Below.refl w1.heap.size w1); obtain ⟨c0, c1, c2, c3, c4, c5, c6⟩ := (BX.out.bel hb).cells; clear hb)
      | (go_at_call 298; (with_reducible refine (CX.out _).mono ?_); rintro e w2 ⟨rfl, rfl⟩)
      | (go_at_call 298; (with_reducible refine (CY.out _).mono ?_); rintro e w2 ⟨rfl, rfl⟩))
    go_ret3
    exact ⟨rfl, B1.out⟩
  rw [decide_eq_true k1] at CP
  rw [decide_eq_true k2] at CX
  rw [decide_eq_true k3] at CY
  have hA : mvA (g, dx, dy, a, b, c, d) x y = if ¬ (okU (rn (a * x + c * y) + dx) ∧ okU (rn (b * x + d * y) + dy)) then (0, 0, 2) else (rn (a * x + c * y) + dx, rn (b * x + d * y) + dy, 0) := by
    unfold mvA; rw [if_neg (fun h => h ⟨k1, k2, k3⟩)]; rfl
  rw [hA]
  obtain ⟨_, i1, i2, i3, i4, i5, i6⟩ := k1
  have i1 : -32768 ≤ dx ∧ dx ≤ 32767 := i1
  have i2 : -32768 ≤ dy ∧ dy ≤ 32767 := i2
  have j1 := mul_bd i3 k2
  have j2 := mul_bd i5 k3
  have j3 := mul_bd i4 k2
  have j4 := mul_bd i6 k3
  dsimp only at j1 j2 j3 j4
  have w1 : IntKind.i64.wrap (a * x) = a * x := i64_in _ (by omega)
  have w2 : IntKind.i64.wrap (c * y) = c * y := i64_in _ (by omega)
  have w3 : IntKind.i64.wrap (b * x) = b * x := i64_in _ (by omega)
  have w4 : IntKind.i64.wrap (d * y) = d * y := i64_in _ (by omega)
  obtain ⟨m1, hm1⟩ : ∃ m, m = a * x := ⟨_, rfl⟩
  obtain ⟨m2, hm2⟩ : ∃ m, m = c * y := ⟨_, rfl⟩
  obtain ⟨m3, hm3⟩ : ∃ m, m = b * x := ⟨_, rfl⟩
  obtain ⟨m4, hm4⟩ : ∃ m, m = d * y := ⟨_, rfl⟩
  rw [← hm1] at w1 j1
  rw [← hm2] at w2 j2
  rw [← hm3] at w3 j3
  rw [← hm4] at w4 j4
  rw [← hm1, ← hm2, ← hm3, ← hm4]
  have v1 : IntKind.i64.wrap (m1 + m2) = m1 + m2 := i64_in _ (by omega)
  have v2 : IntKind.i64.wrap (m3 + m4) = m3 + m4 := i64_in _ (by omega)
  obtain ⟨s1, hs1⟩ : ∃ m, m = m1 + m2 := ⟨_, rfl⟩
  obtain ⟨s2, hs2⟩ : ∃ m, m = m3 + m4 := ⟨_, rfl⟩
  rw [← hs1] at v1
  rw [← hs2] at v2
  rw [← hs1, ← hs2]
  have CN1 := fun W => nearest_any s1 W (by omega)
  have CN2 := fun W => nearest_any s2 W (by omega)
  have b1 : -200000 ≤ rn s1 ∧ rn s1 ≤ 200000 := by unfold rn; omega
  have b2 : -200000 ≤ rn s2 ∧ rn s2 ≤ 200000 := by unfold rn; omega
  obtain ⟨n1, hn1⟩ : ∃ m, m = rn s1 := ⟨_, rfl⟩
  obtain ⟨n2, hn2⟩ : ∃ m, m = rn s2 := ⟨_, rfl⟩
  rw [← hn1] at CN1 b1
  rw [← hn2] at CN2 b2
  rw [← hn1, ← hn2]
  have u1 : IntKind.i64.wrap (n1 + dx) = n1 + dx := i64_in _ (by omega)
  have u2 : IntKind.i64.wrap (n2 + dy) = n2 + dy := i64_in _ (by omega)
  obtain ⟨r1, hr1⟩ : ∃ m, m = n1 + dx := ⟨_, rfl⟩
  obtain ⟨r2, hr2⟩ : ∃ m, m = n2 + dy := ⟨_, rfl⟩
  rw [← hr1] at u1
  rw [← hr2] at u2
  rw [← hr1, ← hr2]
  have N1 := Lib.hid (fun W => turn_same (CN1 W))
  have N2 := Lib.hid (fun W => turn_same (CN2 W))
  have U1 := Lib.hid (fun W => unit_any r1 W)
  have U2 := Lib.hid (fun W => unit_any r2 W)
  have hw1 : IntKind.i64.wrap (a * x) = m1 := by rw [← hm1]; exact w1
  have hw2 : IntKind.i64.wrap (c * y) = m2 := by rw [← hm2]; exact w2
  have hw3 : IntKind.i64.wrap (b * x) = m3 := by rw [← hm3]; exact w3
  have hw4 : IntKind.i64.wrap (d * y) = m4 := by rw [← hm4]; exact w4
  have hv1 : IntKind.i64.wrap (m1 + m2) = s1 := by rw [← hs1]; exact v1
  have hv2 : IntKind.i64.wrap (m3 + m4) = s2 := by rw [← hs2]; exact v2
  have hu1 : IntKind.i64.wrap (n1 + dx) = r1 := by rw [← hr1]; exact u1
  have hu2 : IntKind.i64.wrap (n2 + dy) = r2 := by rw [← hr2]; exact u2
  clear hA i1 i2 i3 i4 i5 i6 j1 j2 j3 j4 w1 w2 w3 w4 v1 v2 u1 u2 hm1 hm2 hm3 hm4 hs1 hs2 hn1 hn2 hr1 hr2 CN1 CN2 b1 b2 k2 k3
  by_cases q1 : okU r1
  · rw [decide_eq_true q1] at U1
    by_cases q2 : okU r2
    · rw [decide_eq_true q2] at U2
      rw [if_neg (fun h => h ⟨q1, q2⟩)]
      clear q1 q2
      go_enter Tryz.func286, Tryz.ntmps286
      go_upto_region 3 with (first
        | (go_at_call 229; (with_reducible refine (CP.out _).mono ?_); rintro e w1 ⟨rfl, hb⟩; have B1 := Lib.hid (HB0.out.trans (hb.mono HB0.out.size)); have BX1 := Lib.hid (BX.out.bel hb); have BB := Lib.hid (Below.refl w1.heap.size w1); obtain ⟨c0, c1, c2, c3, c4, c5, c6⟩ := (BX.out.bel hb).cells; clear hb)
        | (go_at_call 298; (with_reducible refine (CX.out _).mono ?_); rintro e w2 ⟨rfl, rfl⟩)
        | (go_at_call 298; (with_reducible refine (CY.out _).mono ?_); rintro e w2 ⟨rfl, rfl⟩))
      go_quiet ((first | (go_at_call 299; with_reducible exact Calls.quiet_of_same (N1.out _)) | (go_at_call 299; with_reducible exact Calls.quiet_of_same (N2.out _))))
      go_upto_region 4 with fail
      generalize hW2 : w1.drewN _ = W2
      have BX2 := Lib.hid (show Bp W2 w.heap.size (g, dx, dy, a, b, c, d) from by rw [← hW2]; exact BX1.out)
      have B2 := Lib.hid (show Below w.heap.size w W2 from by rw [← hW2]; exact below_drewN B1.out _)
      clear hW2 c0 c1 c2 c3 c4 c5 c6
      obtain ⟨c0, c1, c2, c3, c4, c5, c6⟩ := BX2.out.cells
      go_quiet ((first | (go_at_call 299; with_reducible exact Calls.quiet_of_same (N1.out _)) | (go_at_call 299; with_reducible exact Calls.quiet_of_same (N2.out _))))
      go_wp2_with (first
        | (go_at_call 298; (with_reducible refine (U1.out _).mono ?_); rintro e w2 ⟨rfl, rfl⟩)
        | (go_at_call 298; (with_reducible refine (U2.out _).mono ?_); rintro e w2 ⟨rfl, rfl⟩))
      go_ret3
      exact ⟨rfl, below_drewN B2.out _⟩
    · rw [decide_eq_false q2] at U2
      rw [if_pos (fun h => q2 h.2)]
      clear q1 q2
      go_enter Tryz.func286, Tryz.ntmps286
      go_upto_region 3 with (first
        | (go_at_call 229; (with_reducible refine (CP.out _).mono ?_); rintro e w1 ⟨rfl, hb⟩; have B1 := Lib.hid (HB0.out.trans (hb.mono HB0.out.size)); have BX1 := Lib.hid (BX.out.bel hb); have BB := Lib.hid (Below.refl w1.heap.size w1); obtain ⟨c0, c1, c2, c3, c4, c5, c6⟩ := (BX.out.bel hb).cells; clear hb)
        | (go_at_call 298; (with_reducible refine (CX.out _).mono ?_); rintro e w2 ⟨rfl, rfl⟩)
        | (go_at_call 298; (with_reducible refine (CY.out _).mono ?_); rintro e w2 ⟨rfl, rfl⟩))
      go_quiet ((first | (go_at_call 299; with_reducible exact Calls.quiet_of_same (N1.out _)) | (go_at_call 299; with_reducible exact Calls.quiet_of_same (N2.out _))))
      go_upto_region 4 with fail
      generalize hW2 : w1.drewN _ = W2
      have BX2 := Lib.hid (show Bp W2 w.heap.size (g, dx, dy, a, b, c, d) from by rw [← hW2]; exact BX1.out)
      have B2 := Lib.hid (show Below w.heap.size w W2 from by rw [← hW2]; exact below_drewN B1.out _)
      clear hW2 c0 c1 c2 c3 c4 c5 c6
      obtain ⟨c0, c1, c2, c3, c4, c5, c6⟩ := BX2.out.cells
      go_quiet ((first | (go_at_call 299; with_reducible exact Calls.quiet_of_same (N1.out _)) | (go_at_call 299; with_reducible exact Calls.quiet_of_same (N2.out _))))
      go_wp2_with (first
        | (go_at_call 298; (with_reducible refine (U1.out _).mono ?_); rintro e w2 ⟨rfl, rfl⟩)
        | (go_at_call 298; (with_reducible refine (U2.out _).mono ?_); rintro e w2 ⟨rfl, rfl⟩))
      go_ret3
      exact ⟨rfl, below_drewN B2.out _⟩
  · rw [decide_eq_false q1] at U1
    rw [if_pos (fun h => q1 h.1)]
    clear q1
    go_enter Tryz.func286, Tryz.ntmps286
    go_upto_region 3 with (first
      | (go_at_call 229; (with_reducible refine (CP.out _).mono ?_); rintro e w1 ⟨rfl, hb⟩; have B1 := Lib.hid (HB0.out.trans (hb.mono HB0.out.size)); have BX1 := Lib.hid (BX.out.bel hb); have BB := Lib.hid (Below.refl w1.heap.size w1); obtain ⟨c0, c1, c2, c3, c4, c5, c6⟩ := (BX.out.bel hb).cells; clear hb)
      | (go_at_call 298; (with_reducible refine (CX.out _).mono ?_); rintro e w2 ⟨rfl, rfl⟩)
      | (go_at_call 298; (with_reducible refine (CY.out _).mono ?_); rintro e w2 ⟨rfl, rfl⟩))
    go_quiet ((first | (go_at_call 299; with_reducible exact Calls.quiet_of_same (N1.out _)) | (go_at_call 299; with_reducible exact Calls.quiet_of_same (N2.out _))))
    go_upto_region 4 with fail
    generalize hW2 : w1.drewN _ = W2
    have BX2 := Lib.hid (show Bp W2 w.heap.size (g, dx, dy, a, b, c, d) from by rw [← hW2]; exact BX1.out)
    have B2 := Lib.hid (show Below w.heap.size w W2 from by rw [← hW2]; exact below_drewN B1.out _)
    clear hW2 c0 c1 c2 c3 c4 c5 c6
    obtain ⟨c0, c1, c2, c3, c4, c5, c6⟩ := BX2.out.cells
    go_quiet ((first | (go_at_call 299; with_reducible exact Calls.quiet_of_same (N1.out _)) | (go_at_call 299; with_reducible exact Calls.quiet_of_same (N2.out _))))
    go_wp2_with (first
      | (go_at_call 298; (with_reducible refine (U1.out _).mono ?_); rintro e w2 ⟨rfl, rfl⟩)
      | (go_at_call 298; (with_reducible refine (U2.out _).mono ?_); rintro e w2 ⟨rfl, rfl⟩))
    go_ret3
    exact ⟨rfl, below_drewN B2.out _⟩
end N15.C
end Go.Proofs.YtfhaloclbbmbeaaGreat
namespace Go.Proofs.YtfhaloclbbmbeaaGreat
open Go.RowKit
def FewG (LL : List (List Pt)) : Prop := (∀ i, i < LL.length → (ct LL i).length ≤ 100) ∧ LL.length ≤ 20
instance (LL : List (List Pt)) : Decidable (FewG LL) := inferInstanceAs (Decidable (_ ∧ _))
end Go.Proofs.YtfhaloclbbmbeaaGreat
namespace Go.Proofs.YtfhaloclbbmbeaaGreat
open Go.RowKit
namespace N15
abbrev Shp := List (List Pt) × List C.Prt
def sh (SS : List Shp) (i : Nat) : Shp := SS.getD i ([], [])
structure Shl (w : World) (A : Option Addr) (m : Nat) (SS : List Shp) : Prop where
  len : SS.length = m
  get : ∀ i, i < m → ∃ ad B c B' c', A = some ad ∧ ad.block < w.heap.size ∧ w.cell? (ad.add (i * 2)) = some (.slice B (sh SS i).1.length c) ∧ w.cell? (ad.add (i * 2 + 1)) = some (.slice B' (sh SS i).2.length c') ∧ Ctl w B (sh SS i).1.length (sh SS i).1 ∧ C.Prl w B' (sh SS i).2.length (sh SS i).2
theorem Shl.bel {w w' : World} {A : Option Addr} {m : Nat} {SS : List Shp} (h : Shl w A m SS) (hb : Below w.heap.size w w') : Shl w' A m SS :=
  ⟨h.len, fun i hi => by
    obtain ⟨ad, B, c, B', c', h1, h2, h3, h4, h5, h6⟩ := h.get i hi
    exact ⟨ad, B, c, B', c', h1, Nat.lt_of_lt_of_le h2 hb.size, by rw [hb.cell (by rw [block_of_add]; exact h2)]; exact h3, by rw [hb.cell (by rw [block_of_add]; exact h2)]; exact h4, h5.bel hb, h6.bel hb⟩⟩
theorem Shl.at_ {w : World} {A : Option Addr} {m : Nat} {SS : List Shp} (h : Shl w A m SS) {W : World} (hb : Below w.heap.size w W) {i : Nat} (hi : i < m) :
    ∃ ad B c B' c', A = some ad ∧ W.cell? (ad.add (i * 2)) = some (.slice B (sh SS i).1.length c) ∧ W.cell? { block := (ad.add (i * 2)).block, off := (ad.add (i * 2)).off + 1 } = some (.slice B' (sh SS i).2.length c') ∧ Ctl W B (sh SS i).1.length (sh SS i).1 ∧ C.Prl W B' (sh SS i).2.length (sh SS i).2 := by
  obtain ⟨ad, B, c, B', c', h1, h2, h3, h4, h5, h6⟩ := (h.bel hb).get i hi
  exact ⟨ad, B, c, B', c', h1, h3, by rw [add_next]; exact h4, h5, h6⟩
def okSh (s : Shp) (n : Int) : Prop := ¬ (0 < s.1.length ∧ 0 < s.2.length) ∧ MayG s.1 ∧ (0 < s.2.length → C.MayL s.2 n)
instance (s : Shp) (n : Int) : Decidable (okSh s n) := inferInstanceAs (Decidable (¬ (0 < s.1.length ∧ 0 < s.2.length) ∧ MayG s.1 ∧ (0 < s.2.length → C.MayL s.2 n)))
def MayS (SS : List Shp) : Prop := (1 ≤ SS.length ∧ SS.length ≤ 1024) ∧ ∀ i, i < SS.length → okSh (sh SS i) (SS.length : Int)
instance (SS : List Shp) : Decidable (MayS SS) := inferInstanceAs (Decidable ((1 ≤ SS.length ∧ SS.length ≤ 1024) ∧ ∀ i, i < SS.length → okSh (sh SS i) (SS.length : Int)))
def LimS (SS : List Shp) : Prop := ∀ i, i < SS.length → (sh SS i).1.length ≤ 1000 ∧ (∀ j, j < (sh SS i).1.length → (ct (sh SS i).1 j).length ≤ 5000) ∧ (sh SS i).2.length ≤ 1000
def Bs (w : World) (b : Nat) (B : Option Addr) (n c : Nat) (B' : Option Addr) (n' c' : Nat) : Prop := w.heap[b]? = some (.cells #[.slice B n c, .slice B' n' c'] 73 (0, 0))
section
variable {w w' : World} {b : Nat} {B B' : Option Addr} {n c n' c' : Nat}
theorem Bs.lt (k : Bs w b B n c B' n' c') : b < w.heap.size := heap_lt k
theorem Bs.cells (k : Bs w b B n c B' n' c') : w.cell? ⟨b, 0, none⟩ = some (.slice B n c) ∧ w.cell? ⟨b, 1, none⟩ = some (.slice B' n' c') := ⟨cell_of_row w b 0 _ 73 (0, 0) k, cell_of_row w b 1 _ 73 (0, 0) k⟩
theorem Bs.bel (k : Bs w b B n c B' n' c') (hb : Below w.heap.size w w') : Bs w' b B n c B' n' c' := (hb.block b k.lt).trans k
end
theorem Bs.new (w : World) (B : Option Addr) (n c : Nat) (B' : Option Addr) (n' c' : Nat) : Bs (w.alloc (.cells #[.slice B n c, .slice B' n' c'] 73)) w.heap.size B n c B' n' c' := heap_alloc_new w _
end N15
end Go.Proofs.YtfhaloclbbmbeaaGreat
namespace Go.Proofs.YtfhaloclbbmbeaaGreat
open Go.RowKit
namespace N15
def fewOne (s : Shp) : Prop := (s.1.length ≤ 10 ∧ s.2.length ≤ 10) ∧ ∀ j, j < s.1.length → (ct s.1 j).length ≤ 40
def FewS (SS : List Shp) : Prop := SS.length ≤ 20 ∧ ∀ i, i < SS.length → fewOne (sh SS i)
instance (s : Shp) : Decidable (fewOne s) := inferInstanceAs (Decidable ((s.1.length ≤ 10 ∧ s.2.length ≤ 10) ∧ ∀ j, j < s.1.length → (ct s.1 j).length ≤ 40))
instance (SS : List Shp) : Decidable (FewS SS) := inferInstanceAs (Decidable (SS.length ≤ 20 ∧ ∀ i, i < SS.length → fewOne (sh SS i)))
end N15
end Go.Proofs.YtfhaloclbbmbeaaGreat
namespace Go.Proofs.YtfhaloclbbmbeaaGreat
open Go.RowKit
namespace N15
def okMv (p : C.Prt) (q : Pt) : Prop := (C.mvA p q.1 q.2.1).2.2 = 0
instance (p : C.Prt) (q : Pt) : Decidable (okMv p q) := inferInstanceAs (Decidable (_ = _))
def mvPt (p : C.Prt) (q : Pt) : Pt := ((C.mvA p q.1 q.2.1).1, (C.mvA p q.1 q.2.1).2.1, q.2.2)
end N15
def pt (L : List Pt) (j : Nat) : Pt := L.getD j (0, 0, false)
namespace N15
def okMvL (p : C.Prt) (L : List Pt) : Prop := ∀ j, j < L.length → okMv p (pt L j)
def okMvC (p : C.Prt) (LL : List (List Pt)) : Prop := ∀ i, i < LL.length → okMvL p (ct LL i)
instance (p : C.Prt) (L : List Pt) : Decidable (okMvL p L) := inferInstanceAs (Decidable (∀ j, j < L.length → okMv p (pt L j)))
instance (p : C.Prt) (LL : List (List Pt)) : Decidable (okMvC p LL) := inferInstanceAs (Decidable (∀ i, i < LL.length → okMvL p (ct LL i)))
def movE (p : C.Prt) (LL : List (List Pt)) : Int := if okMvC p LL then 0 else 2
def movL (p : C.Prt) (LL : List (List Pt)) : List (List Pt) := if okMvC p LL then LL.map (List.map (mvPt p)) else []
end N15
theorem cell_lt {w : World} {a : Addr} {v : Value} (h : w.cell? a = some v) : a.block < w.heap.size := by
  rcases Nat.lt_or_ge a.block w.heap.size with hl | hl
  · exact hl
  · unfold World.cell? at h
    rw [Array.getElem?_eq_none hl] at h
    cases h
theorem take_succ_map (f : Pt → Pt) (L : List Pt) (j : Nat) (h : j < L.length) : (L.take (j + 1)).map f = (L.take j).map f ++ [f (pt L j)] := by
  rw [List.take_add_one, List.getElem?_eq_getElem h, List.map_append]
  simp [pt, h]
theorem pt_eq (L : List Pt) (j : Nat) : pt L j = (px L j, py L j, po L j) := rfl
end Go.Proofs.YtfhaloclbbmbeaaGreat
namespace Go.Proofs.YtfhaloclbbmbeaaGreat
open Go.RowKit
theorem own_base {w : World} {b1 b2 e size n : Nat} {v : Value} {xs : List Value} (h : w.ownsRow b1 e size v n xs) (hb : b2 ≤ b1) : w.ownsRow b2 e size v n xs := by
  refine ⟨h.1, ?_⟩
  rcases h.2 with h1 | ⟨g, cap, cur, h1, h3, h4⟩
  · exact .inl h1
  · exact .inr ⟨g, cap, cur, h1, Nat.le_trans hb h3, h4⟩
end Go.Proofs.YtfhaloclbbmbeaaGreat
namespace Go.Proofs.YtfhaloclbbmbeaaGreat
open Go.RowKit
abbrev GR := Int × List (List Pt) × Int × Int
def tots (LL : List (List Pt)) : Nat := tot LL LL.length
namespace N15
def goL (rec : Int → List Int → Int → GR) (pl : Bool) (now : List Int) : List C.Prt → List (List Pt) → Int → Int → GR
  | [], out, d, v => (0, out, d, v)
  | p :: r, out, d, v =>
    if p.1 ∈ now then (9, [], 0, v) else if 8 < now.length then (8, [], 0, v) else if 4096 < v + 1 then (6, [], 0, v + 1)
    else if (rec p.1 now (v + 1)).1 ≠ 0 then ((rec p.1 now (v + 1)).1, [], 0, (rec p.1 now (v + 1)).2.2.2)
    else if pl = true then goL rec pl now r out (max d ((rec p.1 now (v + 1)).2.2.1 + 1)) (rec p.1 now (v + 1)).2.2.2
    else if movE p (rec p.1 now (v + 1)).2.1 ≠ 0 then (movE p (rec p.1 now (v + 1)).2.1, [], 0, (rec p.1 now (v + 1)).2.2.2)
    else if 256 < (out ++ movL p (rec p.1 now (v + 1)).2.1).length ∨ 4096 < tots (out ++ movL p (rec p.1 now (v + 1)).2.1) then (6, [], 0, (rec p.1 now (v + 1)).2.2.2)
    else goL rec pl now r (out ++ movL p (rec p.1 now (v + 1)).2.1) (max d ((rec p.1 now (v + 1)).2.2.1 + 1)) (rec p.1 now (v + 1)).2.2.2
def goP (SS : List Shp) (pl : Bool) : Nat → Int → List Int → Int → GR
  | 0, _, _, v => (8, [], 0, v)
  | n + 1, gl, inn, v => if (sh SS gl.toNat).2 = [] then (0, (sh SS gl.toNat).1, 0, v) else goL (goP SS pl n) pl (inn ++ [gl]) (sh SS gl.toNat).2 [] 0 v
end N15
theorem tot_mono (LL : List (List Pt)) : ∀ m k, k ≤ m → tot LL k ≤ tot LL m
  | 0, k, h => by rw [show k = 0 by omega]; exact Nat.le_refl _
  | m + 1, k, h => by
    by_cases e : k = m + 1
    · rw [e]; exact Nat.le_refl _
    · have := tot_mono LL m k (by omega)
      simp only [tot]
      omega
def OutOk (LL : List (List Pt)) : Prop := LL.length ≤ 256 ∧ ∀ i, i < LL.length → (ct LL i).length ≤ 4096
theorem OutOk.nil : OutOk [] := ⟨by simp, fun i hi => absurd hi (by simp)⟩
theorem tots_ok {LL : List (List Pt)} (h1 : LL.length ≤ 256) (h2 : tots LL ≤ 4096) : OutOk LL := ⟨h1, fun i hi => by
  have h := tot_mono LL LL.length (i + 1) hi
  have e : tot LL (i + 1) = tot LL i + (ct LL i).length := rfl
  unfold tots at h2
  omega⟩
namespace N15
theorem may_ok {LL : List (List Pt)} (h : MayG LL) : OutOk LL := ⟨h.1, fun i hi => by
  have := (h.2 i hi).1.2
  simp only [tot] at this
  omega⟩
end N15
def Bnd (R : GR) : Prop := (0 ≤ R.2.2.2 ∧ R.2.2.2 ≤ 4097) ∧ (R.1 = 0 → R.2.2.2 ≤ 4096 ∧ OutOk R.2.1)
theorem Bnd.err {x v : Int} (hx : x ≠ 0) (h1 : 0 ≤ v) (h2 : v ≤ 4097) : Bnd (x, [], 0, v) := ⟨⟨h1, h2⟩, fun h => absurd h hx⟩
namespace N15
theorem goL_bnd (rec : Int → List Int → Int → GR) (pl : Bool) (now : List Int) (hr : ∀ g i v, 0 ≤ v → v ≤ 4096 → Bnd (rec g i v)) :
    ∀ (r : List C.Prt) (out : List (List Pt)) (d v : Int), 0 ≤ v → v ≤ 4096 → OutOk out → Bnd (goL rec pl now r out d v)
  | [], out, d, v, h1, h2, h3 => ⟨⟨h1, by show v ≤ 4097; omega⟩, fun _ => ⟨h2, h3⟩⟩
  | p :: r, out, d, v, h1, h2, h3 => by
    unfold goL
    by_cases c1 : p.1 ∈ now
    · rw [if_pos c1]; exact Bnd.err (by decide) h1 (by omega)
    rw [if_neg c1]
    by_cases c2 : 8 < now.length
    · rw [if_pos c2]; exact Bnd.err (by decide) h1 (by omega)
    rw [if_neg c2]
    by_cases c3 : 4096 < v + 1
    · rw [if_pos c3]; exact Bnd.err (by decide) (by omega) (by omega)
    rw [if_neg c3]
    obtain ⟨⟨b1, b2⟩, b3⟩ := hr p.1 now (v + 1) (by omega) (by omega)
    by_cases c4 : (rec p.1 now (v + 1)).1 ≠ 0
    · rw [if_pos c4]; exact Bnd.err c4 b1 b2
    rw [if_neg c4]
    obtain ⟨b4, b5⟩ := b3 (Classical.byContradiction c4)
    by_cases c5 : pl = true
    · rw [if_pos c5]; exact goL_bnd rec pl now hr r _ _ _ b1 b4 h3
    rw [if_neg c5]
    by_cases c6 : movE p (rec p.1 now (v + 1)).2.1 ≠ 0
    · rw [if_pos c6]; exact Bnd.err c6 b1 b2
    rw [if_neg c6]
    by_cases c7 : 256 < (out ++ movL p (rec p.1 now (v + 1)).2.1).length ∨ 4096 < tots (out ++ movL p (rec p.1 now (v + 1)).2.1)
    · rw [if_pos c7]; exact Bnd.err (by decide) b1 b2
    rw [if_neg c7]
    exact goL_bnd rec pl now hr r _ _ _ b1 b4 (tots_ok (Nat.not_lt.1 fun h => c7 (.inl h)) (Nat.not_lt.1 fun h => c7 (.inr h)))
theorem sh_may {SS : List Shp} (h : MayS SS) (i : Nat) : MayG (sh SS i).1 := by
  by_cases hi : i < SS.length
  · exact (h.2 i hi).2.1
  · have e : sh SS i = ([], []) := by unfold sh; rw [List.getD_eq_getElem?_getD, List.getElem?_eq_none (by omega)]; rfl
    rw [e]
    exact ⟨by simp, fun i hi => absurd hi (by simp)⟩
theorem goP_bnd {SS : List Shp} (hM : MayS SS) (pl : Bool) : ∀ (n : Nat) (gl : Int) (inn : List Int) (v : Int), 0 ≤ v → v ≤ 4096 → Bnd (goP SS pl n gl inn v)
  | 0, _, _, v, h1, h2 => Bnd.err (by decide) h1 (by omega)
  | n + 1, gl, inn, v, h1, h2 => by
    unfold goP
    by_cases c : (sh SS gl.toNat).2 = []
    · rw [if_pos c]; exact ⟨⟨h1, by show v ≤ 4097; omega⟩, fun _ => ⟨h2, may_ok (sh_may hM _)⟩⟩
    · rw [if_neg c]
      exact goL_bnd (goP SS pl n) pl (inn ++ [gl]) (fun g i v h1 h2 => goP_bnd hM pl n g i v h1 h2) _ [] 0 v h1 h2 OutOk.nil
end N15
end Go.Proofs.YtfhaloclbbmbeaaGreat
