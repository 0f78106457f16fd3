/- Proved here: what the document's numbers of any size answer and leave in memory (ported). Conditions stand at each. -/
import Derived.Test.YtpobhegllhhdgaaGreatGB
import Derived.Laws.Bits64b
import Derived.IntWalk
import Derived.Deep.CutBlock
import Derived.Deep.DeepCutAuto
import Derived.Deep.CutRange
namespace Go.Proofs.YtpobhegllhhdgaaGreat
open Go.RowKit

theorem isnan32 (x : Nat) (w : World) : Calls Tryz.prog 124 #[.int .u32 (x : Int)] w fun e w' => e = .returned (.bool false) ∧ w = w' := by
  go_enter Tryz.func124, Tryz.ntmps124
  go_wp2
  go_ret
  exact ⟨rfl, rfl⟩
theorem cmpu32_any (x y : Nat) (w : World) : Calls Tryz.prog 112 #[.int .u32 (x : Int), .int .u32 (y : Int)] w fun e w' => e = .returned (.int .i64 (cmpI x y)) ∧ w = w' := by
  rcases Nat.lt_trichotomy x y with h | h | h
  · have hc := Lib.hid (cmpI_lt (a := x) (b := y) (by omega))
    go_enter Tryz.func112, Tryz.ntmps112
    go_wp2_with (go_at_call 124; (with_reducible refine (isnan32 _ _).mono ?_); rintro e w' ⟨rfl, rfl⟩)
    go_ret
    exact ⟨ret_int hc.out.symm, rfl⟩
  · have hc := Lib.hid (cmpI_eq (a := x) (b := y) (by omega))
    have h1 : ¬ x < y := by omega
    have h2 : ¬ y < x := by omega
    clear h
    go_enter Tryz.func112, Tryz.ntmps112
    go_wp2_with (go_at_call 124; (with_reducible refine (isnan32 _ _).mono ?_); rintro e w' ⟨rfl, rfl⟩)
    go_ret
    exact ⟨ret_int hc.out.symm, rfl⟩
  · have hc := Lib.hid (cmpI_gt (a := x) (b := y) (by omega))
    have h1 : ¬ x < y := by omega
    go_enter Tryz.func112, Tryz.ntmps112
    go_wp2_with (go_at_call 124; (with_reducible refine (isnan32 _ _).mono ?_); rintro e w' ⟨rfl, rfl⟩)
    go_ret
    exact ⟨ret_int hc.out.symm, rfl⟩
theorem cmpint_any (x y : Int) (w : World) : Calls Tryz.prog 111 #[.int .i64 x, .int .i64 y] w fun e w' => e = .returned (.int .i64 (cmpI x y)) ∧ w = w' :=
  (Tryz.cmp_Compare_int x y w).mono fun _ _ h => ⟨by rw [h.1, compareInt_eq], h.2.symm⟩
theorem cmpu32_q (x y : Nat) (w : World) : Calls Tryz.prog 112 #[.int .u32 (x : Int), .int .u32 (y : Int)] w fun e w' => e = .returned (.int .i64 (cmpI x y)) ∧ w' = w :=
  (cmpu32_any x y w).mono fun _ _ h => ⟨h.1, h.2.symm⟩
/-- From k on the digits are the same. -/
def SameFrom (xs ys : List Nat) (k : Nat) : Prop := ∀ j, k ≤ j → dat xs j = dat ys j
theorem SameFrom.start {xs ys : List Nat} {m : Nat} (hx : xs.length ≤ m) (hy : ys.length ≤ m) : SameFrom xs ys m := fun j hj => by
  rw [dat_beyond (by omega), dat_beyond (by omega)]
theorem SameFrom.succ {xs ys : List Nat} {k : Nat} (h : SameFrom xs ys (k + 1)) (h0 : dat xs k = dat ys k) : SameFrom xs ys k := fun j hj => by
  rcases Nat.lt_or_ge k j with h1 | h1
  · exact h j h1
  · obtain rfl : j = k := by omega
    exact h0
theorem cmp_dw_eq {xs ys : List Nat} (h : SameFrom xs ys 0) : cmpI (dw xs) (dw ys) = 0 := cmpI_eq (by rw [dw_ext fun j => h j (Nat.zero_le _)])
theorem cmp_dw {xs ys : List Nat} {k : Nat} (hx : Eg xs) (hy : Eg ys) (h : SameFrom xs ys (k + 1)) (hne : dat xs k ≠ dat ys k) : cmpI (dw xs) (dw ys) = cmpI (dat xs k) (dat ys k) := by
  rcases Nat.lt_or_gt_of_ne hne with h1 | h1
  · have := lessw_of hx h1 fun j hj => h j hj
    rw [cmpI_lt (by omega), cmpI_lt (by omega)]
  · have := lessw_of hy h1 fun j hj => (h j hj).symm
    rw [cmpI_gt (by omega), cmpI_gt (by omega)]
theorem cmp_dw_len {xs ys : List Nat} (hx : Eg xs) (hy : Eg ys) (tx : Top xs) (ty : Top ys) (hne : xs.length ≠ ys.length) : cmpI (dw xs) (dw ys) = cmpI xs.length ys.length := by
  rcases Nat.lt_or_gt_of_ne hne with h1 | h1
  · have := len_lt32 ty hx h1
    rw [cmpI_lt (by omega), cmpI_lt (by omega)]
  · have := len_lt32 tx hy h1
    rw [cmpI_gt (by omega), cmpI_gt (by omega)]
theorem cmp_dv_eq {xs ys : List Nat} (h : SameFrom xs ys 0) : cmpI (dv xs) (dv ys) = 0 := cmpI_eq (by rw [dv_ext fun j => h j (Nat.zero_le _)])
def LessR (xs ys : List Nat) (m : Nat) (i : Value) : Prop := ∃ k : Nat, i = .int .i64 ((k : Int) - 1) ∧ k ≤ m ∧ SameFrom xs ys k
set_option maxHeartbeats 1000000 in
set_option maxRecDepth 100000 in
theorem compare_any (v u : Value) (xs ys : List Nat) (w : World) (hv : Arr w .u32 v xs) (hu : Arr w .u32 u ys) (hx : Eg xs) (hy : Eg ys) (tx : Top xs) (ty : Top ys) (hxl : xs.length ≤ 1000000) :
    Calls Tryz.prog 94 #[v, u] w fun e w' => e = .returned (.int .i64 (cmpI (dw xs) (dw ys))) ∧ ∃ n, w' = w.drewN n := by
  obtain ⟨Av, cv, rfl⟩ := hv.slice
  obtain ⟨Au, cu, rfl⟩ := hu.slice
  obtain ⟨m, hm⟩ : ∃ m, m = xs.length := ⟨_, rfl⟩
  obtain ⟨n, hn⟩ : ∃ n, n = ys.length := ⟨_, rfl⟩
  rw [← hm] at hv hxl
  rw [← hn] at hu
  have HV := Lib.hid hv
  have HU := Lib.hid hu
  have HX := Lib.hid hx
  have HY := Lib.hid hy
  have HT := Lib.hid (And.intro tx ty)
  have HM := Lib.hid hm
  have HN := Lib.hid hn
  rw [← hm, ← hn]
  clear hv hu hx hy tx ty hm hn
  by_cases hmn : m = n
  · obtain rfl := hmn
    go_enter Tryz.func94, Tryz.ntmps94
    go_wp2_with fail
    go_loopw [5] (fun i wr => LessR xs ys m i ∧ ∃ n, wr = w.drewN n) (fun i _ => (intOf i + 1).toNat)
    case atStart => exact ⟨⟨m, rfl, Nat.le_refl _, SameFrom.start (by rw [← HM.out]; exact Nat.le_refl _) (by rw [← HN.out]; exact Nat.le_refl _)⟩, 0, rfl⟩
    case round =>
      obtain ⟨⟨k, hk, hkm, hs⟩, nd, hwr⟩ := hrel
      have HS := Lib.hid hs
      have HW := Lib.hid hwr
      clear hs hwr
      rcases k with _ | k
      · obtain rfl : u5 = .int .i64 (-1) := hk
        go_wp2_with fail
        go_ret
        exact ⟨ret_int (cmp_dw_eq HS.out).symm, nd, HW.out⟩
      · obtain rfl : u5 = .int .i64 (k : Int) := by rw [hk]; congr 1; omega
        clear hk
        have HVr := Lib.hid (show Arr wr .u32 (.slice Av m cv) xs by rw [HW.out]; exact HV.out.drewN nd)
        have HUr := Lib.hid (show Arr wr .u32 (.slice Au m cu) ys by rw [HW.out]; exact HU.out.drewN nd)
        obtain ⟨ad, rfl, _, hx1⟩ := HVr.out.get k (by rw [← HM.out]; omega)
        obtain ⟨bd, rfl, _, hx2⟩ := HUr.out.get k (by rw [← HN.out]; omega)
        by_cases hne : dat xs k = dat ys k
        · have hR : LessR xs ys m (.int .i64 ((k : Int) - 1)) := ⟨k, rfl, by omega, HS.out.succ hne⟩
          have HR := Lib.hid hR
          have hb : ((dat xs k : Int) != (dat ys k : Int)) = false := by simp [hne]
          clear hR hne
          go_wp2_with fail
          go_quiet (fail)
          go_wp2_with fail
          exact ⟨⟨HR.out, nd + nq, by rw [HW.out, World.drewN_drewN]⟩, by simp [intOf]⟩
        · have hb : ((dat xs k : Int) != (dat ys k : Int)) = true := by simp; omega
          have HC := Lib.hid (cmp_dw HX.out HY.out HS.out hne)
          clear hne
          go_wp2_with fail
          go_quiet (fail)
          obtain ⟨W, hW⟩ : ∃ W, W = wr.drewN nq := ⟨_, rfl⟩
          have hx1' : W.cell? (ad.add k) = some (.int .u32 (dat xs k : Int)) := by rw [hW]; exact hx1
          have hx2' : W.cell? (bd.add k) = some (.int .u32 (dat ys k : Int)) := by rw [hW]; exact hx2
          rw [← hW]
          have HW2 := Lib.hid (show ∃ n1, W = wr.drewN n1 from ⟨nq, hW⟩)
          clear hW hx1 hx2 HVr HUr
          go_wp2_with fail
          go_quiet ((go_at_call 112; exact Calls.quiet_of_same (cmpu32_q (dat xs k) (dat ys k) _)))
          go_wp2_with fail
          go_ret
          obtain ⟨n1, hn1⟩ := HW2.out
          exact ⟨ret_int HC.out.symm, nd + (n1 + nq), by rw [hn1, HW.out, World.drewN_drewN, World.drewN_drewN]⟩
  · have hb : ((m : Int) != (n : Int)) = true := by simp; omega
    have HC := Lib.hid (cmp_dw_len HX.out HY.out HT.out.1 HT.out.2 (by rw [← HM.out, ← HN.out]; exact hmn))
    rw [← HM.out, ← HN.out] at HC
    go_enter Tryz.func94, Tryz.ntmps94
    go_wp2_with (go_at_call 111; (with_reducible refine (cmpint_any (m : Int) (n : Int) _).mono ?_); rintro e w' ⟨rfl, rfl⟩)
    go_ret
    exact ⟨ret_int HC.out.symm, 0, rfl⟩
theorem cmp_dv {xs ys : List Nat} {k : Nat} (hx : Dg xs) (hy : Dg ys) (h : SameFrom xs ys (k + 1)) (hne : dat xs k ≠ dat ys k) : cmpI (dv xs) (dv ys) = cmpI (dat xs k) (dat ys k) := by
  rcases Nat.lt_or_gt_of_ne hne with h1 | h1
  · have := less_of hx h1 fun j hj => h j hj
    rw [cmpI_lt (by omega), cmpI_lt (by omega)]
  · have := less_of hy h1 fun j hj => (h j hj).symm
    rw [cmpI_gt (by omega), cmpI_gt (by omega)]
theorem cmp_dv_len {xs ys : List Nat} (hx : Dg xs) (hy : Dg ys) (tx : Top xs) (ty : Top ys) (hne : xs.length ≠ ys.length) : cmpI (dv xs) (dv ys) = cmpI xs.length ys.length := by
  rcases Nat.lt_or_gt_of_ne hne with h1 | h1
  · have := len_lt16 ty hx h1
    rw [cmpI_lt (by omega), cmpI_lt (by omega)]
  · have := len_lt16 tx hy h1
    rw [cmpI_gt (by omega), cmpI_gt (by omega)]
set_option maxHeartbeats 2000000 in
set_option maxRecDepth 100000 in
theorem less_any (v u : Value) (xs ys : List Nat) (w : World) (hv : Arr w .u64 v xs) (hu : Arr w .u64 u ys) (hx : Dg xs) (hy : Dg ys) (tx : Top xs) (ty : Top ys) (hxl : xs.length ≤ 1000000) :
    Calls Tryz.prog 102 #[v, u] w fun e w' => e = .returned (.int .i64 (cmpI (dv xs) (dv ys))) ∧ ∃ n, w' = w.drewN n := by
  obtain ⟨Av, cv, rfl⟩ := hv.slice
  obtain ⟨Au, cu, rfl⟩ := hu.slice
  obtain ⟨m, hm⟩ : ∃ m, m = xs.length := ⟨_, rfl⟩
  obtain ⟨n, hn⟩ : ∃ n, n = ys.length := ⟨_, rfl⟩
  rw [← hm] at hv hxl
  rw [← hn] at hu
  have HV := Lib.hid hv
  have HU := Lib.hid hu
  have HX := Lib.hid hx
  have HY := Lib.hid hy
  have HT := Lib.hid (And.intro tx ty)
  have HM := Lib.hid hm
  have HN := Lib.hid hn
  rw [← hm, ← hn]
  clear hv hu hx hy tx ty hm hn
  by_cases hmn : m = n
  · obtain rfl := hmn
    go_enter Tryz.func102, Tryz.ntmps102
    go_wp2_with fail
    go_loopw [5] (fun i wr => LessR xs ys m i ∧ ∃ n, wr = w.drewN n) (fun i _ => (intOf i + 1).toNat)
    case atStart => exact ⟨⟨m, rfl, Nat.le_refl _, SameFrom.start (by rw [← HM.out]; exact Nat.le_refl _) (by rw [← HN.out]; exact Nat.le_refl _)⟩, 0, rfl⟩
    case round =>
      obtain ⟨⟨k, hk, hkm, hs⟩, nd, hwr⟩ := hrel
      have HS := Lib.hid hs
      have HW := Lib.hid hwr
      clear hs hwr
      rcases k with _ | k
      · obtain rfl : u5 = .int .i64 (-1) := hk
        go_wp2_with fail
        go_ret
        exact ⟨ret_int (cmp_dv_eq HS.out).symm, nd, HW.out⟩
      · obtain rfl : u5 = .int .i64 (k : Int) := by rw [hk]; congr 1; omega
        clear hk
        have HVr := Lib.hid (show Arr wr .u64 (.slice Av m cv) xs by rw [HW.out]; exact HV.out.drewN nd)
        have HUr := Lib.hid (show Arr wr .u64 (.slice Au m cu) ys by rw [HW.out]; exact HU.out.drewN nd)
        obtain ⟨ad, rfl, _, hx1⟩ := HVr.out.get k (by rw [← HM.out]; omega)
        obtain ⟨bd, rfl, _, hx2⟩ := HUr.out.get k (by rw [← HN.out]; omega)
        rcases Nat.lt_trichotomy (dat xs k) (dat ys k) with hlt | heq | hgt
        · have HC := Lib.hid ((cmp_dv HX.out HY.out HS.out (by omega)).trans (cmpI_lt (by omega)))
          go_wp2_with fail
          go_quiet (fail)
          go_wp2_with fail
          go_ret
          exact ⟨ret_int HC.out.symm, nd + nq, by rw [HW.out, World.drewN_drewN]⟩
        · have hR : LessR xs ys m (.int .i64 ((k : Int) - 1)) := ⟨k, rfl, by omega, HS.out.succ heq⟩
          have HR := Lib.hid hR
          have h1 : ¬ dat xs k < dat ys k := by omega
          have h2 : ¬ dat ys k < dat xs k := by omega
          clear hR heq
          go_wp2_with fail
          go_quiet (fail)
          obtain ⟨W, hW⟩ : ∃ W, W = wr.drewN nq := ⟨_, rfl⟩
          have hx1' : W.cell? (ad.add k) = some (.int .u64 (dat xs k : Int)) := by rw [hW]; exact hx1
          have hx2' : W.cell? (bd.add k) = some (.int .u64 (dat ys k : Int)) := by rw [hW]; exact hx2
          rw [← hW]
          have HW2 := Lib.hid (show ∃ n1, W = wr.drewN n1 from ⟨nq, hW⟩)
          clear hW hx1 hx2 HVr HUr
          go_wp2_with fail
          go_quiet (fail)
          go_wp2_with fail
          obtain ⟨n1, hn1⟩ := HW2.out
          exact ⟨⟨HR.out, nd + (n1 + nq), by rw [hn1, HW.out, World.drewN_drewN, World.drewN_drewN]⟩, by simp [intOf]⟩
        · have HC := Lib.hid ((cmp_dv HX.out HY.out HS.out (by omega)).trans (cmpI_gt (by omega)))
          have h1 : ¬ dat xs k < dat ys k := by omega
          go_wp2_with fail
          go_quiet (fail)
          obtain ⟨W, hW⟩ : ∃ W, W = wr.drewN nq := ⟨_, rfl⟩
          have hx1' : W.cell? (ad.add k) = some (.int .u64 (dat xs k : Int)) := by rw [hW]; exact hx1
          have hx2' : W.cell? (bd.add k) = some (.int .u64 (dat ys k : Int)) := by rw [hW]; exact hx2
          rw [← hW]
          have HW2 := Lib.hid (show ∃ n1, W = wr.drewN n1 from ⟨nq, hW⟩)
          clear hW hx1 hx2 HVr HUr
          go_wp2_with fail
          go_quiet (fail)
          go_wp2_with fail
          go_ret
          obtain ⟨n1, hn1⟩ := HW2.out
          exact ⟨ret_int HC.out.symm, nd + (n1 + nq), by rw [hn1, HW.out, World.drewN_drewN, World.drewN_drewN]⟩
  · have HC := Lib.hid (cmp_dv_len HX.out HY.out HT.out.1 HT.out.2 (by rw [← HM.out, ← HN.out]; exact hmn))
    rw [← HM.out, ← HN.out] at HC
    have hb : ((m : Int) != (n : Int)) = true := by simp; omega
    rcases Nat.lt_or_gt_of_ne hmn with hlt | hgt
    · have HC2 := Lib.hid (HC.out.trans (cmpI_lt (by omega)))
      go_enter Tryz.func102, Tryz.ntmps102
      go_wp2_with fail
      go_ret
      exact ⟨ret_int HC2.out.symm, 0, rfl⟩
    · have HC2 := Lib.hid (HC.out.trans (cmpI_gt (by omega)))
      have h1 : ¬ m < n := by omega
      go_enter Tryz.func102, Tryz.ntmps102
      go_wp2_with fail
      go_ret
      exact ⟨ret_int HC2.out.symm, 0, rfl⟩
end Go.Proofs.YtpobhegllhhdgaaGreat

namespace Go.Proofs.YtpobhegllhhdgaaGreat
open Go.RowKit

theorem lz_any (y s : Nat) (w : World) (hy : y < 18446744073709551616) (hs : s = 64 - Lib.bitLen y) (hb : Lib.bitLen y ≤ 64) :
    Calls Tryz.prog 137 #[.int .u64 (y : Int)] w fun e w' => e = .returned (.int .i64 (s : Int)) ∧ w = w' :=
  (Tryz.bits_LeadingZeros64 (y : Int) w (by omega) (by omega)).mono fun _ _ h => ⟨by rw [h.1, hs]; simp; omega, h.2.symm⟩
set_option maxHeartbeats 400000 in
theorem div64_small (lo y : Nat) (w : World) (hl : lo < 18446744073709551616) (hy : 0 < y) (hy' : y < 18446744073709551616) :
    Calls Tryz.prog 133 #[.int .u64 0, .int .u64 (lo : Int), .int .u64 (y : Int)] w fun e w' => e = .returned (.tuple #[.int .u64 ((lo / y : Nat) : Int), .int .u64 ((lo % y : Nat) : Int)]) ∧ ∃ n, w' = w.drewN n := by
  have h1 : ((y : Int) == 0) = false := by simp; omega
  have h2 : ¬ y ≤ 0 := by omega
  go_enter Tryz.func133, Tryz.ntmps133
  go_wp2_with fail
  go_quiet (fail)
  go_wp2_with fail
  have e : IntKind.u64.wrap ((lo : Int) / (y : Int)) = ((lo / y : Nat) : Int) := by
    have h4 : lo / y ≤ lo := Nat.div_le_self _ _
    have h5 : (lo : Int) / (y : Int) = ((lo / y : Nat) : Int) := by simp
    rw [h5]
    exact IntWalk.u64_in _ ⟨Int.natCast_nonneg _, by omega⟩
  go_ret2
  exact ⟨by rw [e]; simp, nq, rfl⟩
/-- What a product of 64 bits is where it doesn't go round. -/
theorem wrapN {x : Int} {n : Nat} (h : x = (n : Int)) (hn : n < 18446744073709551616) : IntKind.u64.wrap x = (n : Int) := by
  rw [h]
  exact IntWalk.u64_in _ ⟨Int.natCast_nonneg _, by omega⟩
/-- What holds at each round's head of a digit's search. -/
def KR (u y1 y0 d : Nat) (q r : Value) : Prop := ∃ qn rn : Nat, q = .int .u64 (qn : Int) ∧ r = .int .u64 (rn : Int) ∧ KnuthR u y1 y0 d qn rn
set_option maxHeartbeats 2000000 in
set_option maxRecDepth 100000 in
theorem div64_core (hi lo y s Y y1 y0 u v d1 d0 q1 r1 Q1 R1 q0 r0 Q0 R0 : Nat) (w : World) (hh : 0 < hi) (hyy : hi < y) (hs' : s ≤ 63)
    (hlz : Calls Tryz.prog 137 #[.int .u64 (y : Int)] w fun e w' => e = .returned (.int .i64 (s : Int)) ∧ w = w')
    (E1 : IntKind.u64.wrap ((y : Int) * 2 ^ s) = (Y : Int)) (E2 : (Y : Int) / 4294967296 = (y1 : Int)) (hy1 : 2147483648 ≤ y1) (hy1' : y1 < 4294967296) (hy0 : y0 < 4294967296)
    (E3 : bits .and .u64 (Y : Int) 4294967295 = (y0 : Int)) (E4 : bits .or .u64 (IntKind.u64.wrap ((hi : Int) * 2 ^ s)) ((lo : Int) / 2 ^ (64 - s)) = (u : Int))
    (E5 : IntKind.u64.wrap ((lo : Int) * 2 ^ s) = (v : Int)) (E6 : (v : Int) / 4294967296 = (d1 : Int)) (E7 : bits .and .u64 (v : Int) 4294967295 = (d0 : Int)) (hd1 : d1 < 4294967296) (hd0 : d0 < 4294967296)
    (E8 : IntKind.u64.wrap ((u : Int) / (y1 : Int)) = (q1 : Int)) (E9 : IntKind.u64.wrap ((u : Int) - IntKind.u64.wrap ((q1 : Int) * (y1 : Int))) = (r1 : Int)) (K1 : KnuthR u y1 y0 d1 q1 r1)
    (hu : u < y1 * 4294967296 + y0) (hQ1 : Q1 = (u * 4294967296 + d1) / (y1 * 4294967296 + y0))
    (E10 : IntKind.u64.wrap (IntKind.u64.wrap (IntKind.u64.wrap ((u : Int) * 4294967296) + (d1 : Int)) - IntKind.u64.wrap ((Q1 : Int) * (Y : Int))) = (R1 : Int))
    (E11 : IntKind.u64.wrap ((R1 : Int) / (y1 : Int)) = (q0 : Int)) (E12 : IntKind.u64.wrap ((R1 : Int) - IntKind.u64.wrap ((q0 : Int) * (y1 : Int))) = (r0 : Int)) (K0 : KnuthR R1 y1 y0 d0 q0 r0)
    (hR1 : R1 < y1 * 4294967296 + y0) (hQ0 : Q0 = (R1 * 4294967296 + d0) / (y1 * 4294967296 + y0))
    (E13 : IntKind.u64.wrap (IntKind.u64.wrap (IntKind.u64.wrap ((R1 : Int) * 4294967296) + (d0 : Int)) - IntKind.u64.wrap ((Q0 : Int) * (Y : Int))) = (R0 : Int)) :
    Calls Tryz.prog 133 #[.int .u64 (hi : Int), .int .u64 (lo : Int), .int .u64 (y : Int)] w fun e w' => e = .returned (.tuple #[.int .u64 (IntKind.u64.wrap (IntKind.u64.wrap ((Q1 : Int) * 4294967296) + (Q0 : Int))), .int .u64 ((R0 : Int) / 2 ^ s)]) ∧ w = w' := by
  have h1 : ((y : Int) == 0) = false := by simp; omega
  have h2 : ¬ y ≤ hi := by omega
  have h3 : ((hi : Int) == 0) = false := by simp; omega
  have HQ1 := Lib.hid hQ1
  have HQ0 := Lib.hid hQ0
  have HK1 := Lib.hid K1
  have HK0 := Lib.hid K0
  have HU := Lib.hid hu
  have HR := Lib.hid hR1
  have HZ := Lib.hid hlz
  clear hQ1 hQ0 K1 K0 hu hR1 hlz
  go_enter Tryz.func133, Tryz.ntmps133
  go_upto_block 0 with (go_at_call 137; (with_reducible refine HZ.out.mono ?_); rintro e w' ⟨rfl, rfl⟩)
  go_cut [15, 16] from 67 to 85 (fun q r wx => q = .int .u64 (Q1 : Int) ∧ w = wx)
  case first =>
    go_wp2_with fail
    clear E1 E2 E3 E4 E5 E6 E7 E8 E9 E10 E11 E12 E13
    go_loop [15, 16] (fun q r => KR u y1 y0 d1 q r) (fun q _ => (intOf q).toNat)
    case atStart => exact ⟨_, _, rfl, rfl, HK1.out⟩
    case round =>
      obtain ⟨q, r, rfl, rfl, hk⟩ := hrel
      have hql : (q : Int) ≤ 4294967297 := by have := hk.le; omega
      have hrl : (r : Int) < 4294967296 := by have := hk.rl; omega
      have hdl : (d1 : Int) < 4294967296 := by omega
      have P1 : Hid (q * y0 < 18446744073709551616) := by
        have := Nat.mul_le_mul hk.le (show y0 ≤ 4294967295 by omega)
        exact Nat.lt_of_le_of_lt this (by decide)
      obtain ⟨P, hP⟩ : ∃ P, P = q * y0 := ⟨_, rfl⟩
      have F1 : IntKind.u64.wrap ((q : Int) * (y0 : Int)) = (P : Int) := wrapN (by rw [hP]; simp) (by rw [hP]; exact P1.out)
      have HP := Lib.hid hP
      have HKq := Lib.hid hk
      have hyl : (2147483648 : Int) ≤ (y1 : Int) := by omega
      have hyu : (y1 : Int) < 4294967296 := by omega
      have HY := Lib.hid (And.intro hy0 (And.intro hd1 hy1))
      clear hP hk hy1 hy1' hy0 hd1 hd0
      by_cases hc3 : ¬ 4294967296 ≤ (q : Int) ∧ ¬ 4294967296 * (r : Int) + (d1 : Int) < (P : Int)
      · obtain ⟨hc, hc2⟩ := hc3
        go_wp2_with fail
        go_meet
        refine ⟨?_, rfl⟩
        have := knuth_end (d := d1) (y0 := y0) (by omega) HKq.out.ge HKq.out.eq (by have := HP.out; omega)
        rw [HQ1.out, ← this]
      · have hst := knuth_step HY.out.2.1 HU.out HKq.out (by rw [← HP.out]; omega)
        have hq1 : (1 : Int) ≤ (q : Int) := by have := hst.1; omega
        have HT := Lib.hid hst
        clear hst
        have hrel' : r + y1 < 4294967296 → KR u y1 y0 d1 (.int .u64 ((q : Int) - 1)) (.int .u64 ((r : Int) + (y1 : Int))) := fun h =>
          ⟨q - 1, r + y1, by congr 1; omega, by congr 1, ⟨HT.out.2.1, HT.out.2.2.1, by have := HT.out.2.2.2; omega, h⟩⟩
        have hfin : 4294967296 ≤ r + y1 → Value.int .u64 ((q : Int) - 1) = .int .u64 (Q1 : Int) := fun h => by
          have := knuth_end (d := d1) (y0 := y0) (by omega) HT.out.2.1 HT.out.2.2.1 (knuth_break HY.out.1 HT.out.2.2.2 h)
          rw [HQ1.out, ← this]
          congr 1
          omega
        have HREL := Lib.hid hrel'
        have HFIN := Lib.hid hfin
        clear hrel' hfin
        by_cases hb : ¬ 4294967296 ≤ (r : Int) + (y1 : Int)
        · by_cases hc : 4294967296 ≤ (q : Int)
          · clear hyl hyu F1 hdl
            go_wp2_with fail
            case roundEnd => exact ⟨HREL.out (by omega), by simp [intOf]; omega⟩
          · have hx : 4294967296 * (r : Int) + (d1 : Int) < (P : Int) := by omega
            go_wp2_with fail
            case roundEnd => exact ⟨HREL.out (by omega), by simp [intOf]; omega⟩
        · have hb2 : 4294967296 ≤ (r : Int) + (y1 : Int) := by omega
          clear hb
          by_cases hc : 4294967296 ≤ (q : Int)
          · clear hyl F1 hdl
            go_wp2_with fail
            go_meet
            exact ⟨HFIN.out (by omega), rfl⟩
          · have hx : 4294967296 * (r : Int) + (d1 : Int) < (P : Int) := by omega
            go_wp2_with fail
            go_meet
            exact ⟨HFIN.out (by omega), rfl⟩
  case rest =>
    obtain ⟨rfl, rfl⟩ := hcut
    go_upto_block 2 with fail
    go_cut [16, 18] from 102 to 120 (fun r q wx => q = .int .u64 (Q0 : Int) ∧ w = wx)
    case first =>
      go_wp2_with fail
      clear E1 E2 E3 E4 E5 E6 E7 E8 E9 E10 E11 E12 E13
      go_loop [16, 18] (fun r q => KR R1 y1 y0 d0 q r) (fun _ q => (intOf q).toNat)
      case atStart => exact ⟨_, _, rfl, rfl, HK0.out⟩
      case round =>
        obtain ⟨q, r, rfl, rfl, hk⟩ := hrel
        have hql : (q : Int) ≤ 4294967297 := by have := hk.le; omega
        have hrl : (r : Int) < 4294967296 := by have := hk.rl; omega
        have hdl : (d0 : Int) < 4294967296 := by omega
        have P1 : Hid (q * y0 < 18446744073709551616) := by
          have := Nat.mul_le_mul hk.le (show y0 ≤ 4294967295 by omega)
          exact Nat.lt_of_le_of_lt this (by decide)
        obtain ⟨P, hP⟩ : ∃ P, P = q * y0 := ⟨_, rfl⟩
        have F1 : IntKind.u64.wrap ((q : Int) * (y0 : Int)) = (P : Int) := wrapN (by rw [hP]; simp) (by rw [hP]; exact P1.out)
        have HP := Lib.hid hP
        have HKq := Lib.hid hk
        have hyl : (2147483648 : Int) ≤ (y1 : Int) := by omega
        have hyu : (y1 : Int) < 4294967296 := by omega
        have HY := Lib.hid (And.intro hy0 (And.intro hd0 hy1))
        clear hP hk hy1 hy1' hy0 hd1 hd0
        by_cases hc3 : ¬ 4294967296 ≤ (q : Int) ∧ ¬ 4294967296 * (r : Int) + (d0 : Int) < (P : Int)
        · obtain ⟨hc, hc2⟩ := hc3
          go_wp2_with fail
          go_meet
          refine ⟨?_, rfl⟩
          have := knuth_end (d := d0) (y0 := y0) (by omega) HKq.out.ge HKq.out.eq (by have := HP.out; omega)
          rw [HQ0.out, ← this]
        · have hst := knuth_step HY.out.2.1 HR.out HKq.out (by rw [← HP.out]; omega)
          have hq1 : (1 : Int) ≤ (q : Int) := by have := hst.1; omega
          have HT := Lib.hid hst
          clear hst
          have hrel' : r + y1 < 4294967296 → KR R1 y1 y0 d0 (.int .u64 ((q : Int) - 1)) (.int .u64 ((r : Int) + (y1 : Int))) := fun h =>
            ⟨q - 1, r + y1, by congr 1; omega, by congr 1, ⟨HT.out.2.1, HT.out.2.2.1, by have := HT.out.2.2.2; omega, h⟩⟩
          have hfin : 4294967296 ≤ r + y1 → Value.int .u64 ((q : Int) - 1) = .int .u64 (Q0 : Int) := fun h => by
            have := knuth_end (d := d0) (y0 := y0) (by omega) HT.out.2.1 HT.out.2.2.1 (knuth_break HY.out.1 HT.out.2.2.2 h)
            rw [HQ0.out, ← this]
            congr 1
            omega
          have HREL := Lib.hid hrel'
          have HFIN := Lib.hid hfin
          clear hrel' hfin
          by_cases hb : ¬ 4294967296 ≤ (r : Int) + (y1 : Int)
          · by_cases hc : 4294967296 ≤ (q : Int)
            · clear hyl hyu F1 hdl
              go_wp2_with fail
              case roundEnd => exact ⟨HREL.out (by omega), by simp [intOf]; omega⟩
            · have hx : 4294967296 * (r : Int) + (d0 : Int) < (P : Int) := by omega
              go_wp2_with fail
              case roundEnd => exact ⟨HREL.out (by omega), by simp [intOf]; omega⟩
          · have hb2 : 4294967296 ≤ (r : Int) + (y1 : Int) := by omega
            clear hb
            by_cases hc : 4294967296 ≤ (q : Int)
            · clear hyl F1 hdl
              go_wp2_with fail
              go_meet
              exact ⟨HFIN.out (by omega), rfl⟩
            · have hx : 4294967296 * (r : Int) + (d0 : Int) < (P : Int) := by omega
              go_wp2_with fail
              go_meet
              exact ⟨HFIN.out (by omega), rfl⟩
    case rest =>
      obtain ⟨rfl, rfl⟩ := hcut
      go_wp2_with fail
      go_ret2
      exact ⟨rfl, rfl⟩
end Go.Proofs.YtpobhegllhhdgaaGreat

namespace Go.Proofs.YtpobhegllhhdgaaGreat
open Go.RowKit

theorem bl_spec : ∀ (y : Nat), 0 < y → y < 2 ^ 64 → 2 ^ (Lib.bitLen y - 1) ≤ y ∧ y < 2 ^ Lib.bitLen y ∧ 1 ≤ Lib.bitLen y ∧ Lib.bitLen y ≤ 64 := by
  intro y
  induction y using Nat.strongRecOn with
  | _ y ih =>
    intro h0 h
    have hh := Lib.bitLen_half y (by omega) h
    have hle := Lib.bitLen_le y 64 (by decide) h
    rcases Nat.lt_or_ge y 2 with h2 | h2
    · obtain rfl : y = 1 := by omega
      have e : Lib.bitLen 1 = 1 := by decide
      rw [e]
      decide
    · obtain ⟨i1, i2, i3, i4⟩ := ih (y / 2) (by omega) (by omega) (by omega)
      rw [hh] at hle ⊢
      refine ⟨?_, ?_, by omega, hle⟩
      · have e : 2 ^ (1 + Lib.bitLen (y / 2) - 1) = 2 ^ (Lib.bitLen (y / 2) - 1) * 2 := by
          rw [← Nat.pow_succ]
          congr 1
          omega
        rw [e]
        omega
      · rw [Nat.add_comm, Nat.pow_succ]
        omega
theorem wrap_u64m (x : Int) : IntKind.u64.wrap x = x % 18446744073709551616 := IntKind.wrap_u64 x
theorem rest_wrap {u d Q Y R : Nat} (h : ((u : Int) * 4294967296 + d - Q * Y) % 18446744073709551616 = (R : Int)) :
    IntKind.u64.wrap (IntKind.u64.wrap (IntKind.u64.wrap ((u : Int) * 4294967296) + (d : Int)) - IntKind.u64.wrap ((Q : Int) * (Y : Int))) = (R : Int) := by
  rw [wrap_u64m, wrap_u64m, wrap_u64m, wrap_u64m]
  generalize (Q : Int) * (Y : Int) = T at *
  omega
theorem quo_wrap {u y : Nat} (hu : u < 18446744073709551616) : IntKind.u64.wrap ((u : Int) / (y : Int)) = ((u / y : Nat) : Int) :=
  wrapN (by simp) (Nat.lt_of_le_of_lt (Nat.div_le_self _ _) hu)
theorem rem_wrap {u y : Nat} (hu : u < 18446744073709551616) : IntKind.u64.wrap ((u : Int) - IntKind.u64.wrap (((u / y : Nat) : Int) * (y : Int))) = ((u % y : Nat) : Int) := by
  have h := Nat.div_add_mod' u y
  have e : ((u / y : Nat) : Int) * (y : Int) = ((u / y * y : Nat) : Int) := by simp
  rw [e, wrapN rfl (by omega)]
  exact wrapN (by omega) (by omega)
theorem and32 {x : Nat} (h : x < 18446744073709551616) : bits .and .u64 (x : Int) 4294967295 = ((x % 4294967296 : Nat) : Int) := by
  rw [and_low32 _ (by omega) (by omega)]
  simp
theorem quo2 {A C Q : Nat} (h : Q = A * 4294967296 + C) (hq : Q < 18446744073709551616) : IntKind.u64.wrap (IntKind.u64.wrap ((A : Int) * 4294967296) + (C : Int)) = (Q : Int) := by
  rw [wrapN (x := (A : Int) * 4294967296) (n := A * 4294967296) (by simp) (by omega)]
  exact wrapN (n := Q) (by omega) hq
set_option maxRecDepth 100000 in
theorem div64_any (hi lo y : Nat) (w : World) (hy : hi < y) (hl : lo < 18446744073709551616) (hy' : y < 18446744073709551616) :
    Calls Tryz.prog 133 #[.int .u64 (hi : Int), .int .u64 (lo : Int), .int .u64 (y : Int)] w fun e w' => e = .returned (.tuple #[.int .u64 (((hi * 18446744073709551616 + lo) / y : Nat) : Int), .int .u64 (((hi * 18446744073709551616 + lo) % y : Nat) : Int)]) ∧ ∃ n, w' = w.drewN n := by
  rcases Nat.eq_zero_or_pos hi with h0 | h0
  · subst h0
    have := div64_small lo y w hl hy hy'
    simpa using this
  · obtain ⟨b1, b2, b3, b4⟩ := bl_spec y (by omega) (by simpa using hy')
    obtain ⟨L, hL⟩ : ∃ L, L = Lib.bitLen y := ⟨_, rfl⟩
    rw [← hL] at b1 b2 b3 b4
    obtain ⟨s, hs⟩ : ∃ s, s = 64 - L := ⟨_, rfl⟩
    have hlz := fun w : World => lz_any y s w hy' (by rw [hs, hL]) (by omega)
    have hp : 0 < 2 ^ s := Nat.two_pow_pos s
    have e64 : (2 ^ 64 : Nat) = 18446744073709551616 := by decide
    have eLs : 2 ^ L * 2 ^ s = 18446744073709551616 := by rw [← Nat.pow_add, ← e64]; congr 1; omega
    have eLs1 : 2 ^ (L - 1) * 2 ^ s = 9223372036854775808 := by
      rw [← Nat.pow_add, show (9223372036854775808 : Nat) = 2 ^ 63 by decide]; congr 1; omega
    have e64s : 2 ^ (64 - s) * 2 ^ s = 18446744073709551616 := by rw [← Nat.pow_add, ← e64]; congr 1; omega
    have hYu : y * 2 ^ s < 18446744073709551616 := by rw [← eLs]; exact Nat.mul_lt_mul_of_pos_right b2 hp
    have hYl : 9223372036854775808 ≤ y * 2 ^ s := by rw [← eLs1]; exact Nat.mul_le_mul_right _ b1
    have hhi : hi * 2 ^ s + 2 ^ s ≤ y * 2 ^ s := by rw [← Nat.succ_mul]; exact Nat.mul_le_mul_right _ hy
    have hlo2 : lo / 2 ^ (64 - s) < 2 ^ s := by
      rw [Nat.div_lt_iff_lt_mul (Nat.two_pow_pos _), Nat.mul_comm, e64s]
      exact hl
    obtain ⟨Y, hY⟩ : ∃ Y, Y = y * 2 ^ s := ⟨_, rfl⟩
    obtain ⟨u, hu⟩ : ∃ u, u = hi * 2 ^ s + lo / 2 ^ (64 - s) := ⟨_, rfl⟩
    obtain ⟨v, hv⟩ : ∃ v, v = lo * 2 ^ s % 18446744073709551616 := ⟨_, rfl⟩
    have hdm := Nat.div_add_mod (lo * 2 ^ s) 18446744073709551616
    have hq2 : lo * 2 ^ s / 18446744073709551616 = lo / 2 ^ (64 - s) := by rw [← e64s, Nat.mul_div_mul_right _ _ hp]
    rw [hq2] at hdm
    have hfull : u * 18446744073709551616 + v = (hi * 18446744073709551616 + lo) * 2 ^ s := by
      rw [hu, hv]
      have e : (hi * 18446744073709551616 + lo) * 2 ^ s = hi * 2 ^ s * 18446744073709551616 + lo * 2 ^ s := by grind
      rw [e, ← hdm]
      generalize lo / 2 ^ (64 - s) = A at *
      generalize hi * 2 ^ s = Bq at *
      generalize lo * 2 ^ s % 18446744073709551616 = C at *
      omega
    have huY : u < Y := by rw [hu, hY]; omega
    have hvl : v < 18446744073709551616 := by rw [hv]; exact Nat.mod_lt _ (by decide)
    have hYY : Y = Y / 4294967296 * 4294967296 + Y % 4294967296 := by omega
    have huYY : u < Y / 4294967296 * 4294967296 + Y % 4294967296 := by omega
    have hvv : v = v / 4294967296 * 4294967296 + v % 4294967296 := by omega
    have hY0 : 0 < Y := by omega
    have hR1 : (u * 4294967296 + v / 4294967296) % Y < Y := Nat.mod_lt _ hY0
    obtain ⟨R1, hR1e⟩ : ∃ R1, R1 = (u * 4294967296 + v / 4294967296) % Y := ⟨_, rfl⟩
    have two := knuth_two (u := u) (y := Y) (d1 := v / 4294967296) (d0 := v % 4294967296) hY0
    rw [← hvv, hfull, ← hR1e] at two
    rw [← hR1e] at hR1
    have E4 : bits .or .u64 (IntKind.u64.wrap ((hi : Int) * 2 ^ s)) ((lo : Int) / 2 ^ (64 - s)) = (u : Int) := by
      rw [wrapN (n := hi * 2 ^ s) (by simp) (by omega)]
      have e : (lo : Int) / 2 ^ (64 - s) = ((lo / 2 ^ (64 - s) : Nat) : Int) := by simp
      rw [e, bits_or_u64_nat _ _ (by omega) (by omega), hu, Nat.mul_comm hi, ← Nat.two_pow_add_eq_or_of_lt hlo2]
    have core := div64_core hi lo y s Y (Y / 4294967296) (Y % 4294967296) u v (v / 4294967296) (v % 4294967296) (u / (Y / 4294967296)) (u % (Y / 4294967296)) ((u * 4294967296 + v / 4294967296) / Y) R1
      (R1 / (Y / 4294967296)) (R1 % (Y / 4294967296)) ((R1 * 4294967296 + v % 4294967296) / Y) ((R1 * 4294967296 + v % 4294967296) % Y) w h0 hy (by omega) (hlz w)
      (wrapN (by rw [hY]; simp) (by omega)) (by simp) (by omega) (by omega) (by omega) (and32 (by omega)) E4
      (by rw [wrap_u64m, hv]; simp) (by simp) (and32 hvl) (by omega) (by omega) (quo_wrap (by omega)) (rem_wrap (by omega)) (knuth_start (by omega) (by omega) (by omega) (by omega) huYY) huYY (by rw [← hYY])
      (rest_wrap (by rw [hR1e]; exact knuth_rest hY0 (by omega) rfl)) (quo_wrap (by omega)) (rem_wrap (by omega)) (knuth_start (by omega) (by omega) (by omega) (by omega) (by omega)) (by omega) (by rw [← hYY])
      (rest_wrap (knuth_rest hY0 (by omega) rfl))
    refine core.mono fun e w' ⟨he, hw⟩ => ⟨?_, 0, hw.symm⟩
    have hQ : (hi * 18446744073709551616 + lo) * 2 ^ s / Y = (hi * 18446744073709551616 + lo) / y := by rw [hY, Nat.mul_div_mul_right _ _ hp]
    have hM : (hi * 18446744073709551616 + lo) * 2 ^ s % Y = (hi * 18446744073709551616 + lo) % y * 2 ^ s := by rw [hY, Nat.mul_mod_mul_right]
    have hQl : (hi * 18446744073709551616 + lo) / y < 18446744073709551616 := by
      rw [Nat.div_lt_iff_lt_mul (by omega)]
      have := Nat.mul_le_mul_left 18446744073709551616 hy
      omega
    rw [hQ] at two
    rw [hM] at two
    rw [he]
    have q1 : IntKind.u64.wrap (IntKind.u64.wrap ((((u * 4294967296 + v / 4294967296) / Y : Nat) : Int) * 4294967296) + (((R1 * 4294967296 + v % 4294967296) / Y : Nat) : Int)) = (((hi * 18446744073709551616 + lo) / y : Nat) : Int) := by
      exact quo2 two.1 hQl
    have q2 : (((R1 * 4294967296 + v % 4294967296) % Y : Nat) : Int) / 2 ^ s = (((hi * 18446744073709551616 + lo) % y : Nat) : Int) := by
      rw [← two.2]
      have : (((hi * 18446744073709551616 + lo) % y * 2 ^ s : Nat) : Int) / 2 ^ s = (((hi * 18446744073709551616 + lo) % y * 2 ^ s / 2 ^ s : Nat) : Int) := by simp
      rw [this, Nat.mul_div_cancel _ hp]
    rw [q1, q2]
end Go.Proofs.YtpobhegllhhdgaaGreat

namespace Go.Proofs.YtpobhegllhhdgaaGreat
open Go.RowKit

structure TimO (w wr : World) (xs ys os : List Nat) (i : Nat) : Prop where
  db : DB .u32 105 wr w.heap.size os
  eg : Eg os
  len : os.length = xs.length + ys.length
  zero : ∀ j, i + ys.length ≤ j → dat os j = 0
  val : dw os = dw (xs.take i) * dw ys
  bel : Below w.heap.size w wr
structure TimI (w wr : World) (xs ys os : List Nat) (i j q : Nat) : Prop where
  db : DB .u32 105 wr w.heap.size os
  eg : Eg os
  len : os.length = xs.length + ys.length
  zero : ∀ j, i + ys.length ≤ j → dat os j = 0
  val : dw os + q * 4294967296 ^ (i + j) = dw (xs.take i) * dw ys + xs.getD i 0 * 4294967296 ^ i * dw (ys.take j)
  ql : q < 4294967296
  bel : Below w.heap.size w wr
def TimOH (w wr : World) (xs ys : List Nat) (i : Nat) : Prop := ∃ os, TimO w wr xs ys os i
def TimIH (w wr : World) (xs ys : List Nat) (i j q : Nat) : Prop := ∃ os, TimI w wr xs ys os i j q
theorem TimOH.start (w : World) (xs ys : List Nat) (L : Nat) (hL : L = xs.length + ys.length) : TimOH w (w.alloc (.cells (cs .u32 (List.replicate L 0)).toArray 105)) xs ys 0 :=
  ⟨_, DB.new _ _ w _, eg_zeros L, by simp [hL], fun j _ => dw_zeros_ L j, by rw [dw_zeros]; simp [dw], bel_a w _⟩
theorem TimOH.inner {w wr : World} {xs ys : List Nat} {i : Nat} (h : TimOH w wr xs ys i) : TimIH w wr xs ys i 0 0 := by
  obtain ⟨os, h⟩ := h
  exact ⟨os, h.db, h.eg, h.len, h.zero, by rw [h.val]; simp [dw], by omega, h.bel⟩
theorem TimI.next {w wr : World} {xs ys os : List Nat} {i j q S : Nat} (h : TimI w wr xs ys os i j q) (hx : Eg xs) (hy : Eg ys) (hi : i < xs.length) (hj : j < ys.length) (hS : S = dat xs i * dat ys j + dat os (i + j) + q) :
    S < 18446744073709551616 ∧ TimIH w (wr.setCell ⟨w.heap.size, i + j, none⟩ (.int .u32 ((S % 4294967296 : Nat) : Int))) xs ys i (j + 1) (S / 4294967296) := by
  have hA : dat xs i < 4294967296 := hx i
  have hB : dat ys j < 4294967296 := hy j
  have hO : dat os (i + j) < 4294967296 := h.eg (i + j)
  have hP : dat xs i * dat ys j ≤ 4294967295 * 4294967295 := Nat.mul_le_mul (by omega) (by omega)
  have hq := h.ql
  have hSl : S < 18446744073709551616 := by omega
  have st := @timesw_step xs ys os i j q (by rw [h.len]; omega) h.val
  have eS : os.getD (i + j) 0 + xs.getD i 0 * ys.getD j 0 + q = S := by
    rw [hS]
    unfold dat
    omega
  rw [eS] at st
  refine ⟨hSl, _, DB.set_ h.db (i + j) _, eg_set h.eg _ (Nat.mod_lt _ (by decide)), by simp [h.len], fun l hl => ?_, st, by omega, bel_set h.bel (Nat.le_refl _) _ _⟩
  have := h.zero l hl
  simp only [dat, List.getD_eq_getElem?_getD] at this ⊢
  rw [List.getElem?_set_ne (by omega)]
  exact this
theorem TimIH.outer {w wr : World} {xs ys : List Nat} {i q : Nat} (h : TimIH w wr xs ys i ys.length q) (hi : i < xs.length) :
    TimOH w (wr.setCell ⟨w.heap.size, i + ys.length, none⟩ (.int .u32 (q : Int))) xs ys (i + 1) := by
  obtain ⟨os, h⟩ := h
  have hk : i + ys.length < os.length := by rw [h.len]; omega
  refine ⟨_, DB.set_ h.db (i + ys.length) q, eg_set h.eg _ h.ql, by simp [h.len], fun l hl => zero_set h.zero l (by omega), ?_, bel_set h.bel (Nat.le_refl _) _ _⟩
  rw [set_zero_val hk h.zero, dw_take_succ]
  have hv := h.val
  rw [dw_take_all (Nat.le_refl _)] at hv
  generalize 4294967296 ^ (i + ys.length) = P at *
  generalize 4294967296 ^ i = R at *
  generalize dw ys = B at *
  generalize xs.getD i 0 = a at *
  grind
theorem TimOH.fin {w wr : World} {xs ys : List Nat} (h : TimOH w wr xs ys xs.length) (hl : xs.length + ys.length ≤ 1000000) :
    DwE (dw xs * dw ys) (xs.length + ys.length) w (.returned (.slice (some ⟨w.heap.size, 0, none⟩) (xs.length + ys.length) (xs.length + ys.length))) wr := by
  obtain ⟨os, h⟩ := h
  have hv := h.val
  rw [dw_take_all (Nat.le_refl _)] at hv
  have ha := h.db.arr (by rw [h.len]; exact hl)
  rw [h.len] at ha
  exact ⟨_, os, rfl, ha, h.eg, hv, Nat.le_of_eq h.len, h.bel⟩
theorem wrap_nat {x : Int} {n : Nat} (h : x = (n : Int)) (hn : n < 18446744073709551616) : IntKind.u64.wrap x = (n : Int) := wrapN h hn
set_option maxHeartbeats 4000000 in
set_option maxRecDepth 100000 in
theorem times32_any (v u : Value) (xs ys : List Nat) (w : World) (hv : Arr w .u32 v xs) (hu : Arr w .u32 u ys) (hx : Eg xs) (hy : Eg ys) (hxl : xs.length ≤ 100000) (hyl : ys.length ≤ 100000) :
    Calls Tryz.prog 96 #[v, u] w (DwE (dw xs * dw ys) (xs.length + ys.length) w) := by
  obtain ⟨Av, cv, rfl⟩ := hv.slice
  obtain ⟨Au, cu, rfl⟩ := hu.slice
  obtain ⟨m, hm⟩ : ∃ m, m = xs.length := ⟨_, rfl⟩
  obtain ⟨n, hn⟩ : ∃ n, n = ys.length := ⟨_, rfl⟩
  rw [← hm] at hv hxl
  rw [← hn] at hu hyl
  have HV := Lib.hid hv
  have HU := Lib.hid hu
  have HX := Lib.hid hx
  have HY := Lib.hid hy
  obtain ⟨L, hL⟩ : ∃ L, L = m + n := ⟨_, rfl⟩
  have HS := Lib.hid (TimOH.start w xs ys L (by omega))
  have hmk := fun w => mk32 L (by omega) w ((m : Int) + (n : Int)) (by omega)
  have hLl : L ≤ 200000 := by omega
  have HL := Lib.hid hL
  have HM := Lib.hid hm
  have HN := Lib.hid hn
  rw [← hm, ← hn]
  clear hm hn hv hu hx hy hL
  go_enter Tryz.func96, Tryz.ntmps96
  go_wp2_with fail
  go_loopw [20] (fun i wr => ∃ k : Nat, i = .int .i64 (k : Int) ∧ k ≤ m ∧ TimOH w wr xs ys k) (fun i _ => m - (intOf i).toNat)
  case atStart => exact ⟨0, rfl, Nat.zero_le _, HS.out⟩
  case round =>
    obtain ⟨i, rfl, hi, hr⟩ := hrel
    by_cases hgo : i < m
    · have HI := Lib.hid hr.inner
      have hbel : Below w.heap.size w wr := by obtain ⟨os, h⟩ := hr; exact h.bel
      have HVr := Lib.hid (HV.out.bel hbel)
      obtain ⟨ad, rfl, _, hca⟩ := HVr.out.get i (by rw [← HM.out]; exact hgo)
      have hA : dat xs i < 4294967296 := HX.out i
      obtain ⟨wo, rfl⟩ : ∃ wo : World, wo = wr := ⟨_, rfl⟩
      clear hr hbel
      go_wp2_with fail
      go_loopw [8, 27] (fun c k wr => ∃ q j : Nat, c = .int .u64 (q : Int) ∧ k = .int .i64 (j : Int) ∧ j ≤ n ∧ TimIH w wr xs ys i j q) (fun _ k _ => n - (intOf k).toNat)
      case atStart => exact ⟨0, 0, rfl, rfl, Nat.zero_le _, HI.out⟩
      case round =>
        obtain ⟨q, j, rfl, rfl, hj, hr2⟩ := hrel
        by_cases hg2 : j < n
        · obtain ⟨os, hr3⟩ := hr2
          have HUr := Lib.hid (HU.out.bel hr3.bel)
          obtain ⟨bd, rfl, _, hcb⟩ := HUr.out.get j (by rw [← HN.out]; exact hg2)
          have hcell := hr3.db.cell (i + j) (by rw [hr3.len, ← HM.out, ← HN.out]; omega)
          have hfr := hr3.db.fr (i + j)
          have hB : dat ys j < 4294967296 := HY.out j
          have hO : dat os (i + j) < 4294967296 := hr3.eg (i + j)
          obtain ⟨S, hS⟩ : ∃ S, S = dat xs i * dat ys j + dat os (i + j) + q := ⟨_, rfl⟩
          have hnx := hr3.next HX.out HY.out (by rw [← HM.out]; exact hgo) (by rw [← HN.out]; exact hg2) hS
          obtain ⟨P, hP⟩ : ∃ P, P = dat xs i * dat ys j := ⟨_, rfl⟩
          obtain ⟨R, hR⟩ : ∃ R, R = P + dat os (i + j) := ⟨_, rfl⟩
          have F1 : IntKind.u64.wrap ((dat xs i : Int) * (dat ys j : Int)) = (P : Int) := wrap_nat (by rw [hP]; simp) (by omega)
          have F2 : IntKind.u64.wrap ((P : Int) + (dat os (i + j) : Int)) = (R : Int) := wrap_nat (by omega) (by omega)
          have F3 : IntKind.u64.wrap ((R : Int) + (q : Int)) = (S : Int) := wrap_nat (by omega) (by omega)
          have hn2 := hnx.2
          rw [show ((S % 4294967296 : Nat) : Int) = (S : Int) % 4294967296 by simp] at hn2
          have hij : i + j < L := by have := HL.out; omega
          have HNX := Lib.hid hn2
          clear hnx hr3 hS hP hR hn2
          go_wp2_with fail
          exact ⟨⟨S / 4294967296, j + 1, by simp, by simp, by omega, HNX.out⟩, by simp [intOf]; omega⟩
        · obtain rfl : j = n := by omega
          have hq : q < 4294967296 := by obtain ⟨os, h⟩ := hr2; exact h.ql
          have hcf : (∃ d, wr.cell? ⟨w.heap.size, i + j, none⟩ = some d) ∧ wr.frozen? ⟨w.heap.size, i + j, none⟩ = false := by
            obtain ⟨os, h⟩ := hr2
            exact ⟨⟨_, h.db.cell (i + j) (by rw [h.len, ← HM.out, ← HN.out]; omega)⟩, h.db.fr _⟩
          obtain ⟨⟨d, hcell⟩, hfr⟩ := hcf
          rw [HN.out] at hr2
          have ho := TimIH.outer hr2 (by rw [← HM.out]; exact hgo)
          rw [← HN.out] at ho
          have hij : i + j < L := by have := HL.out; omega
          have HO := Lib.hid ho
          clear ho hr2
          go_wp2_with fail
          exact ⟨⟨i + 1, by simp, by omega, HO.out⟩, by simp [intOf]; omega⟩
    · obtain rfl : i = m := by omega
      rw [HM.out] at hr
      have hf := hr.fin (by rw [← HM.out, ← HN.out]; omega)
      rw [← HM.out, ← HN.out, ← HL.out] at hf
      have HF := Lib.hid hf
      clear hf hr
      go_wp2_with fail
      go_ret
      obtain ⟨z, zs, e1, e2, e3, e4, e5, e6⟩ := HF.out
      exact ⟨z, zs, e1, e2, e3, e4, by rw [← HL.out]; exact e5, e6⟩
end Go.Proofs.YtpobhegllhhdgaaGreat

namespace Go.Proofs.YtpobhegllhhdgaaGreat
open Go.RowKit

/-- What holds at each round's head of divide: digits from k on have been divided. -/
structure DivW (w wr : World) (xs os : List Nat) (y k r : Nat) : Prop where
  db : DB .u32 105 wr w.heap.size os
  eg : Eg os
  len : os.length = xs.length
  zero : ∀ j, j < k → dat os j = 0
  val : ∃ Q, dw os = Q * 4294967296 ^ k ∧ dw (xs.drop k) = Q * y + r
  rl : r < y
  bel : Below w.heap.size w wr
theorem DivW.start (w : World) (xs : List Nat) (y L : Nat) (hy : 0 < y) (hL : L = xs.length) : DivW w (w.alloc (.cells (cs .u32 (List.replicate L 0)).toArray 105)) xs (List.replicate L 0) y L 0 :=
  ⟨DB.new _ _ w _, eg_zeros L, by simp [hL], fun j _ => dw_zeros_ L j, ⟨0, by rw [dw_zeros]; simp, by rw [hL]; simp [dw]⟩, hy, bel_a w _⟩
theorem dw_drop (xs : List Nat) (k : Nat) : dw (xs.drop k) = dat xs k + 4294967296 * dw (xs.drop (k + 1)) := by
  rcases Nat.lt_or_ge k xs.length with h | h
  · rw [List.drop_eq_getElem_cons h, dw]
    simp [dat, h]
  · rw [dat_beyond h, List.drop_eq_nil_of_le h, List.drop_eq_nil_of_le (by omega)]
    simp [dw]
theorem DivW.step {w wr W : World} {xs os : List Nat} {y k r q r' : Nat} (h : DivW w wr xs os y (k + 1) r) (hW : Below wr.heap.size wr W) (hx : Eg xs) (hk : k < xs.length) (hy : 0 < y)
    (hq : q = (r * 4294967296 + dat xs k) / y) (hr : r' = (r * 4294967296 + dat xs k) % y) :
    q < 4294967296 ∧ DivW w (W.setCell ⟨w.heap.size, k, none⟩ (.int .u32 (q : Int))) xs (os.set k q) y k r' := by
  have hX : dat xs k < 4294967296 := hx k
  have hrl := h.rl
  have hql : q < 4294967296 := by
    rw [hq, Nat.div_lt_iff_lt_mul hy]
    omega
  obtain ⟨Q, hQ1, hQ2⟩ := h.val
  have h0 : dat os k = 0 := h.zero k (by omega)
  refine ⟨hql, (h.db.bel hW).set_ k q, eg_set h.eg k hql, by simp [h.len], fun j hj => ?_, ⟨Q * 4294967296 + q, ?_, ?_⟩, by rw [hr]; exact Nat.mod_lt _ hy, bel_set (bel_tr h.bel hW) (Nat.le_refl _) _ _⟩
  · have := h.zero j (by omega)
    simp only [dat, List.getD_eq_getElem?_getD] at this ⊢
    rw [List.getElem?_set_ne (by omega)]
    exact this
  · have h1 := dw_set (l := os) q (show k < os.length by rw [h.len]; exact hk)
    have h2 : os.getD k 0 = 0 := h0
    rw [h2, hQ1, Nat.pow_succ] at h1
    generalize 4294967296 ^ k = P at *
    grind
  · rw [dw_drop, hQ2]
    have h3 := Nat.div_add_mod (r * 4294967296 + dat xs k) y
    rw [← hq, ← hr] at h3
    grind
theorem DivW.fin {w wr : World} {xs os : List Nat} {y r : Nat} (h : DivW w wr xs os y 0 r) (hl : xs.length ≤ 1000000) : Arr wr .u32 (.slice (some ⟨w.heap.size, 0, none⟩) xs.length xs.length) os ∧ Eg os ∧ dw os = dw xs / y ∧ r = dw xs % y ∧ os.length = xs.length := by
  obtain ⟨Q, hQ1, hQ2⟩ := h.val
  have ha := h.db.arr (by rw [h.len]; exact hl)
  rw [h.len] at ha
  have hrl := h.rl
  simp only [List.drop_zero, Nat.pow_zero, Nat.mul_one] at hQ1 hQ2
  rw [hQ1, hQ2]
  have e1 : (Q * y + r) / y = Q := by
    rw [Nat.mul_comm, Nat.mul_add_div (by omega), Nat.div_eq_of_lt hrl, Nat.add_zero]
  have e2 : (Q * y + r) % y = r := by
    rw [Nat.mul_comm, Nat.mul_add_mod, Nat.mod_eq_of_lt hrl]
  exact ⟨ha, h.eg, e1.symm, e2.symm, h.len⟩
/-- What divide answers: how often, and what is left over. -/
def DivE (x y l : Nat) (w : World) (e : Ending) (w' : World) : Prop := ∃ A zs, e = .returned (.tuple #[.slice A zs.length zs.length, .int .u64 ((x % y : Nat) : Int)]) ∧ Arr w' .u32 (.slice A zs.length zs.length) zs ∧ Eg zs ∧ dw zs = x / y ∧ zs.length = l ∧ Below w.heap.size w w'
def DivH (w wr : World) (xs : List Nat) (y k r : Nat) : Prop := ∃ os, DivW w wr xs os y k r
set_option maxHeartbeats 2000000 in
set_option maxRecDepth 100000 in
theorem divide_any (v : Value) (xs : List Nat) (y : Nat) (w : World) (hv : Arr w .u32 v xs) (hx : Eg xs) (hxl : xs.length ≤ 100000) (hy : 0 < y) (hyl : y < 18446744073709551616) :
    Calls Tryz.prog 129 #[v, .int .u64 (y : Int)] w (DivE (dw xs) y xs.length w) := by
  obtain ⟨Av, cv, rfl⟩ := hv.slice
  obtain ⟨m, hm⟩ : ∃ m, m = xs.length := ⟨_, rfl⟩
  rw [← hm] at hv hxl
  have HV := Lib.hid hv
  have HX := Lib.hid hx
  have HYL := Lib.hid (And.intro hy hyl)
  have HS := Lib.hid (DivW.start w xs y m hy hm)
  have hmk := fun w => mk32 m (by omega) w (m : Int) rfl
  have HM := Lib.hid hm
  rw [← hm]
  clear hm hv hx hy hyl
  go_enter Tryz.func129, Tryz.ntmps129
  go_wp2_with fail
  go_loopw [7, 8] (fun r i wr => ∃ k rn : Nat, i = .int .i64 ((k : Int) - 1) ∧ r = .int .u64 (rn : Int) ∧ k ≤ m ∧ DivH w wr xs y k rn) (fun _ i _ => (intOf i + 1).toNat)
  case atStart => exact ⟨m, 0, rfl, rfl, Nat.le_refl _, _, HS.out⟩
  case round =>
    obtain ⟨k, rn, hk, rfl, hkm, os, hr⟩ := hrel
    rcases k with _ | k
    · obtain rfl : u8 = .int .i64 (-1) := hk
      have hf := hr.fin (by rw [← HM.out]; omega)
      rw [← HM.out] at hf
      have HF := Lib.hid hf
      have HB := Lib.hid hr.bel
      clear hf hr
      go_wp2_with fail
      go_ret2
      obtain ⟨f1, f2, f3, f4, f5⟩ := HF.out
      exact ⟨some ⟨w.heap.size, 0, none⟩, os, by rw [f4, f5]; rfl, by rw [f5]; exact f1, f2, f3, f5, HB.out⟩
    · obtain rfl : u8 = .int .i64 (k : Int) := by rw [hk]; congr 1; omega
      clear hk
      have HVr := Lib.hid (HV.out.bel hr.bel)
      obtain ⟨ad, rfl, _, hca⟩ := HVr.out.get k (by rw [← HM.out]; omega)
      have hX : dat xs k < 4294967296 := HX.out k
      have hcell := hr.db.cell k (by rw [hr.len, ← HM.out]; omega)
      have hfr := hr.db.fr k
      have HR := Lib.hid hr
      have hrl : rn < 18446744073709551616 := Nat.lt_trans hr.rl HYL.out.2
      clear hr
      obtain ⟨S, hS⟩ : ∃ S, S = rn * 4294967296 % 18446744073709551616 + dat xs k := ⟨_, rfl⟩
      have F1 : bits .or .u64 (IntKind.u64.wrap ((rn : Int) * 4294967296)) (dat xs k : Int) = (S : Int) := by
        have e1 : IntKind.u64.wrap ((rn : Int) * 4294967296) = ((rn * 4294967296 % 18446744073709551616 : Nat) : Int) := by rw [wrap_u64m]; simp
        have e2 : rn * 4294967296 % 18446744073709551616 = 2 ^ 32 * (rn % 4294967296) := by omega
        rw [e1, bits_or_u64_nat _ _ (by omega) (by omega), e2, ← Nat.two_pow_add_eq_or_of_lt (by omega : dat xs k < 2 ^ 32), ← e2, hS]
      have hSl : S < 18446744073709551616 := by omega
      have hdv : rn / 4294967296 * 18446744073709551616 + S = rn * 4294967296 + dat xs k := by omega
      have hlt : rn / 4294967296 < y := Nat.lt_of_le_of_lt (Nat.div_le_self _ _) HR.out.rl
      have hd := fun w => div64_any (rn / 4294967296) S y w hlt hSl HYL.out.2
      rw [hdv] at hd
      obtain ⟨hi, hhi⟩ : ∃ hi, hi = rn / 4294967296 := ⟨_, rfl⟩
      have F0 : (rn : Int) / 4294967296 = (hi : Int) := by rw [hhi]; simp
      obtain ⟨Q, hQ⟩ : ∃ Q, Q = (rn * 4294967296 + dat xs k) / y := ⟨_, rfl⟩
      obtain ⟨R, hR⟩ : ∃ R, R = (rn * 4294967296 + dat xs k) % y := ⟨_, rfl⟩
      have hQl := (HR.out.step (Below.refl _ _) HX.out (by rw [← HM.out]; omega) HYL.out.1 hQ hR).1
      rw [← hhi, ← hQ, ← hR] at hd
      have HD := Lib.hid (fun w => hd w)
      have HQ := Lib.hid (And.intro hQ hR)
      clear hS hSl hdv hlt hd hhi hQ hR
      go_wp2_with (go_at_call 133; (with_reducible refine (HD.out _).mono ?_); rintro e w' ⟨rfl, n1, rfl⟩)
      have hn := (HR.out.step (W := wr.drewN n1) (below_drewN (Below.refl _ _) _) HX.out (by rw [← HM.out]; omega) HYL.out.1 HQ.out.1 HQ.out.2).2
      exact ⟨⟨k, R, rfl, rfl, by omega, _, hn⟩, by simp [intOf]⟩
end Go.Proofs.YtpobhegllhhdgaaGreat

namespace Go.Proofs.YtpobhegllhhdgaaGreat
open Go.RowKit

/-- How many digits are left without the zeros at the top. -/
def tl : List Nat → Nat
  | [] => 0
  | d :: r => if tl r = 0 then (if d = 0 then 0 else 1) else tl r + 1
theorem tl_spec (xs : List Nat) : Tl xs (tl xs) := by
  induction xs with
  | nil => exact ⟨Nat.le_refl _, fun j _ => by simp [dat], .inl rfl⟩
  | cons d r ih =>
    obtain ⟨h1, h2, h3⟩ := ih
    unfold tl
    by_cases h0 : tl r = 0
    · rw [if_pos h0]
      rw [h0] at h2
      by_cases hd : d = 0
      · rw [if_pos hd]
        refine ⟨Nat.zero_le _, fun j _ => ?_, .inl rfl⟩
        rcases j with _ | j
        · simpa [dat] using hd
        · have := h2 j (Nat.zero_le _)
          simpa [dat] using this
      · rw [if_neg hd]
        refine ⟨by simp, fun j hj => ?_, .inr (by simpa [dat] using hd)⟩
        obtain ⟨j, rfl⟩ : ∃ i, j = i + 1 := ⟨j - 1, by omega⟩
        have := h2 j (Nat.zero_le _)
        simpa [dat] using this
    · rw [if_neg h0]
      refine ⟨by simpa using h1, fun j hj => ?_, .inr ?_⟩
      · obtain ⟨j, rfl⟩ : ∃ i, j = i + 1 := ⟨j - 1, by omega⟩
        have := h2 j (by omega)
        simpa [dat] using this
      · have := h3.resolve_left h0
        obtain ⟨k, hk⟩ : ∃ k, tl r = k + 1 := ⟨tl r - 1, by omega⟩
        rw [hk] at this ⊢
        simpa [dat] using this
theorem tl_one {xs : List Nat} {n m : Nat} (h : Tl xs n) (h' : Tl xs m) : n = m := by
  rcases Nat.lt_trichotomy n m with h1 | h1 | h1
  · have := h'.2.2.resolve_left (by omega)
    exact absurd (h.2.1 (m - 1) (by omega)) this
  · exact h1
  · have := h.2.2.resolve_left (by omega)
    exact absurd (h'.2.1 (n - 1) (by omega)) this
/-- The digits without the zeros at the top. -/
def tr (xs : List Nat) : List Nat := xs.take (tl xs)
theorem tr_len (xs : List Nat) : (tr xs).length = tl xs := List.length_take_of_le (tl_spec xs).1
theorem tr_le (xs : List Nat) : tl xs ≤ xs.length := (tl_spec xs).1
theorem tr_top (xs : List Nat) : Top (tr xs) := (tl_spec xs).top
theorem tr_dw (xs : List Nat) : dw (tr xs) = dw xs := (tl_spec xs).dw
theorem tr_eg {xs : List Nat} (h : Eg xs) : Eg (tr xs) := eg_take h _
theorem Arr.tr {w : World} {k : IntKind} {A : Option Addr} {m c : Nat} {xs : List Nat} (h : Arr w k (.slice A m c) xs) : Arr w k (.slice A (tl xs) c) (tr xs) := h.take (tr_le xs)
theorem trim32_q (A : Option Addr) (m c : Nat) (xs : List Nat) (w : World) (h : Arr w .u32 (.slice A m c) xs) : Calls Tryz.prog 92 #[.slice A m c] w fun e w' => e = .returned (.slice A (tl xs) c) ∧ w' = w :=
  (trim32_any A m c xs w h).mono fun _ _ ⟨n, h1, h2, h3⟩ => ⟨by rw [h1, tl_one h2 (tl_spec xs)], h3.symm⟩
theorem trim32_w (A : Option Addr) (m c : Nat) (xs : List Nat) (w : World) (h : Arr w .u32 (.slice A m c) xs) : Calls Tryz.prog 92 #[.slice A m c] w fun e w' => e = .returned (.slice A (tl xs) c) ∧ w = w' :=
  (trim32_q A m c xs w h).mono fun _ _ h => ⟨h.1, h.2.symm⟩
/-- Two numbers in boxes, and one for the answer. -/
structure B3 (T : TypeId) (w W : World) (n : Bool) (v : Value) (m : Bool) (u : Value) : Prop where
  a : Bx T W w.heap.size n v
  b : Bx T W (w.heap.size + 1) m u
  c : Bx T W (w.heap.size + 2) false (.slice none 0 0)
  bel : Below w.heap.size w W
section
variable {T : TypeId} {w W W' : World} {n m : Bool} {v u : Value}
theorem B3.start (T : TypeId) (w : World) (n : Bool) (v : Value) (m : Bool) (u : Value) : B3 T w (((w.alloc (.cells #[.bool n, v] T)).alloc (.cells #[.bool m, u] T)).alloc (.cells #[.bool false, .slice none 0 0] T)) n v m u := by
  refine ⟨((Bx.new T w n v).alloc _).alloc _, ?_, ?_, (((Below.refl _ w).alloc (Nat.le_refl _) _).alloc (by simp) _).alloc (by simp; omega) _⟩
  · have := (Bx.new T (w.alloc (.cells #[.bool n, v] T)) m u).alloc (.cells #[.bool false, .slice none 0 0] T)
    simpa using this
  · have := Bx.new T ((w.alloc (.cells #[.bool n, v] T)).alloc (.cells #[.bool m, u] T)) false (.slice none 0 0)
    simpa using this
theorem B3.drew (h : B3 T w W n v m u) : B3 T w W.drew n v m u := ⟨h.a, h.b, h.c, h.bel.drew⟩
theorem B3.drewN (h : B3 T w W n v m u) (k : Nat) : B3 T w (W.drewN k) n v m u := ⟨h.a, h.b, h.c, below_drewN h.bel k⟩
theorem B3.next (h : B3 T w W n v m u) (hb : Below W.heap.size W W') : B3 T w W' n v m u := ⟨h.a.bel hb, h.b.bel hb, h.c.bel hb, bel_tr h.bel hb⟩
theorem B3.facts (h : B3 T w W n v m u) : W.cell? ⟨w.heap.size, 0, none⟩ = some (.bool n) ∧ W.cell? ⟨w.heap.size, 1, none⟩ = some v ∧ W.cell? ⟨w.heap.size + 1, 0, none⟩ = some (.bool m) ∧ W.cell? ⟨w.heap.size + 1, 1, none⟩ = some u ∧
    W.cell? ⟨w.heap.size + 1 + 1, 0, none⟩ = some (.bool false) ∧ W.cell? ⟨w.heap.size + 1 + 1, 1, none⟩ = some (.slice none 0 0) ∧ W.frozen? ⟨w.heap.size + 1 + 1, 0, none⟩ = false ∧ W.frozen? ⟨w.heap.size + 1 + 1, 1, none⟩ = false :=
  ⟨h.a.c0, h.a.c1, h.b.c0, h.b.c1, h.c.c0, h.c.c1, h.c.fr 0, h.c.fr 1⟩
theorem B3.fin (h : B3 T w W n v m u) (k : Bool) (x : Value) : Bx T ((W.setCell ⟨w.heap.size + 2, 0, none⟩ (.bool k)).setCell ⟨w.heap.size + 2, 1, none⟩ x) (w.heap.size + 2) k x := (h.c.set0 k).set1 x
theorem B3.end_ (h : B3 T w W n v m u) (x y : Value) : Below w.heap.size w ((W.setCell ⟨w.heap.size + 2, 0, none⟩ x).setCell ⟨w.heap.size + 2, 1, none⟩ y) := bel_set (bel_set h.bel (by omega) _ _) (by omega) _ _
end
theorem BigE.to {z z' : Int} {l l' : Nat} {w : World} {e : Ending} {w' : World} (h : BigE z l w e w') (hz : z = z') (hl : l ≤ l') : BigE z' l' w e w' := by
  subst hz
  obtain ⟨Z, h1, h2, h3⟩ := h
  exact ⟨Z, h1, h2.le hl, h3⟩
theorem NumE.to {z z' : Int} {l l' : Nat} {w : World} {e : Ending} {w' : World} (h : NumE z l w e w') (hz : z = z') (hl : l ≤ l') : NumE z' l' w e w' := by
  subst hz
  obtain ⟨Z, h1, h2, h3⟩ := h
  exact ⟨Z, h1, h2.le hl, h3⟩
/-- form's answer in parts. -/
theorem form_parts (n : Bool) (v : Value) (xs : List Nat) (w : World) (h : Arr w .u32 v xs) (hx : Eg xs) : Calls Tryz.prog 91 #[.bool n, v] w fun e w' => ∃ b C p q zs, e = .returned (.agg #[.bool b, .slice C p q]) ∧ (Arr w' .u32 (.slice C p q) zs ∧ Eg zs ∧ Can b zs ∧ zs.length ≤ xs.length ∧ sv b (dw zs) = sv n (dw xs)) ∧ Below w.heap.size w w' :=
  (form_any n v xs w h hx).mono fun _ _ ⟨Z, h1, ⟨b, u, zs, h2, h3⟩, h4⟩ => by
    obtain ⟨C, q, rfl⟩ := h3.1.slice
    exact ⟨b, C, _, q, zs, by rw [h1, h2], h3, h4⟩
theorem norm_parts (n : Bool) (v : Value) (xs : List Nat) (w : World) (h : Arr w .u64 v xs) (hx : Dg xs) : Calls Tryz.prog 65 #[.bool n, v] w fun e w' => ∃ b C p q zs, e = .returned (.agg #[.bool b, .slice C p q]) ∧ (Arr w' .u64 (.slice C p q) zs ∧ Dg zs ∧ Can b zs ∧ zs.length ≤ xs.length ∧ sv b (dv zs) = sv n (dv xs)) ∧ Below w.heap.size w w' :=
  (norm_any n v xs w h hx).mono fun _ _ ⟨Z, h1, ⟨b, u, zs, h2, h3⟩, h4⟩ => by
    obtain ⟨C, q, rfl⟩ := h3.1.slice
    exact ⟨b, C, _, q, zs, by rw [h1, h2], h3, h4⟩
theorem sv_add_same (n : Bool) (x y : Nat) : sv n (x + y) = sv n x + sv n y := by cases n <;> simp [sv] <;> omega
theorem sv_add_diff {n m : Bool} {x y : Nat} (h : n ≠ m) (hle : y ≤ x) : sv n (x - y) = sv n x + sv m y := by cases n <;> cases m <;> simp [sv] at h ⊢ <;> omega
theorem Bx.not_int {T : TypeId} {w : World} {g : Nat} {n : Bool} {A : Option Addr} {m c : Nat} {k : IntKind} {d : Int} {p : Addr} (h : Bx T w g n (.slice A m c)) (hp : w.cell? p = some (.int k d)) : p.block ≠ g := by
  rintro rfl
  unfold Bx at h
  simp only [World.cell?, h] at hp
  split at hp
  · cases hp
  · rcases hj : p.off with _ | _ | j <;> rw [hj] at hp <;> simp at hp
theorem Arr.box {T : TypeId} {W : World} {k : IntKind} {v : Value} {xs : List Nat} {g : Nat} {n : Bool} {A : Option Addr} {m c : Nat} (h : Arr W k v xs) (hX : Bx T W g n (.slice A m c)) (j : Nat) (x : Value) : Arr (W.setCell ⟨g, j, none⟩ x) k v xs := by
  obtain ⟨A', c', h1, h2, h3, h4, h5⟩ := h
  refine ⟨A', c', h1, h2, h3, h4, fun ad ha => ⟨fun h0 => by simpa using (h5 ad ha).1 h0, fun i hi => ?_⟩⟩
  have hc := (h5 ad ha).2 i hi
  rw [World.cell?_setCell_other]
  · exact hc
  · intro e
    exact hX.not_int hc (by rw [← e])
theorem big_fin {w W : World} {n m b : Bool} {v u x : Value} {ss : List Nat} {l l' : Nat} {z z' : Int} (hX : B3 60 w W n v m u) (hS : Arr W .u32 x ss ∧ Eg ss ∧ Can b ss ∧ ss.length ≤ l ∧ sv b (dw ss) = z) (hz : z = z') (hl : l ≤ l') :
    BigE z' l' w (.returned (.agg #[.bool b, x])) ((W.setCell ⟨w.heap.size + 2, 0, none⟩ (.bool b)).setCell ⟨w.heap.size + 2, 1, none⟩ x) := by
  obtain ⟨h1, h2, h3, h4, h5⟩ := hS
  subst hz
  exact ⟨_, rfl, ⟨b, x, ss, rfl, (h1.box hX.c 0 _).box (hX.c.set0 b) 1 _, h2, h3, Nat.le_trans h4 hl, h5⟩, hX.end_ _ _⟩
theorem num_fin {w W : World} {n m b : Bool} {v u x : Value} {ss : List Nat} {l l' : Nat} {z z' : Int} (hX : B3 69 w W n v m u) (hS : Arr W .u64 x ss ∧ Dg ss ∧ Can b ss ∧ ss.length ≤ l ∧ sv b (dv ss) = z) (hz : z = z') (hl : l ≤ l') :
    NumE z' l' w (.returned (.agg #[.bool b, x])) ((W.setCell ⟨w.heap.size + 2, 0, none⟩ (.bool b)).setCell ⟨w.heap.size + 2, 1, none⟩ x) := by
  obtain ⟨h1, h2, h3, h4, h5⟩ := hS
  subst hz
  exact ⟨_, rfl, ⟨b, x, ss, rfl, (h1.box hX.c 0 _).box (hX.c.set0 b) 1 _, h2, h3, Nat.le_trans h4 hl, h5⟩, hX.end_ _ _⟩
set_option maxHeartbeats 2000000 in
set_option maxRecDepth 100000 in
theorem add_same (n : Bool) (v u : Value) (xs ys : List Nat) (w : World) (hv : Arr w .u32 v xs) (hu : Arr w .u32 u ys) (hx : Eg xs) (hy : Eg ys) (hxl : xs.length ≤ 100000) (hyl : ys.length ≤ 100000) :
    Calls Tryz.prog 58 #[.agg #[.bool n, v], .agg #[.bool n, u]] w (BigE (sv n (dw xs) + sv n (dw ys)) (max xs.length ys.length + 1) w) := by
  obtain ⟨A, c, rfl⟩ := hv.slice
  obtain ⟨B, d, rfl⟩ := hu.slice
  obtain ⟨m, hm⟩ : ∃ m, m = xs.length := ⟨_, rfl⟩
  obtain ⟨k, hk⟩ : ∃ k, k = ys.length := ⟨_, rfl⟩
  rw [← hm] at hv
  rw [← hk] at hu
  have HV := Lib.hid hv
  have HU := Lib.hid hu
  have HX := Lib.hid (And.intro (And.intro hx (show (tr xs).length ≤ 100000 by rw [tr_len]; exact Nat.le_trans (tr_le xs) hxl)) (And.intro hy (show (tr ys).length ≤ 100000 by rw [tr_len]; exact Nat.le_trans (tr_le ys) hyl)))
  have HM := Lib.hid (And.intro hm hk)
  rw [← hm, ← hk]
  clear hm hk hv hu hx hy hxl hyl
  go_enter Tryz.func58, Tryz.ntmps58
  go_wp2_with fail
  obtain ⟨W0, hW0⟩ : ∃ W0, W0 = (((w.alloc (.cells #[.bool n, .slice A m c] 60)).alloc (.cells #[.bool n, .slice B k d] 60)).alloc (.cells #[.bool false, .slice none 0 0] 60)) := ⟨_, rfl⟩
  rw [← hW0]
  have HX0 := Lib.hid (hW0 ▸ B3.start 60 w n (.slice A m c) n (.slice B k d))
  clear hW0
  obtain ⟨f1, f2, f3, f4, f5, f6, f7, f8⟩ := HX0.out.facts
  have HV0 := Lib.hid (HV.out.bel HX0.out.bel)
  have HU0 := Lib.hid (HU.out.bel HX0.out.bel)
  go_quiet ((first | (go_at_call 92; with_reducible exact Calls.quiet_of_same (trim32_q A m c xs _ (HV0.out.drewN _))) | (go_at_call 92; with_reducible exact Calls.quiet_of_same (trim32_q B k d ys _ (HU0.out.drewN _)))))
  obtain ⟨W1, hW1⟩ : ∃ W1, W1 = W0.drewN nq := ⟨_, rfl⟩
  have HX1 := Lib.hid (show B3 60 w W1 n (.slice A m c) n (.slice B k d) by rw [hW1]; exact HX0.out.drewN nq)
  have HV1 := Lib.hid (show Arr W1 .u32 (.slice A (tl xs) c) (tr xs) by rw [hW1]; exact (HV0.out.drewN nq).tr)
  have HU1 := Lib.hid (show Arr W1 .u32 (.slice B (tl ys) d) (tr ys) by rw [hW1]; exact (HU0.out.drewN nq).tr)
  rw [← hW1]
  clear hW1 HX0 HV0 HU0 f1 f2 f3 f4 f5 f6 f7 f8
  obtain ⟨f1, f2, f3, f4, f5, f6, f7, f8⟩ := HX1.out.facts
  go_wp2_with fail
  go_region_with (first
    | (go_at_call 93; (with_reducible refine (plus32_any (.slice A (tl xs) c) (.slice B (tl ys) d) (tr xs) (tr ys) _ HV1.out.drew HU1.out.drew (tr_eg HX.out.1.1) (tr_eg HX.out.2.1) HX.out.1.2 HX.out.2.2).mono ?_); rintro e w2 ⟨z, zs, rfl, hz1, hz2, hz3, hz4, hb⟩; have HX2 := Lib.hid (HX1.out.drew.next hb); have HZ := Lib.hid (And.intro hz1 (And.intro hz2 (And.intro hz3 hz4))); clear hz1 hz2 hz3 hz4 hb f1 f2 f3 f4 f5 f6 f7 f8; obtain ⟨f1, f2, f3, f4, f5, f6, f7, f8⟩ := HX2.out.facts)
    | (go_at_call 91; (with_reducible refine (form_parts n z zs w2 HZ.out.1 HZ.out.2.1).mono ?_); rintro e w3 ⟨b, C, p, q, ss, rfl, hs, hb⟩; have HX3 := Lib.hid (HX2.out.next hb); have HS := Lib.hid hs; clear hs hb f1 f2 f3 f4 f5 f6 f7 f8; obtain ⟨f1, f2, f3, f4, f5, f6, f7, f8⟩ := HX3.out.facts))
  all_goals
    go_wp2_with fail
    exact bodyPost_ret (ret_bx24 rfl rfl (HX3.out.fin b _)) rfl (big_fin HX3.out HS.out (by rw [HZ.out.2.2.1, tr_dw, tr_dw, sv_add_same]) (by have h := HZ.out.2.2.2; rw [tr_len, tr_len] at h; rw [HM.out.1, HM.out.2]; have := tr_le xs; have := tr_le ys; omega))
end Go.Proofs.YtpobhegllhhdgaaGreat

namespace Go.Proofs.YtpobhegllhhdgaaGreat
open Go.RowKit

set_option maxHeartbeats 2000000 in
set_option maxRecDepth 100000 in
theorem add_less (n : Bool) (v u : Value) (xs ys : List Nat) (w : World) (hv : Arr w .u32 v xs) (hu : Arr w .u32 u ys) (hx : Eg xs) (hy : Eg ys) (hxl : xs.length ≤ 100000) (hyl : ys.length ≤ 100000) (hle : dw xs < dw ys) :
    Calls Tryz.prog 58 #[.agg #[.bool n, v], .agg #[.bool (!n), u]] w (BigE (sv n (dw xs) + sv (!n) (dw ys)) (max xs.length ys.length + 1) w) := by
  obtain ⟨A, c, rfl⟩ := hv.slice
  obtain ⟨B, d, rfl⟩ := hu.slice
  obtain ⟨m, hm⟩ : ∃ m, m = xs.length := ⟨_, rfl⟩
  obtain ⟨k, hk⟩ : ∃ k, k = ys.length := ⟨_, rfl⟩
  rw [← hm] at hv
  rw [← hk] at hu
  have HV := Lib.hid hv
  have HU := Lib.hid hu
  have HX := Lib.hid (And.intro (And.intro hx (show (tr xs).length ≤ 100000 by rw [tr_len]; exact Nat.le_trans (tr_le xs) hxl)) (And.intro hy (show (tr ys).length ≤ 100000 by rw [tr_len]; exact Nat.le_trans (tr_le ys) hyl)))
  have HM := Lib.hid (And.intro hm hk)
  have HLE := Lib.hid hle
  have hnn : (n == !n) = false := by cases n <;> rfl
  rw [← hm, ← hk]
  clear hm hk hv hu hx hy hxl hyl hle
  go_enter Tryz.func58, Tryz.ntmps58
  go_wp2_with fail
  obtain ⟨W0, hW0⟩ : ∃ W0, W0 = (((w.alloc (.cells #[.bool n, .slice A m c] 60)).alloc (.cells #[.bool (!n), .slice B k d] 60)).alloc (.cells #[.bool false, .slice none 0 0] 60)) := ⟨_, rfl⟩
  rw [← hW0]
  have HX0 := Lib.hid (hW0 ▸ B3.start 60 w n (.slice A m c) (!n) (.slice B k d))
  clear hW0
  obtain ⟨f1, f2, f3, f4, f5, f6, f7, f8⟩ := HX0.out.facts
  have HV0 := Lib.hid (HV.out.bel HX0.out.bel)
  have HU0 := Lib.hid (HU.out.bel HX0.out.bel)
  go_quiet ((first | (go_at_call 92; with_reducible exact Calls.quiet_of_same (trim32_q A m c xs _ (HV0.out.drewN _))) | (go_at_call 92; with_reducible exact Calls.quiet_of_same (trim32_q B k d ys _ (HU0.out.drewN _)))))
  obtain ⟨W1, hW1⟩ : ∃ W1, W1 = W0.drewN nq := ⟨_, rfl⟩
  have HX1 := Lib.hid (show B3 60 w W1 n (.slice A m c) (!n) (.slice B k d) by rw [hW1]; exact HX0.out.drewN nq)
  have HV1 := Lib.hid (show Arr W1 .u32 (.slice A (tl xs) c) (tr xs) by rw [hW1]; exact (HV0.out.drewN nq).tr)
  have HU1 := Lib.hid (show Arr W1 .u32 (.slice B (tl ys) d) (tr ys) by rw [hW1]; exact (HU0.out.drewN nq).tr)
  rw [← hW1]
  clear hW1 HX0 HV0 HU0 f1 f2 f3 f4 f5 f6 f7 f8
  obtain ⟨f1, f2, f3, f4, f5, f6, f7, f8⟩ := HX1.out.facts
  have HC := Lib.hid (show cmpI (dw (tr xs)) (dw (tr ys)) = -1 from cmpI_lt (by rw [tr_dw, tr_dw]; have := HLE.out; omega))
  go_wp2_with (go_at_call 94; (with_reducible refine (compare_any (.slice A (tl xs) c) (.slice B (tl ys) d) (tr xs) (tr ys) W1 HV1.out HU1.out (tr_eg HX.out.1.1) (tr_eg HX.out.2.1) (tr_top xs) (tr_top ys) (Nat.le_trans HX.out.1.2 (by decide))).mono ?_); rintro e w' ⟨he, n1, rfl⟩; rw [HC.out] at he; subst he)
  obtain ⟨W2, hW2⟩ : ∃ W2, W2 = W1.drewN n1 := ⟨_, rfl⟩
  have HX2' := Lib.hid (show B3 60 w W2 n (.slice A m c) (!n) (.slice B k d) by rw [hW2]; exact HX1.out.drewN n1)
  have HV2 := Lib.hid (show Arr W2 .u32 (.slice A (tl xs) c) (tr xs) by rw [hW2]; exact HV1.out.drewN n1)
  have HU2 := Lib.hid (show Arr W2 .u32 (.slice B (tl ys) d) (tr ys) by rw [hW2]; exact HU1.out.drewN n1)
  rw [← hW2]
  clear hW2 HX1 HV1 HU1 f1 f2 f3 f4 f5 f6 f7 f8
  obtain ⟨f1, f2, f3, f4, f5, f6, f7, f8⟩ := HX2'.out.facts
  go_region_with (first
    | (go_at_call 95; (with_reducible refine (minus32_any (.slice B (tl ys) d) (.slice A (tl xs) c) (tr ys) (tr xs) _ HU2.out.drew HV2.out.drew (tr_eg HX.out.2.1) (tr_eg HX.out.1.1) HX.out.2.2 (by rw [tr_dw, tr_dw]; exact Nat.le_of_lt HLE.out)).mono ?_); rintro e w2 ⟨z, zs, rfl, hz1, hz2, hz3, hz4, hb⟩; have HX2 := Lib.hid (HX2'.out.drew.next hb); have HZ := Lib.hid (And.intro hz1 (And.intro hz2 (And.intro hz3 hz4))); clear hz1 hz2 hz3 hz4 hb f1 f2 f3 f4 f5 f6 f7 f8; obtain ⟨f1, f2, f3, f4, f5, f6, f7, f8⟩ := HX2.out.facts)
    | (go_at_call 91; (with_reducible refine (form_parts (!n) z zs w2 HZ.out.1 HZ.out.2.1).mono ?_); rintro e w3 ⟨b, C, p, q, ss, rfl, hs, hb⟩; have HX3 := Lib.hid (HX2.out.next hb); have HS := Lib.hid hs; clear hs hb f1 f2 f3 f4 f5 f6 f7 f8; obtain ⟨f1, f2, f3, f4, f5, f6, f7, f8⟩ := HX3.out.facts))
  all_goals
    go_wp2_with fail
    exact bodyPost_ret (ret_bx24 rfl rfl (HX3.out.fin b _)) rfl (big_fin HX3.out HS.out (by rw [HZ.out.2.2.1, tr_dw, tr_dw, sv_add_diff (n := !n) (m := n) (by cases n <;> decide) (Nat.le_of_lt HLE.out), Int.add_comm]) (by have h := HZ.out.2.2.2; rw [tr_len] at h; rw [HM.out.1, HM.out.2]; have := tr_le xs; have := tr_le ys; omega))
set_option maxHeartbeats 2000000 in
set_option maxRecDepth 100000 in
theorem add_geq (n : Bool) (v u : Value) (xs ys : List Nat) (w : World) (hv : Arr w .u32 v xs) (hu : Arr w .u32 u ys) (hx : Eg xs) (hy : Eg ys) (hxl : xs.length ≤ 100000) (hyl : ys.length ≤ 100000) (hle : dw ys ≤ dw xs) :
    Calls Tryz.prog 58 #[.agg #[.bool n, v], .agg #[.bool (!n), u]] w (BigE (sv n (dw xs) + sv (!n) (dw ys)) (max xs.length ys.length + 1) w) := by
  obtain ⟨A, c, rfl⟩ := hv.slice
  obtain ⟨B, d, rfl⟩ := hu.slice
  obtain ⟨m, hm⟩ : ∃ m, m = xs.length := ⟨_, rfl⟩
  obtain ⟨k, hk⟩ : ∃ k, k = ys.length := ⟨_, rfl⟩
  rw [← hm] at hv
  rw [← hk] at hu
  have HV := Lib.hid hv
  have HU := Lib.hid hu
  have HX := Lib.hid (And.intro (And.intro hx (show (tr xs).length ≤ 100000 by rw [tr_len]; exact Nat.le_trans (tr_le xs) hxl)) (And.intro hy (show (tr ys).length ≤ 100000 by rw [tr_len]; exact Nat.le_trans (tr_le ys) hyl)))
  have HM := Lib.hid (And.intro hm hk)
  have HLE := Lib.hid hle
  have hnn : (n == !n) = false := by cases n <;> rfl
  rw [← hm, ← hk]
  clear hm hk hv hu hx hy hxl hyl hle
  go_enter Tryz.func58, Tryz.ntmps58
  go_wp2_with fail
  obtain ⟨W0, hW0⟩ : ∃ W0, W0 = (((w.alloc (.cells #[.bool n, .slice A m c] 60)).alloc (.cells #[.bool (!n), .slice B k d] 60)).alloc (.cells #[.bool false, .slice none 0 0] 60)) := ⟨_, rfl⟩
  rw [← hW0]
  have HX0 := Lib.hid (hW0 ▸ B3.start 60 w n (.slice A m c) (!n) (.slice B k d))
  clear hW0
  obtain ⟨f1, f2, f3, f4, f5, f6, f7, f8⟩ := HX0.out.facts
  have HV0 := Lib.hid (HV.out.bel HX0.out.bel)
  have HU0 := Lib.hid (HU.out.bel HX0.out.bel)
  go_quiet ((first | (go_at_call 92; with_reducible exact Calls.quiet_of_same (trim32_q A m c xs _ (HV0.out.drewN _))) | (go_at_call 92; with_reducible exact Calls.quiet_of_same (trim32_q B k d ys _ (HU0.out.drewN _)))))
  obtain ⟨W1, hW1⟩ : ∃ W1, W1 = W0.drewN nq := ⟨_, rfl⟩
  have HX1 := Lib.hid (show B3 60 w W1 n (.slice A m c) (!n) (.slice B k d) by rw [hW1]; exact HX0.out.drewN nq)
  have HV1 := Lib.hid (show Arr W1 .u32 (.slice A (tl xs) c) (tr xs) by rw [hW1]; exact (HV0.out.drewN nq).tr)
  have HU1 := Lib.hid (show Arr W1 .u32 (.slice B (tl ys) d) (tr ys) by rw [hW1]; exact (HU0.out.drewN nq).tr)
  rw [← hW1]
  clear hW1 HX0 HV0 HU0 f1 f2 f3 f4 f5 f6 f7 f8
  obtain ⟨f1, f2, f3, f4, f5, f6, f7, f8⟩ := HX1.out.facts
  obtain ⟨cv, hcv⟩ : ∃ cv : Int, cv = cmpI (dw (tr xs)) (dw (tr ys)) := ⟨_, rfl⟩
  have hcv0 : ¬ cv < 0 := by
    rw [hcv, tr_dw, tr_dw]
    have := HLE.out
    rcases Nat.lt_or_ge (dw ys) (dw xs) with h | h
    · rw [cmpI_gt (by omega)]; omega
    · rw [cmpI_eq (by omega)]; omega
  have HC := Lib.hid hcv
  clear hcv
  go_wp2_with (go_at_call 94; (with_reducible refine (compare_any (.slice A (tl xs) c) (.slice B (tl ys) d) (tr xs) (tr ys) W1 HV1.out HU1.out (tr_eg HX.out.1.1) (tr_eg HX.out.2.1) (tr_top xs) (tr_top ys) (Nat.le_trans HX.out.1.2 (by decide))).mono ?_); rintro e w' ⟨he, n1, rfl⟩; rw [← HC.out] at he; subst he)
  obtain ⟨W2, hW2⟩ : ∃ W2, W2 = W1.drewN n1 := ⟨_, rfl⟩
  have HX2' := Lib.hid (show B3 60 w W2 n (.slice A m c) (!n) (.slice B k d) by rw [hW2]; exact HX1.out.drewN n1)
  have HV2 := Lib.hid (show Arr W2 .u32 (.slice A (tl xs) c) (tr xs) by rw [hW2]; exact HV1.out.drewN n1)
  have HU2 := Lib.hid (show Arr W2 .u32 (.slice B (tl ys) d) (tr ys) by rw [hW2]; exact HU1.out.drewN n1)
  rw [← hW2]
  clear hW2 HX1 HV1 HU1 f1 f2 f3 f4 f5 f6 f7 f8
  obtain ⟨f1, f2, f3, f4, f5, f6, f7, f8⟩ := HX2'.out.facts
  go_region_with (first
    | (go_at_call 95; (with_reducible refine (minus32_any (.slice A (tl xs) c) (.slice B (tl ys) d) (tr xs) (tr ys) _ HV2.out.drew HU2.out.drew (tr_eg HX.out.1.1) (tr_eg HX.out.2.1) HX.out.1.2 (by rw [tr_dw, tr_dw]; exact HLE.out)).mono ?_); rintro e w2 ⟨z, zs, rfl, hz1, hz2, hz3, hz4, hb⟩; have HX2 := Lib.hid (HX2'.out.drew.next hb); have HZ := Lib.hid (And.intro hz1 (And.intro hz2 (And.intro hz3 hz4))); clear hz1 hz2 hz3 hz4 hb f1 f2 f3 f4 f5 f6 f7 f8; obtain ⟨f1, f2, f3, f4, f5, f6, f7, f8⟩ := HX2.out.facts)
    | (go_at_call 91; (with_reducible refine (form_parts n z zs w2 HZ.out.1 HZ.out.2.1).mono ?_); rintro e w3 ⟨b, C, p, q, ss, rfl, hs, hb⟩; have HX3 := Lib.hid (HX2.out.next hb); have HS := Lib.hid hs; clear hs hb f1 f2 f3 f4 f5 f6 f7 f8; obtain ⟨f1, f2, f3, f4, f5, f6, f7, f8⟩ := HX3.out.facts))
  all_goals
    go_wp2_with fail
    exact bodyPost_ret (ret_bx24 rfl rfl (HX3.out.fin b _)) rfl (big_fin HX3.out HS.out (by rw [HZ.out.2.2.1, tr_dw, tr_dw, sv_add_diff (n := n) (m := !n) (by cases n <;> decide) HLE.out]) (by have h := HZ.out.2.2.2; rw [tr_len] at h; rw [HM.out.1, HM.out.2]; have := tr_le xs; have := tr_le ys; omega))
end Go.Proofs.YtpobhegllhhdgaaGreat

namespace Go.Proofs.YtpobhegllhhdgaaGreat
open Go.RowKit

theorem add_any (X Y : Value) (x y : Int) (l k : Nat) (w : World) (hX : BigA w X x l) (hY : BigA w Y y k) (hl : l ≤ 100000) (hk : k ≤ 100000) : Calls Tryz.prog 58 #[X, Y] w (BigE (x + y) (max l k + 1) w) := by
  obtain ⟨n, v, xs, rfl, hv, hx, hxl, rfl⟩ := hX
  obtain ⟨m, u, ys, rfl, hu, hy, hyl, rfl⟩ := hY
  have tw := fun {e w'} (h : BigE (sv n (dw xs) + sv m (dw ys)) (max xs.length ys.length + 1) w e w') => h.to rfl (show max xs.length ys.length + 1 ≤ max l k + 1 by omega)
  by_cases hnm : n = m
  · subst hnm
    exact (add_same n v u xs ys w hv hu hx hy (by omega) (by omega)).mono fun _ _ h => tw h
  · obtain rfl : m = !n := by cases n <;> cases m <;> simp at hnm ⊢
    rcases Nat.lt_or_ge (dw xs) (dw ys) with h | h
    · exact (add_less n v u xs ys w hv hu hx hy (by omega) (by omega) h).mono fun _ _ h => tw h
    · exact (add_geq n v u xs ys w hv hu hx hy (by omega) (by omega) h).mono fun _ _ h => tw h
theorem sv_not (n : Bool) (x : Nat) : sv (!n) x = - sv n x := by cases n <;> simp [sv]
theorem BigE.open_ {z : Int} {l : Nat} {w : World} {e : Ending} {w' : World} (h : BigE z l w e w') : ∃ b C p q zs, e = .returned (.agg #[.bool b, .slice C p q]) ∧ (Arr w' .u32 (.slice C p q) zs ∧ Eg zs ∧ Can b zs ∧ zs.length ≤ l ∧ sv b (dw zs) = z) ∧ Below w.heap.size w w' := by
  obtain ⟨Z, h1, ⟨b, u, zs, h2, h3⟩, h4⟩ := h
  obtain ⟨C, q, rfl⟩ := h3.1.slice
  exact ⟨b, C, _, q, zs, by rw [h1, h2], h3, h4⟩
theorem NumE.open_ {z : Int} {l : Nat} {w : World} {e : Ending} {w' : World} (h : NumE z l w e w') : ∃ b C p q zs, e = .returned (.agg #[.bool b, .slice C p q]) ∧ (Arr w' .u64 (.slice C p q) zs ∧ Dg zs ∧ Can b zs ∧ zs.length ≤ l ∧ sv b (dv zs) = z) ∧ Below w.heap.size w w' := by
  obtain ⟨Z, h1, ⟨b, u, zs, h2, h3⟩, h4⟩ := h
  obtain ⟨C, q, rfl⟩ := h3.1.slice
  exact ⟨b, C, _, q, zs, by rw [h1, h2], h3, h4⟩
set_option maxHeartbeats 1000000 in
set_option maxRecDepth 100000 in
theorem sub_any (X Y : Value) (x y : Int) (l k : Nat) (w : World) (hX : BigA w X x l) (hY : BigA w Y y k) (hl : l ≤ 100000) (hk : k ≤ 100000) : Calls Tryz.prog 69 #[X, Y] w (BigE (x - y) (max l k + 1) w) := by
  obtain ⟨n, v, xs, rfl, hv, hx, hxl, hvx⟩ := hX
  obtain ⟨m, u, ys, rfl, hu, hy, hyl, hvy⟩ := hY
  obtain ⟨A, c, rfl⟩ := hv.slice
  obtain ⟨B, d, rfl⟩ := hu.slice
  have HX := Lib.hid (show ∀ W, Below w.heap.size w W → BigA W (.agg #[.bool n, .slice A xs.length c]) x l from fun W hb => BigA.bel ⟨n, _, xs, rfl, hv, hx, hxl, hvx⟩ hb)
  have HY := Lib.hid (show ∀ W, Below w.heap.size w W → BigA W (.agg #[.bool (!m), .slice B ys.length d]) (-y) k from fun W hb => BigA.bel ⟨!m, _, ys, rfl, hu, hy, hyl, by rw [sv_not, hvy]⟩ hb)
  have HL := Lib.hid (And.intro hl hk)
  obtain ⟨p, hp⟩ : ∃ p, p = xs.length := ⟨_, rfl⟩
  obtain ⟨q, hq⟩ : ∃ q, q = ys.length := ⟨_, rfl⟩
  rw [← hp] at HX ⊢
  rw [← hq] at HY ⊢
  clear hv hu hx hy hxl hyl hvx hvy hl hk hp hq
  have H0 := Lib.hid (B3.start 60 w n (.slice A p c) (!m) (.slice B q d))
  go_enter Tryz.func69, Tryz.ntmps69
  go_wp2_with (go_at_call 58; (with_reducible refine (add_any _ _ x (-y) l k _ (HX.out _ H0.out.bel) (HY.out _ H0.out.bel) HL.out.1 HL.out.2).mono ?_); rintro e w1 he; obtain ⟨b, C, p', q', zs, rfl, hs, hb⟩ := he.open_; have H1 := Lib.hid (H0.out.next hb); have HS := Lib.hid hs; clear he hs hb; obtain ⟨f1, f2, f3, f4, f5, f6, f7, f8⟩ := H1.out.facts)
  exact bodyPost_ret (ret_bx24 rfl rfl (H1.out.fin b _)) rfl (big_fin H1.out HS.out (by omega) (Nat.le_refl _))
def isNeg (n : Bool) (x : Nat) : Int := if x = 0 then 0 else if n then -1 else 1
theorem sign_val (n : Bool) (x : Nat) : isNeg n x = cmpI (sv n x) 0 := by
  unfold isNeg cmpI
  cases n <;> simp only [sv_true, sv_false] <;> split <;> simp <;> (try split) <;> (try split) <;> omega
/-- What Sign answers. -/
def sgn (x : Int) : Int := cmpI x 0
set_option maxHeartbeats 1000000 in
theorem sign_any (X : Value) (x : Int) (l : Nat) (w : World) (hX : BigA w X x l) : Calls Tryz.prog 78 #[X] w fun e w' => e = .returned (.int .i64 (sgn x)) ∧ Below w.heap.size w w' := by
  obtain ⟨n, v, xs, rfl, hv, hx, hxl, rfl⟩ := hX
  obtain ⟨A, c, rfl⟩ := hv.slice
  obtain ⟨p, hp⟩ : ∃ p, p = xs.length := ⟨_, rfl⟩
  have hs := sign_val n (dw xs)
  unfold sgn
  rw [← hs]
  rw [← hp] at hv ⊢
  have HV := Lib.hid (hv.alloc (.cells #[.bool n, .slice A p c] 60))
  have HZ := Lib.hid (show dw xs = 0 ↔ tl xs = 0 by rw [← tr_dw, top_zero32 (tr_top xs), ← tr_len, List.length_eq_zero_iff])
  clear hv hx hxl hp hs
  by_cases h0 : tl xs = 0
  · have hr := Lib.hid (show isNeg n (dw xs) = 0 by rw [isNeg, if_pos (HZ.out.2 h0)])
    have hb : ((tl xs : Int) == 0) = true := by simp [h0]
    clear h0
    go_enter Tryz.func78, Tryz.ntmps78
    go_wp2_with (go_at_call 92; (with_reducible refine (trim32_w A p c xs _ HV.out).mono ?_); rintro e w1 ⟨rfl, rfl⟩)
    go_ret
    exact ⟨ret_int hr.out.symm, bel_a w _⟩
  · have hb : ((tl xs : Int) == 0) = false := by simp; omega
    have hne : dw xs ≠ 0 := fun h => h0 (HZ.out.1 h)
    cases n
    · have hr := Lib.hid (show isNeg false (dw xs) = 1 by simp [isNeg, hne])
      clear h0 hne
      go_enter Tryz.func78, Tryz.ntmps78
      go_wp2_with (go_at_call 92; (with_reducible refine (trim32_w A p c xs _ HV.out).mono ?_); rintro e w1 ⟨rfl, rfl⟩)
      go_ret
      exact ⟨ret_int hr.out.symm, bel_a w _⟩
    · have hr := Lib.hid (show isNeg true (dw xs) = -1 by simp [isNeg, hne])
      clear h0 hne
      go_enter Tryz.func78, Tryz.ntmps78
      go_wp2_with (go_at_call 92; (with_reducible refine (trim32_w A p c xs _ HV.out).mono ?_); rintro e w1 ⟨rfl, rfl⟩)
      go_ret
      exact ⟨ret_int hr.out.symm, bel_a w _⟩
end Go.Proofs.YtpobhegllhhdgaaGreat

namespace Go.Proofs.YtpobhegllhhdgaaGreat
open Go.RowKit

theorem sv_mul (n m : Bool) (x y : Nat) : sv (!(n == m)) (x * y) = sv n x * sv m y := by
  cases n <;> cases m <;> simp [sv, Int.neg_mul, Int.mul_neg]
set_option maxHeartbeats 4000000 in
set_option maxRecDepth 100000 in
theorem mul_any (X Y : Value) (x y : Int) (l k : Nat) (w : World) (hX : BigA w X x l) (hY : BigA w Y y k) (hl : l ≤ 100000) (hk : k ≤ 100000) : Calls Tryz.prog 59 #[X, Y] w (BigE (x * y) (l + k) w) := by
  obtain ⟨n, v, xs, rfl, hv, hx, hxl, rfl⟩ := hX
  obtain ⟨m, u, ys, rfl, hu, hy, hyl, rfl⟩ := hY
  obtain ⟨A, c, rfl⟩ := hv.slice
  obtain ⟨B, d, rfl⟩ := hu.slice
  have HX := Lib.hid (And.intro (And.intro hx (show (tr xs).length ≤ 100000 by rw [tr_len]; have := tr_le xs; omega)) (And.intro hy (show (tr ys).length ≤ 100000 by rw [tr_len]; have := tr_le ys; omega)))
  have HL := Lib.hid (show (tr xs).length + (tr ys).length ≤ l + k by rw [tr_len, tr_len]; have := tr_le xs; have := tr_le ys; omega)
  obtain ⟨p, hp⟩ : ∃ p, p = xs.length := ⟨_, rfl⟩
  obtain ⟨q, hq⟩ : ∃ q, q = ys.length := ⟨_, rfl⟩
  rw [← hp] at hv ⊢
  rw [← hq] at hu ⊢
  have HV := Lib.hid hv
  have HU := Lib.hid hu
  clear hv hu hx hy hxl hyl hp hq hl hk
  go_enter Tryz.func59, Tryz.ntmps59
  go_wp2_with fail
  obtain ⟨W0, hW0⟩ : ∃ W0, W0 = (((w.alloc (.cells #[.bool n, .slice A p c] 60)).alloc (.cells #[.bool m, .slice B q d] 60)).alloc (.cells #[.bool false, .slice none 0 0] 60)) := ⟨_, rfl⟩
  rw [← hW0]
  have HX0 := Lib.hid (hW0 ▸ B3.start 60 w n (.slice A p c) m (.slice B q d))
  clear hW0
  obtain ⟨f1, f2, f3, f4, f5, f6, f7, f8⟩ := HX0.out.facts
  have HV0 := Lib.hid (HV.out.bel HX0.out.bel)
  have HU0 := Lib.hid (HU.out.bel HX0.out.bel)
  have l1 := HX0.out.b.lt
  have ne1 : ¬ w.heap.size + 1 + 1 = w.heap.size := by omega
  have ne2 : ¬ w.heap.size = w.heap.size + 1 + 1 := by omega
  clear f5 f6 f7 f8
  go_region_held3 (fun w' => w'.cell? ⟨w.heap.size, 0, none⟩ = some (.bool n) ∧ w'.cell? ⟨w.heap.size, 1, none⟩ = some (.slice A p c) ∧ w'.cell? ⟨w.heap.size + 1, 0, none⟩ = some (.bool m) ∧ w'.cell? ⟨w.heap.size + 1, 1, none⟩ = some (.slice B q d))
    (first | (go_split_ands; refine ⟨?_, ?_, ?_, ?_⟩ <;> first | (rw [hb3.cell (by have := hb2.size; simp at this ⊢; omega)]; assumption) | (rw [hb2.cell (by simp; omega)]; assumption)) | go_keep)
    (first
      | (go_at_call 92; (with_reducible refine (trim32_w A p c xs _ HV0.out.drew).mono ?_); rintro e w1 ⟨rfl, rfl⟩)
      | (go_at_call 92; (with_reducible refine (trim32_w B q d ys _ HU0.out.drew).mono ?_); rintro e w1 ⟨rfl, rfl⟩)
      | (go_at_call 96; (with_reducible refine (times32_any (.slice A (tl xs) c) (.slice B (tl ys) d) (tr xs) (tr ys) _ HV0.out.drew.tr HU0.out.drew.tr (tr_eg HX.out.1.1) (tr_eg HX.out.2.1) HX.out.1.2 HX.out.2.2).mono ?_); rintro e w2 ⟨z, zs, rfl, hz1, hz2, hz3, hz4, hb2⟩; have HX2 := Lib.hid (HX0.out.drew.next hb2); have HZ := Lib.hid (And.intro hz1 (And.intro hz2 (And.intro hz3 hz4))); clear hz1 hz2 hz3 hz4)
      | (go_at_call 91; (with_reducible refine (form_parts _ z zs w2 HZ.out.1 HZ.out.2.1).mono ?_); rintro e w3 ⟨b, C, p', q', ss, rfl, hs, hb3⟩; have HX3 := Lib.hid (HX2.out.next hb3); have HS := Lib.hid hs; clear hs; obtain ⟨_, _, _, _, f5, f6, f7, f8⟩ := HX3.out.facts))
  all_goals
    go_wp2_with fail
    exact bodyPost_ret (ret_bx24 rfl rfl (HX3.out.fin b _)) rfl (big_fin HX3.out HS.out (by rw [HZ.out.2.2.1, tr_dw, tr_dw, sv_mul]) (Nat.le_trans HZ.out.2.2.2 HL.out))
end Go.Proofs.YtpobhegllhhdgaaGreat
