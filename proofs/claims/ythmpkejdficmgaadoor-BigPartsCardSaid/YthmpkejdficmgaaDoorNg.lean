/- Proved here: what package big's compare and the reference package's less answer. Condition: lists of digits without zeros at the top, that lie in memory. -/
import Derived.Test.YthmpkejdficmgaaDoorNf
namespace Go.Proofs.YthmpkejdficmgaaDoor
open Go.RowKit

theorem isnan32 (x : Nat) (w : World) : Calls Tryd.prog 74 #[.int .u32 (x : Int)] w fun e w' => e = .returned (.bool false) ∧ w = w' := by
  go_enter Tryd.func74, Tryd.ntmps74
  go_wp2
  go_ret
  exact ⟨rfl, rfl⟩
theorem cmpu32_any (x y : Nat) (w : World) : Calls Tryd.prog 63 #[.int .u32 (x : Int), .int .u32 (y : Int)] w fun e w' => e = .returned (.int .i64 (cmpI x y)) ∧ w = w' := by
  rcases Nat.lt_trichotomy x y with h | h | h
  · have hc := Lib.hid (cmpI_lt (a := x) (b := y) (by omega))
    go_enter Tryd.func63, Tryd.ntmps63
    go_wp2_with (go_at_call 74; (with_reducible refine (isnan32 _ _).mono ?_); rintro e w' ⟨rfl, rfl⟩)
    go_ret
    exact ⟨ret_int hc.out.symm, rfl⟩
  · have hc := Lib.hid (cmpI_eq (a := x) (b := y) (by omega))
    have h1 : ¬ x < y := by omega
    have h2 : ¬ y < x := by omega
    clear h
    go_enter Tryd.func63, Tryd.ntmps63
    go_wp2_with (go_at_call 74; (with_reducible refine (isnan32 _ _).mono ?_); rintro e w' ⟨rfl, rfl⟩)
    go_ret
    exact ⟨ret_int hc.out.symm, rfl⟩
  · have hc := Lib.hid (cmpI_gt (a := x) (b := y) (by omega))
    have h1 : ¬ x < y := by omega
    go_enter Tryd.func63, Tryd.ntmps63
    go_wp2_with (go_at_call 74; (with_reducible refine (isnan32 _ _).mono ?_); rintro e w' ⟨rfl, rfl⟩)
    go_ret
    exact ⟨ret_int hc.out.symm, rfl⟩
theorem cmpint_any (x y : Int) (w : World) : Calls Tryd.prog 48 #[.int .i64 x, .int .i64 y] w fun e w' => e = .returned (.int .i64 (cmpI x y)) ∧ w = w' :=
  (Tryd.cmp_Compare_int x y w).mono fun _ _ h => ⟨by rw [h.1, compareInt_eq], h.2.symm⟩
theorem cmpu32_q (x y : Nat) (w : World) : Calls Tryd.prog 63 #[.int .u32 (x : Int), .int .u32 (y : Int)] w fun e w' => e = .returned (.int .i64 (cmpI x y)) ∧ w' = w :=
  (cmpu32_any x y w).mono fun _ _ h => ⟨h.1, h.2.symm⟩
/-- From k on the digits are the same. -/
def SameFrom (xs ys : List Nat) (k : Nat) : Prop := ∀ j, k ≤ j → dat xs j = dat ys j
theorem SameFrom.start {xs ys : List Nat} {m : Nat} (hx : xs.length ≤ m) (hy : ys.length ≤ m) : SameFrom xs ys m := fun j hj => by
  rw [dat_beyond (by omega), dat_beyond (by omega)]
theorem SameFrom.succ {xs ys : List Nat} {k : Nat} (h : SameFrom xs ys (k + 1)) (h0 : dat xs k = dat ys k) : SameFrom xs ys k := fun j hj => by
  rcases Nat.lt_or_ge k j with h1 | h1
  · exact h j h1
  · obtain rfl : j = k := by omega
    exact h0
theorem cmp_dw_eq {xs ys : List Nat} (h : SameFrom xs ys 0) : cmpI (dw xs) (dw ys) = 0 := cmpI_eq (by rw [dw_ext fun j => h j (Nat.zero_le _)])
theorem cmp_dw {xs ys : List Nat} {k : Nat} (hx : Eg xs) (hy : Eg ys) (h : SameFrom xs ys (k + 1)) (hne : dat xs k ≠ dat ys k) : cmpI (dw xs) (dw ys) = cmpI (dat xs k) (dat ys k) := by
  rcases Nat.lt_or_gt_of_ne hne with h1 | h1
  · have := lessw_of hx h1 fun j hj => h j hj
    rw [cmpI_lt (by omega), cmpI_lt (by omega)]
  · have := lessw_of hy h1 fun j hj => (h j hj).symm
    rw [cmpI_gt (by omega), cmpI_gt (by omega)]
theorem cmp_dw_len {xs ys : List Nat} (hx : Eg xs) (hy : Eg ys) (tx : Top xs) (ty : Top ys) (hne : xs.length ≠ ys.length) : cmpI (dw xs) (dw ys) = cmpI xs.length ys.length := by
  rcases Nat.lt_or_gt_of_ne hne with h1 | h1
  · have := len_lt32 ty hx h1
    rw [cmpI_lt (by omega), cmpI_lt (by omega)]
  · have := len_lt32 tx hy h1
    rw [cmpI_gt (by omega), cmpI_gt (by omega)]
theorem cmp_dv_eq {xs ys : List Nat} (h : SameFrom xs ys 0) : cmpI (dv xs) (dv ys) = 0 := cmpI_eq (by rw [dv_ext fun j => h j (Nat.zero_le _)])
def LessR (xs ys : List Nat) (m : Nat) (i : Value) : Prop := ∃ k : Nat, i = .int .i64 ((k : Int) - 1) ∧ k ≤ m ∧ SameFrom xs ys k
set_option maxHeartbeats 1000000 in
set_option maxRecDepth 100000 in
theorem compare_any (v u : Value) (xs ys : List Nat) (w : World) (hv : Arr w .u32 v xs) (hu : Arr w .u32 u ys) (hx : Eg xs) (hy : Eg ys) (tx : Top xs) (ty : Top ys) (hxl : xs.length ≤ 1000000) :
    Calls Tryd.prog 40 #[v, u] w fun e w' => e = .returned (.int .i64 (cmpI (dw xs) (dw ys))) ∧ ∃ n, w' = w.drewN n := by
  obtain ⟨Av, cv, rfl⟩ := hv.slice
  obtain ⟨Au, cu, rfl⟩ := hu.slice
  obtain ⟨m, hm⟩ : ∃ m, m = xs.length := ⟨_, rfl⟩
  obtain ⟨n, hn⟩ : ∃ n, n = ys.length := ⟨_, rfl⟩
  rw [← hm] at hv hxl
  rw [← hn] at hu
  have HV := Lib.hid hv
  have HU := Lib.hid hu
  have HX := Lib.hid hx
  have HY := Lib.hid hy
  have HT := Lib.hid (And.intro tx ty)
  have HM := Lib.hid hm
  have HN := Lib.hid hn
  rw [← hm, ← hn]
  clear hv hu hx hy tx ty hm hn
  by_cases hmn : m = n
  · obtain rfl := hmn
    go_enter Tryd.func40, Tryd.ntmps40
    go_wp2_with fail
    go_loopw [5] (fun i wr => LessR xs ys m i ∧ ∃ n, wr = w.drewN n) (fun i _ => (intOf i + 1).toNat)
    case atStart => exact ⟨⟨m, rfl, Nat.le_refl _, SameFrom.start (by rw [← HM.out]; exact Nat.le_refl _) (by rw [← HN.out]; exact Nat.le_refl _)⟩, 0, rfl⟩
    case round =>
      obtain ⟨⟨k, hk, hkm, hs⟩, nd, hwr⟩ := hrel
      have HS := Lib.hid hs
      have HW := Lib.hid hwr
      clear hs hwr
      rcases k with _ | k
      · obtain rfl : u5 = .int .i64 (-1) := hk
        go_wp2_with fail
        go_ret
        exact ⟨ret_int (cmp_dw_eq HS.out).symm, nd, HW.out⟩
      · obtain rfl : u5 = .int .i64 (k : Int) := by rw [hk]; congr 1; omega
        clear hk
        have HVr := Lib.hid (show Arr wr .u32 (.slice Av m cv) xs by rw [HW.out]; exact HV.out.drewN nd)
        have HUr := Lib.hid (show Arr wr .u32 (.slice Au m cu) ys by rw [HW.out]; exact HU.out.drewN nd)
        obtain ⟨ad, rfl, _, hx1⟩ := HVr.out.get k (by rw [← HM.out]; omega)
        obtain ⟨bd, rfl, _, hx2⟩ := HUr.out.get k (by rw [← HN.out]; omega)
        by_cases hne : dat xs k = dat ys k
        · have hR : LessR xs ys m (.int .i64 ((k : Int) - 1)) := ⟨k, rfl, by omega, HS.out.succ hne⟩
          have HR := Lib.hid hR
          have hb : ((dat xs k : Int) != (dat ys k : Int)) = false := by simp [hne]
          clear hR hne
          go_wp2_with fail
          go_quiet (fail)
          go_wp2_with fail
          exact ⟨⟨HR.out, nd + nq, by rw [HW.out, World.drewN_drewN]⟩, by simp [intOf]⟩
        · have hb : ((dat xs k : Int) != (dat ys k : Int)) = true := by simp; omega
          have HC := Lib.hid (cmp_dw HX.out HY.out HS.out hne)
          clear hne
          go_wp2_with fail
          go_quiet (fail)
          obtain ⟨W, hW⟩ : ∃ W, W = wr.drewN nq := ⟨_, rfl⟩
          have hx1' : W.cell? (ad.add k) = some (.int .u32 (dat xs k : Int)) := by rw [hW]; exact hx1
          have hx2' : W.cell? (bd.add k) = some (.int .u32 (dat ys k : Int)) := by rw [hW]; exact hx2
          rw [← hW]
          have HW2 := Lib.hid (show ∃ n1, W = wr.drewN n1 from ⟨nq, hW⟩)
          clear hW hx1 hx2 HVr HUr
          go_wp2_with fail
          go_quiet ((go_at_call 63; exact Calls.quiet_of_same (cmpu32_q (dat xs k) (dat ys k) _)))
          go_wp2_with fail
          go_ret
          obtain ⟨n1, hn1⟩ := HW2.out
          exact ⟨ret_int HC.out.symm, nd + (n1 + nq), by rw [hn1, HW.out, World.drewN_drewN, World.drewN_drewN]⟩
  · have hb : ((m : Int) != (n : Int)) = true := by simp; omega
    have HC := Lib.hid (cmp_dw_len HX.out HY.out HT.out.1 HT.out.2 (by rw [← HM.out, ← HN.out]; exact hmn))
    rw [← HM.out, ← HN.out] at HC
    go_enter Tryd.func40, Tryd.ntmps40
    go_wp2_with (go_at_call 48; (with_reducible refine (cmpint_any (m : Int) (n : Int) _).mono ?_); rintro e w' ⟨rfl, rfl⟩)
    go_ret
    exact ⟨ret_int HC.out.symm, 0, rfl⟩
theorem cmp_dv {xs ys : List Nat} {k : Nat} (hx : Dg xs) (hy : Dg ys) (h : SameFrom xs ys (k + 1)) (hne : dat xs k ≠ dat ys k) : cmpI (dv xs) (dv ys) = cmpI (dat xs k) (dat ys k) := by
  rcases Nat.lt_or_gt_of_ne hne with h1 | h1
  · have := less_of hx h1 fun j hj => h j hj
    rw [cmpI_lt (by omega), cmpI_lt (by omega)]
  · have := less_of hy h1 fun j hj => (h j hj).symm
    rw [cmpI_gt (by omega), cmpI_gt (by omega)]
theorem cmp_dv_len {xs ys : List Nat} (hx : Dg xs) (hy : Dg ys) (tx : Top xs) (ty : Top ys) (hne : xs.length ≠ ys.length) : cmpI (dv xs) (dv ys) = cmpI xs.length ys.length := by
  rcases Nat.lt_or_gt_of_ne hne with h1 | h1
  · have := len_lt16 ty hx h1
    rw [cmpI_lt (by omega), cmpI_lt (by omega)]
  · have := len_lt16 tx hy h1
    rw [cmpI_gt (by omega), cmpI_gt (by omega)]
set_option maxHeartbeats 2000000 in
set_option maxRecDepth 100000 in
theorem less_any (v u : Value) (xs ys : List Nat) (w : World) (hv : Arr w .u64 v xs) (hu : Arr w .u64 u ys) (hx : Dg xs) (hy : Dg ys) (tx : Top xs) (ty : Top ys) (hxl : xs.length ≤ 1000000) :
    Calls Tryd.prog 44 #[v, u] w fun e w' => e = .returned (.int .i64 (cmpI (dv xs) (dv ys))) ∧ ∃ n, w' = w.drewN n := by
  obtain ⟨Av, cv, rfl⟩ := hv.slice
  obtain ⟨Au, cu, rfl⟩ := hu.slice
  obtain ⟨m, hm⟩ : ∃ m, m = xs.length := ⟨_, rfl⟩
  obtain ⟨n, hn⟩ : ∃ n, n = ys.length := ⟨_, rfl⟩
  rw [← hm] at hv hxl
  rw [← hn] at hu
  have HV := Lib.hid hv
  have HU := Lib.hid hu
  have HX := Lib.hid hx
  have HY := Lib.hid hy
  have HT := Lib.hid (And.intro tx ty)
  have HM := Lib.hid hm
  have HN := Lib.hid hn
  rw [← hm, ← hn]
  clear hv hu hx hy tx ty hm hn
  by_cases hmn : m = n
  · obtain rfl := hmn
    go_enter Tryd.func44, Tryd.ntmps44
    go_wp2_with fail
    go_loopw [5] (fun i wr => LessR xs ys m i ∧ ∃ n, wr = w.drewN n) (fun i _ => (intOf i + 1).toNat)
    case atStart => exact ⟨⟨m, rfl, Nat.le_refl _, SameFrom.start (by rw [← HM.out]; exact Nat.le_refl _) (by rw [← HN.out]; exact Nat.le_refl _)⟩, 0, rfl⟩
    case round =>
      obtain ⟨⟨k, hk, hkm, hs⟩, nd, hwr⟩ := hrel
      have HS := Lib.hid hs
      have HW := Lib.hid hwr
      clear hs hwr
      rcases k with _ | k
      · obtain rfl : u5 = .int .i64 (-1) := hk
        go_wp2_with fail
        go_ret
        exact ⟨ret_int (cmp_dv_eq HS.out).symm, nd, HW.out⟩
      · obtain rfl : u5 = .int .i64 (k : Int) := by rw [hk]; congr 1; omega
        clear hk
        have HVr := Lib.hid (show Arr wr .u64 (.slice Av m cv) xs by rw [HW.out]; exact HV.out.drewN nd)
        have HUr := Lib.hid (show Arr wr .u64 (.slice Au m cu) ys by rw [HW.out]; exact HU.out.drewN nd)
        obtain ⟨ad, rfl, _, hx1⟩ := HVr.out.get k (by rw [← HM.out]; omega)
        obtain ⟨bd, rfl, _, hx2⟩ := HUr.out.get k (by rw [← HN.out]; omega)
        rcases Nat.lt_trichotomy (dat xs k) (dat ys k) with hlt | heq | hgt
        · have HC := Lib.hid ((cmp_dv HX.out HY.out HS.out (by omega)).trans (cmpI_lt (by omega)))
          go_wp2_with fail
          go_quiet (fail)
          go_wp2_with fail
          go_ret
          exact ⟨ret_int HC.out.symm, nd + nq, by rw [HW.out, World.drewN_drewN]⟩
        · have hR : LessR xs ys m (.int .i64 ((k : Int) - 1)) := ⟨k, rfl, by omega, HS.out.succ heq⟩
          have HR := Lib.hid hR
          have h1 : ¬ dat xs k < dat ys k := by omega
          have h2 : ¬ dat ys k < dat xs k := by omega
          clear hR heq
          go_wp2_with fail
          go_quiet (fail)
          obtain ⟨W, hW⟩ : ∃ W, W = wr.drewN nq := ⟨_, rfl⟩
          have hx1' : W.cell? (ad.add k) = some (.int .u64 (dat xs k : Int)) := by rw [hW]; exact hx1
          have hx2' : W.cell? (bd.add k) = some (.int .u64 (dat ys k : Int)) := by rw [hW]; exact hx2
          rw [← hW]
          have HW2 := Lib.hid (show ∃ n1, W = wr.drewN n1 from ⟨nq, hW⟩)
          clear hW hx1 hx2 HVr HUr
          go_wp2_with fail
          go_quiet (fail)
          go_wp2_with fail
          obtain ⟨n1, hn1⟩ := HW2.out
          exact ⟨⟨HR.out, nd + (n1 + nq), by rw [hn1, HW.out, World.drewN_drewN, World.drewN_drewN]⟩, by simp [intOf]⟩
        · have HC := Lib.hid ((cmp_dv HX.out HY.out HS.out (by omega)).trans (cmpI_gt (by omega)))
          have h1 : ¬ dat xs k < dat ys k := by omega
          go_wp2_with fail
          go_quiet (fail)
          obtain ⟨W, hW⟩ : ∃ W, W = wr.drewN nq := ⟨_, rfl⟩
          have hx1' : W.cell? (ad.add k) = some (.int .u64 (dat xs k : Int)) := by rw [hW]; exact hx1
          have hx2' : W.cell? (bd.add k) = some (.int .u64 (dat ys k : Int)) := by rw [hW]; exact hx2
          rw [← hW]
          have HW2 := Lib.hid (show ∃ n1, W = wr.drewN n1 from ⟨nq, hW⟩)
          clear hW hx1 hx2 HVr HUr
          go_wp2_with fail
          go_quiet (fail)
          go_wp2_with fail
          go_ret
          obtain ⟨n1, hn1⟩ := HW2.out
          exact ⟨ret_int HC.out.symm, nd + (n1 + nq), by rw [hn1, HW.out, World.drewN_drewN, World.drewN_drewN]⟩
  · have HC := Lib.hid (cmp_dv_len HX.out HY.out HT.out.1 HT.out.2 (by rw [← HM.out, ← HN.out]; exact hmn))
    rw [← HM.out, ← HN.out] at HC
    have hb : ((m : Int) != (n : Int)) = true := by simp; omega
    rcases Nat.lt_or_gt_of_ne hmn with hlt | hgt
    · have HC2 := Lib.hid (HC.out.trans (cmpI_lt (by omega)))
      go_enter Tryd.func44, Tryd.ntmps44
      go_wp2_with fail
      go_ret
      exact ⟨ret_int HC2.out.symm, 0, rfl⟩
    · have HC2 := Lib.hid (HC.out.trans (cmpI_gt (by omega)))
      have h1 : ¬ m < n := by omega
      go_enter Tryd.func44, Tryd.ntmps44
      go_wp2_with fail
      go_ret
      exact ⟨ret_int HC2.out.symm, 0, rfl⟩
end Go.Proofs.YthmpkejdficmgaaDoor
