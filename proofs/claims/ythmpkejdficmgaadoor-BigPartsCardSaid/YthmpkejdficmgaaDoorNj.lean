/- Proved here: what package big's times answers and leaves in memory. Condition: lists of digits that lie in memory. -/
import Derived.Test.YthmpkejdficmgaaDoorNi
namespace Go.Proofs.YthmpkejdficmgaaDoor
open Go.RowKit

structure TimO (w wr : World) (xs ys os : List Nat) (i : Nat) : Prop where
  db : DB .u32 61 wr w.heap.size os
  eg : Eg os
  len : os.length = xs.length + ys.length
  zero : ∀ j, i + ys.length ≤ j → dat os j = 0
  val : dw os = dw (xs.take i) * dw ys
  bel : Below w.heap.size w wr
structure TimI (w wr : World) (xs ys os : List Nat) (i j q : Nat) : Prop where
  db : DB .u32 61 wr w.heap.size os
  eg : Eg os
  len : os.length = xs.length + ys.length
  zero : ∀ j, i + ys.length ≤ j → dat os j = 0
  val : dw os + q * 4294967296 ^ (i + j) = dw (xs.take i) * dw ys + xs.getD i 0 * 4294967296 ^ i * dw (ys.take j)
  ql : q < 4294967296
  bel : Below w.heap.size w wr
def TimOH (w wr : World) (xs ys : List Nat) (i : Nat) : Prop := ∃ os, TimO w wr xs ys os i
def TimIH (w wr : World) (xs ys : List Nat) (i j q : Nat) : Prop := ∃ os, TimI w wr xs ys os i j q
theorem TimOH.start (w : World) (xs ys : List Nat) (L : Nat) (hL : L = xs.length + ys.length) : TimOH w (w.alloc (.cells (cs .u32 (List.replicate L 0)).toArray 61)) xs ys 0 :=
  ⟨_, DB.new _ _ w _, eg_zeros L, by simp [hL], fun j _ => dw_zeros_ L j, by rw [dw_zeros]; simp [dw], bel_a w _⟩
theorem TimOH.inner {w wr : World} {xs ys : List Nat} {i : Nat} (h : TimOH w wr xs ys i) : TimIH w wr xs ys i 0 0 := by
  obtain ⟨os, h⟩ := h
  exact ⟨os, h.db, h.eg, h.len, h.zero, by rw [h.val]; simp [dw], by omega, h.bel⟩
theorem TimI.next {w wr : World} {xs ys os : List Nat} {i j q S : Nat} (h : TimI w wr xs ys os i j q) (hx : Eg xs) (hy : Eg ys) (hi : i < xs.length) (hj : j < ys.length) (hS : S = dat xs i * dat ys j + dat os (i + j) + q) :
    S < 18446744073709551616 ∧ TimIH w (wr.setCell ⟨w.heap.size, i + j, none⟩ (.int .u32 ((S % 4294967296 : Nat) : Int))) xs ys i (j + 1) (S / 4294967296) := by
  have hA : dat xs i < 4294967296 := hx i
  have hB : dat ys j < 4294967296 := hy j
  have hO : dat os (i + j) < 4294967296 := h.eg (i + j)
  have hP : dat xs i * dat ys j ≤ 4294967295 * 4294967295 := Nat.mul_le_mul (by omega) (by omega)
  have hq := h.ql
  have hSl : S < 18446744073709551616 := by omega
  have st := @timesw_step xs ys os i j q (by rw [h.len]; omega) h.val
  have eS : os.getD (i + j) 0 + xs.getD i 0 * ys.getD j 0 + q = S := by
    rw [hS]
    unfold dat
    omega
  rw [eS] at st
  refine ⟨hSl, _, DB.set_ h.db (i + j) _, eg_set h.eg _ (Nat.mod_lt _ (by decide)), by simp [h.len], fun l hl => ?_, st, by omega, bel_set h.bel (Nat.le_refl _) _ _⟩
  have := h.zero l hl
  simp only [dat, List.getD_eq_getElem?_getD] at this ⊢
  rw [List.getElem?_set_ne (by omega)]
  exact this
theorem TimIH.outer {w wr : World} {xs ys : List Nat} {i q : Nat} (h : TimIH w wr xs ys i ys.length q) (hi : i < xs.length) :
    TimOH w (wr.setCell ⟨w.heap.size, i + ys.length, none⟩ (.int .u32 (q : Int))) xs ys (i + 1) := by
  obtain ⟨os, h⟩ := h
  have hk : i + ys.length < os.length := by rw [h.len]; omega
  refine ⟨_, DB.set_ h.db (i + ys.length) q, eg_set h.eg _ h.ql, by simp [h.len], fun l hl => zero_set h.zero l (by omega), ?_, bel_set h.bel (Nat.le_refl _) _ _⟩
  rw [set_zero_val hk h.zero, dw_take_succ]
  have hv := h.val
  rw [dw_take_all (Nat.le_refl _)] at hv
  generalize 4294967296 ^ (i + ys.length) = P at *
  generalize 4294967296 ^ i = R at *
  generalize dw ys = B at *
  generalize xs.getD i 0 = a at *
  grind
theorem TimOH.fin {w wr : World} {xs ys : List Nat} (h : TimOH w wr xs ys xs.length) (hl : xs.length + ys.length ≤ 1000000) :
    DwE (dw xs * dw ys) (xs.length + ys.length) w (.returned (.slice (some ⟨w.heap.size, 0, none⟩) (xs.length + ys.length) (xs.length + ys.length))) wr := by
  obtain ⟨os, h⟩ := h
  have hv := h.val
  rw [dw_take_all (Nat.le_refl _)] at hv
  have ha := h.db.arr (by rw [h.len]; exact hl)
  rw [h.len] at ha
  exact ⟨_, os, rfl, ha, h.eg, hv, Nat.le_of_eq h.len, h.bel⟩
theorem wrap_nat {x : Int} {n : Nat} (h : x = (n : Int)) (hn : n < 18446744073709551616) : IntKind.u64.wrap x = (n : Int) := wrapN h hn
set_option maxHeartbeats 4000000 in
set_option maxRecDepth 100000 in
theorem times32_any (v u : Value) (xs ys : List Nat) (w : World) (hv : Arr w .u32 v xs) (hu : Arr w .u32 u ys) (hx : Eg xs) (hy : Eg ys) (hxl : xs.length ≤ 100000) (hyl : ys.length ≤ 100000) :
    Calls Tryd.prog 46 #[v, u] w (DwE (dw xs * dw ys) (xs.length + ys.length) w) := by
  obtain ⟨Av, cv, rfl⟩ := hv.slice
  obtain ⟨Au, cu, rfl⟩ := hu.slice
  obtain ⟨m, hm⟩ : ∃ m, m = xs.length := ⟨_, rfl⟩
  obtain ⟨n, hn⟩ : ∃ n, n = ys.length := ⟨_, rfl⟩
  rw [← hm] at hv hxl
  rw [← hn] at hu hyl
  have HV := Lib.hid hv
  have HU := Lib.hid hu
  have HX := Lib.hid hx
  have HY := Lib.hid hy
  obtain ⟨L, hL⟩ : ∃ L, L = m + n := ⟨_, rfl⟩
  have HS := Lib.hid (TimOH.start w xs ys L (by omega))
  have hmk := fun w => mk32 L (by omega) w ((m : Int) + (n : Int)) (by omega)
  have hLl : L ≤ 200000 := by omega
  have HL := Lib.hid hL
  have HM := Lib.hid hm
  have HN := Lib.hid hn
  rw [← hm, ← hn]
  clear hm hn hv hu hx hy hL
  go_enter Tryd.func46, Tryd.ntmps46
  go_wp2_with fail
  go_loopw [20] (fun i wr => ∃ k : Nat, i = .int .i64 (k : Int) ∧ k ≤ m ∧ TimOH w wr xs ys k) (fun i _ => m - (intOf i).toNat)
  case atStart => exact ⟨0, rfl, Nat.zero_le _, HS.out⟩
  case round =>
    obtain ⟨i, rfl, hi, hr⟩ := hrel
    by_cases hgo : i < m
    · have HI := Lib.hid hr.inner
      have hbel : Below w.heap.size w wr := by obtain ⟨os, h⟩ := hr; exact h.bel
      have HVr := Lib.hid (HV.out.bel hbel)
      obtain ⟨ad, rfl, _, hca⟩ := HVr.out.get i (by rw [← HM.out]; exact hgo)
      have hA : dat xs i < 4294967296 := HX.out i
      obtain ⟨wo, rfl⟩ : ∃ wo : World, wo = wr := ⟨_, rfl⟩
      clear hr hbel
      go_wp2_with fail
      go_loopw [8, 27] (fun c k wr => ∃ q j : Nat, c = .int .u64 (q : Int) ∧ k = .int .i64 (j : Int) ∧ j ≤ n ∧ TimIH w wr xs ys i j q) (fun _ k _ => n - (intOf k).toNat)
      case atStart => exact ⟨0, 0, rfl, rfl, Nat.zero_le _, HI.out⟩
      case round =>
        obtain ⟨q, j, rfl, rfl, hj, hr2⟩ := hrel
        by_cases hg2 : j < n
        · obtain ⟨os, hr3⟩ := hr2
          have HUr := Lib.hid (HU.out.bel hr3.bel)
          obtain ⟨bd, rfl, _, hcb⟩ := HUr.out.get j (by rw [← HN.out]; exact hg2)
          have hcell := hr3.db.cell (i + j) (by rw [hr3.len, ← HM.out, ← HN.out]; omega)
          have hfr := hr3.db.fr (i + j)
          have hB : dat ys j < 4294967296 := HY.out j
          have hO : dat os (i + j) < 4294967296 := hr3.eg (i + j)
          obtain ⟨S, hS⟩ : ∃ S, S = dat xs i * dat ys j + dat os (i + j) + q := ⟨_, rfl⟩
          have hnx := hr3.next HX.out HY.out (by rw [← HM.out]; exact hgo) (by rw [← HN.out]; exact hg2) hS
          obtain ⟨P, hP⟩ : ∃ P, P = dat xs i * dat ys j := ⟨_, rfl⟩
          obtain ⟨R, hR⟩ : ∃ R, R = P + dat os (i + j) := ⟨_, rfl⟩
          have F1 : IntKind.u64.wrap ((dat xs i : Int) * (dat ys j : Int)) = (P : Int) := wrap_nat (by rw [hP]; simp) (by omega)
          have F2 : IntKind.u64.wrap ((P : Int) + (dat os (i + j) : Int)) = (R : Int) := wrap_nat (by omega) (by omega)
          have F3 : IntKind.u64.wrap ((R : Int) + (q : Int)) = (S : Int) := wrap_nat (by omega) (by omega)
          have hn2 := hnx.2
          rw [show ((S % 4294967296 : Nat) : Int) = (S : Int) % 4294967296 by simp] at hn2
          have hij : i + j < L := by have := HL.out; omega
          have HNX := Lib.hid hn2
          clear hnx hr3 hS hP hR hn2
          go_wp2_with fail
          exact ⟨⟨S / 4294967296, j + 1, by simp, by simp, by omega, HNX.out⟩, by simp [intOf]; omega⟩
        · obtain rfl : j = n := by omega
          have hq : q < 4294967296 := by obtain ⟨os, h⟩ := hr2; exact h.ql
          have hcf : (∃ d, wr.cell? ⟨w.heap.size, i + j, none⟩ = some d) ∧ wr.frozen? ⟨w.heap.size, i + j, none⟩ = false := by
            obtain ⟨os, h⟩ := hr2
            exact ⟨⟨_, h.db.cell (i + j) (by rw [h.len, ← HM.out, ← HN.out]; omega)⟩, h.db.fr _⟩
          obtain ⟨⟨d, hcell⟩, hfr⟩ := hcf
          rw [HN.out] at hr2
          have ho := TimIH.outer hr2 (by rw [← HM.out]; exact hgo)
          rw [← HN.out] at ho
          have hij : i + j < L := by have := HL.out; omega
          have HO := Lib.hid ho
          clear ho hr2
          go_wp2_with fail
          exact ⟨⟨i + 1, by simp, by omega, HO.out⟩, by simp [intOf]; omega⟩
    · obtain rfl : i = m := by omega
      rw [HM.out] at hr
      have hf := hr.fin (by rw [← HM.out, ← HN.out]; omega)
      rw [← HM.out, ← HN.out, ← HL.out] at hf
      have HF := Lib.hid hf
      clear hf hr
      go_wp2_with fail
      go_ret
      obtain ⟨z, zs, e1, e2, e3, e4, e5, e6⟩ := HF.out
      exact ⟨z, zs, e1, e2, e3, e4, by rw [← HL.out]; exact e5, e6⟩
end Go.Proofs.YthmpkejdficmgaaDoor
