/- Proved here: what package big's minus and compare, and the reference package's less, answer and leave in memory. Condition: lists of digits that lie in memory. -/
import Derived.Test.YthmpkejdficmgaaDoorNd
import Derived.Test.YthmpkejdficmgaaDoorSh
import Derived.Deep.RegionHeld3
import Derived.ChangeAlike
import Derived.RegionTactic
import Derived.StillTailTactics
namespace Go.Proofs.YthmpkejdficmgaaDoor
open Go.RowKit

structure MinW (w wr : World) (xs ys os : List Nat) (L k q : Nat) : Prop where
  db : DB .u32 61 wr w.heap.size os
  eg : Eg os
  len : os.length = L
  zero : ∀ j, k ≤ j → dat os j = 0
  val : dw os + dw (ys.take k) = dw (xs.take k) + q * 4294967296 ^ k
  ql : q ≤ 1
  bel : Below w.heap.size w wr
theorem MinW.start (w : World) (xs ys : List Nat) (L : Nat) : MinW w (w.alloc (.cells (cs .u32 (List.replicate L 0)).toArray 61)) xs ys (List.replicate L 0) L 0 0 :=
  ⟨DB.new _ _ w _, eg_zeros L, by simp, fun j _ => dw_zeros_ L j, by rw [dw_zeros]; simp [dw], by omega, bel_a w _⟩
theorem MinW.step {w wr W : World} {xs ys os : List Nat} {L k q : Nat} (h : MinW w wr xs ys os L k q) (hW : Below wr.heap.size wr W) (hx : Eg xs) (hy : Eg ys) (hk : k < L) :
    MinW w (W.setCell ⟨w.heap.size, k, none⟩ (.int .u32 (dLo (dat xs k) (dat ys k) q : Int))) xs ys (os.set k (dLo (dat xs k) (dat ys k) q)) L (k + 1) (dBo (dat xs k) (dat ys k) q) := by
  have hX : dat xs k < 4294967296 := hx k
  have hY : dat ys k < 4294967296 := hy k
  have hq := h.ql
  refine ⟨(h.db.bel hW).set_ k _, eg_set h.eg k (eg_dLo _ _ _), by simp [h.len], zero_set h.zero, ?_, by unfold dBo; split <;> omega, bel_set (bel_tr h.bel hW) (Nat.le_refl _) _ _⟩
  rw [set_zero_val (by rw [h.len]; exact hk) h.zero, dw_take_succ, dw_take_succ, Nat.pow_succ]
  have hv := h.val
  change _ + (_ + 4294967296 ^ k * dat ys k) = _ + 4294967296 ^ k * dat xs k + _
  have hd : dLo (dat xs k) (dat ys k) q + dat ys k + q = dat xs k + dBo (dat xs k) (dat ys k) q * 4294967296 := by
    unfold dLo dBo
    split <;> omega
  generalize dLo (dat xs k) (dat ys k) q = a at *
  generalize dBo (dat xs k) (dat ys k) q = b at *
  generalize dat xs k = x at *
  generalize dat ys k = y at *
  generalize 4294967296 ^ k = P at *
  grind
theorem MinW.drew {w wr : World} {xs ys os : List Nat} {L k q : Nat} (h : MinW w wr xs ys os L k q) : MinW w wr.drew xs ys os L k q :=
  ⟨h.db, h.eg, h.len, h.zero, h.val, h.ql, h.bel.drew⟩
theorem MinW.fin {w wr : World} {xs ys os : List Nat} {L q : Nat} (h : MinW w wr xs ys os L L q) (hx : Eg xs) (hy : Eg ys) (hL : L = xs.length) (hl : L ≤ 1000000) (hle : dw ys ≤ dw xs) :
    DwE (dw xs - dw ys) L w (.returned (.slice (some ⟨w.heap.size, 0, none⟩) L L)) wr := by
  have hv := h.val
  have ha := h.db.arr (by rw [h.len]; exact hl)
  rw [h.len] at ha
  subst hL
  exact ⟨_, os, rfl, ha, h.eg, minusw_end h.eg hx hy h.len h.ql hle hv, Nat.le_of_eq h.len, h.bel⟩
def MinH (w wr : World) (xs ys : List Nat) (L k q : Nat) : Prop := ∃ os, MinW w wr xs ys os L k q
theorem sub32_q (x y c : Nat) (w : World) (hx : x < 4294967296) (hy : y < 4294967296) (hc : c ≤ 1) :
    Calls Tryd.prog 64 #[.int .u32 (x : Int), .int .u32 (y : Int), .int .u32 (c : Int)] w fun e w' => e = .returned (.tuple #[.int .u32 (dLo x y c : Int), .int .u32 (dBo x y c : Int)]) ∧ w' = w :=
  (sub32_any x y c w hx hy hc).mono fun _ _ h => ⟨h.1, h.2.symm⟩
set_option maxHeartbeats 2000000 in
set_option maxRecDepth 100000 in
theorem minus32_any (v u : Value) (xs ys : List Nat) (w : World) (hv : Arr w .u32 v xs) (hu : Arr w .u32 u ys) (hx : Eg xs) (hy : Eg ys) (hxl : xs.length ≤ 100000) (hle : dw ys ≤ dw xs) :
    Calls Tryd.prog 41 #[v, u] w (DwE (dw xs - dw ys) xs.length w) := by
  obtain ⟨Av, cv, rfl⟩ := hv.slice
  obtain ⟨Au, cu, rfl⟩ := hu.slice
  obtain ⟨m, hm⟩ : ∃ m, m = xs.length := ⟨_, rfl⟩
  obtain ⟨n, hn⟩ : ∃ n, n = ys.length := ⟨_, rfl⟩
  rw [← hm] at hv hxl
  rw [← hn] at hu
  have HV := Lib.hid hv
  have HU := Lib.hid hu
  have HX := Lib.hid hx
  have HY := Lib.hid hy
  have HLE := Lib.hid hle
  have HS := Lib.hid (MinW.start w xs ys m)
  have HM := Lib.hid hm
  rw [← hm, ← hn]
  clear hm hn hv hu hx hy hle
  have hmk := fun w => mk32 m (by omega) w (m : Int) rfl
  go_enter Tryd.func41, Tryd.ntmps41
  go_wp2_with fail
  go_loopw [6, 13] (fun c i wr => ∃ k q : Nat, i = .int .i64 (k : Int) ∧ c = .int .u32 (q : Int) ∧ k ≤ m ∧ MinH w wr xs ys m k q) (fun _ i _ => m - (intOf i).toNat)
  case atStart => exact ⟨0, 0, rfl, rfl, Nat.zero_le _, _, HS.out⟩
  case round =>
    obtain ⟨k, q, rfl, rfl, hk, os, hr⟩ := hrel
    by_cases hgo : k < m
    · have HVr := Lib.hid (HV.out.bel hr.bel)
      have HUr := Lib.hid (HU.out.bel hr.bel)
      have hql := hr.ql
      have hXk : dat xs k < 4294967296 := HX.out k
      have hYk : dat ys k < 4294967296 := HY.out k
      have hfr := hr.db.fr k
      have hcell := hr.db.cell k (by rw [hr.len]; exact hgo)
      obtain ⟨ad, rfl, _, hx1⟩ := HVr.out.get k (by rw [← HM.out]; exact hgo)
      have HR := Lib.hid hr
      clear hr
      go_wp2_with fail
      go_region_with (first
        | (go_at_call 49; (with_reducible refine (at32_any (.slice Au n cu) ys k _ HUr.out.drew).mono ?_); rintro e w1 ⟨rfl, rfl⟩)
        | (go_at_call 64; (with_reducible refine (sub32_any (dat xs k) (dat ys k) q _ hXk hYk hql).mono ?_); rintro e w1 ⟨rfl, rfl⟩))
      all_goals
        go_wp2_with fail
        exact ⟨⟨k + 1, _, by simp, rfl, by omega, _, (HR.out.step (Below.refl _ _) HX.out HY.out hgo).drew⟩, by simp [intOf]; omega⟩
    · obtain rfl : k = m := by omega
      have HF := Lib.hid (hr.fin HX.out HY.out HM.out (by omega) HLE.out)
      clear hr
      go_wp2_with fail
      go_ret
      exact HF.out
/-- -1, 0, 1: the first number is less, the same, greater. -/
def cmpI (a b : Int) : Int := if a < b then -1 else if b < a then 1 else 0
theorem cmpI_lt {a b : Int} (h : a < b) : cmpI a b = -1 := by simp [cmpI, h]
theorem cmpI_gt {a b : Int} (h : b < a) : cmpI a b = 1 := by
  have : ¬ a < b := by omega
  simp [cmpI, h, this]
theorem cmpI_eq {a b : Int} (h : a = b) : cmpI a b = 0 := by simp [cmpI, h]
theorem compareInt_eq (a b : Int) : Lib.compareInt a b = cmpI a b := by
  unfold Lib.compareInt cmpI
  rfl
end Go.Proofs.YthmpkejdficmgaaDoor
