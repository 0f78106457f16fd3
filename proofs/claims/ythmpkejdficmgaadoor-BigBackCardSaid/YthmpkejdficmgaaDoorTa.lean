/- Proved here: what the reference package's tenth answers: a list of digits divided by ten, and what is left over. Condition: a list of digits that lies in memory. -/
import Derived.Test.YthmpkejdficmgaaDoorQf
namespace Go.Proofs.YthmpkejdficmgaaDoor
open Go.RowKit

/-- What holds at each round's head of tenth: digits from k on have been divided. -/
structure TenW (w wr : World) (xs os : List Nat) (k r : Nat) : Prop where
  db : DB .u64 60 wr w.heap.size os
  dg : Dg os
  len : os.length = xs.length
  zero : ∀ j, j < k → dat os j = 0
  val : ∃ Q, dv os = Q * 65536 ^ k ∧ dv (xs.drop k) = Q * 10 + r
  rl : r < 10
  bel : Below w.heap.size w wr
theorem TenW.start (w : World) (xs : List Nat) (L : Nat) (hL : L = xs.length) : TenW w (w.alloc (.cells (cs .u64 (List.replicate L 0)).toArray 60)) xs (List.replicate L 0) L 0 :=
  ⟨DB.new _ _ w _, dg_zeros L, by simp [hL], fun j _ => dw_zeros_ L j, ⟨0, by rw [dv_zeros]; simp, by rw [hL]; simp [dv]⟩, by decide, bel_a w _⟩
theorem dv_drop (xs : List Nat) (k : Nat) : dv (xs.drop k) = dat xs k + 65536 * dv (xs.drop (k + 1)) := by
  rcases Nat.lt_or_ge k xs.length with h | h
  · rw [List.drop_eq_getElem_cons h, dv]
    simp [dat, h]
  · rw [dat_beyond h, List.drop_eq_nil_of_le h, List.drop_eq_nil_of_le (by omega)]
    simp [dv]
theorem TenW.step {w wr W : World} {xs os : List Nat} {k r q r' : Nat} (h : TenW w wr xs os (k + 1) r) (hW : Below wr.heap.size wr W) (hx : Dg xs) (hk : k < xs.length)
    (hq : q = (r * 65536 + dat xs k) / 10) (hr : r' = (r * 65536 + dat xs k) % 10) :
    TenW w (W.setCell ⟨w.heap.size, k, none⟩ (.int .u64 (q : Int))) xs (os.set k q) k r' := by
  have hX : dat xs k < 65536 := hx k
  have hrl := h.rl
  have hql : q < 65536 := by omega
  obtain ⟨Q, hQ1, hQ2⟩ := h.val
  have h0 : dat os k = 0 := h.zero k (by omega)
  refine ⟨(h.db.bel hW).set_ k q, dg_set h.dg k hql, by simp [h.len], fun j hj => ?_, ⟨Q * 65536 + q, ?_, ?_⟩, by rw [hr]; exact Nat.mod_lt _ (by decide), bel_set (bel_tr h.bel hW) (Nat.le_refl _) _ _⟩
  · have := h.zero j (by omega)
    simp only [dat, List.getD_eq_getElem?_getD] at this ⊢
    rw [List.getElem?_set_ne (by omega)]
    exact this
  · have h1 := dv_set (l := os) q (show k < os.length by rw [h.len]; exact hk)
    have h2 : os.getD k 0 = 0 := h0
    rw [h2, hQ1, Nat.pow_succ] at h1
    generalize 65536 ^ k = P at *
    grind
  · rw [dv_drop, hQ2]
    have h3 := Nat.div_add_mod (r * 65536 + dat xs k) 10
    rw [← hq, ← hr] at h3
    omega
theorem TenW.fin {w wr : World} {xs os : List Nat} {r : Nat} (h : TenW w wr xs os 0 r) (hl : xs.length ≤ 1000000) : Arr wr .u64 (.slice (some ⟨w.heap.size, 0, none⟩) xs.length xs.length) os ∧ Dg os ∧ dv os = dv xs / 10 ∧ r = dv xs % 10 ∧ os.length = xs.length := by
  obtain ⟨Q, hQ1, hQ2⟩ := h.val
  have ha := h.db.arr (by rw [h.len]; exact hl)
  rw [h.len] at ha
  have hrl := h.rl
  simp only [List.drop_zero, Nat.pow_zero, Nat.mul_one] at hQ1 hQ2
  exact ⟨ha, h.dg, by omega, by omega, h.len⟩
/-- What tenth answers. -/
def TenE (x : Nat) (w : World) (e : Ending) (w' : World) : Prop := ∃ (A : Option Addr) (n c r : Nat) (zs : List Nat), e = .returned (.tuple #[.slice A n c, .int .u64 (r : Int)]) ∧ r = x % 10 ∧ Arr w' .u64 (.slice A n c) zs ∧ Dg zs ∧ Top zs ∧ dv zs = x / 10 ∧ Below w.heap.size w w'
def TenH (w wr : World) (xs : List Nat) (k r : Nat) : Prop := ∃ os, TenW w wr xs os k r
set_option maxHeartbeats 2000000 in
set_option maxRecDepth 100000 in
theorem tenth_any (v : Value) (xs : List Nat) (w : World) (hv : Arr w .u64 v xs) (hx : Dg xs) (hxl : xs.length ≤ 100000) :
    Calls Tryd.prog 60 #[v] w (TenE (dv xs) w) := by
  obtain ⟨Av, cv, rfl⟩ := hv.slice
  obtain ⟨m, hm⟩ : ∃ m, m = xs.length := ⟨_, rfl⟩
  rw [← hm] at hv hxl
  have HV := Lib.hid hv
  have HX := Lib.hid hx
  have HS := Lib.hid (TenW.start w xs m hm)
  have hmk := fun w => mk16 m (by omega) w (m : Int) rfl
  have HM := Lib.hid hm
  rw [← hm]
  clear hm hv hx
  go_enter Tryd.func60, Tryd.ntmps60
  go_wp2_with fail
  go_loopw [5, 6] (fun r i wr => ∃ k rn : Nat, i = .int .i64 ((k : Int) - 1) ∧ r = .int .u64 (rn : Int) ∧ k ≤ m ∧ TenH w wr xs k rn) (fun _ i _ => (intOf i + 1).toNat)
  case atStart => exact ⟨m, 0, rfl, rfl, Nat.le_refl _, _, HS.out⟩
  case round =>
    obtain ⟨k, rn, hk, rfl, hkm, os, hr⟩ := hrel
    rcases k with _ | k
    · obtain rfl : u6 = .int .i64 (-1) := hk
      have hf := hr.fin (by rw [← HM.out]; omega)
      rw [← HM.out] at hf
      have HF := Lib.hid hf
      have HB := Lib.hid hr.bel
      clear hf hr
      go_wp2_with (go_at_call 61; (with_reducible refine (trim16_w _ _ _ os _ HF.out.1).mono ?_); rintro e w1 ⟨rfl, rfl⟩)
      go_ret2
      obtain ⟨f1, f2, f3, f4, f5⟩ := HF.out
      exact ⟨some ⟨w.heap.size, 0, none⟩, tl os, m, rn, tr os, rfl, f4, f1.tr, tr_dg f2, tr_top os, by rw [tr_dv, f3], HB.out⟩
    · obtain rfl : u6 = .int .i64 (k : Int) := by rw [hk]; congr 1; omega
      clear hk
      have HVr := Lib.hid (HV.out.bel hr.bel)
      obtain ⟨ad, rfl, _, hca⟩ := HVr.out.get k (by rw [← HM.out]; omega)
      have hX : dat xs k < 65536 := HX.out k
      have hcell := hr.db.cell k (by rw [hr.len, ← HM.out]; omega)
      have hfr := hr.db.fr k
      have HR := Lib.hid hr
      have hrl : rn < 10 := hr.rl
      clear hr
      obtain ⟨S, hS⟩ : ∃ S, S = rn * 65536 + dat xs k := ⟨_, rfl⟩
      obtain ⟨Q, hQ⟩ : ∃ Q, Q = S / 10 := ⟨_, rfl⟩
      obtain ⟨R, hR⟩ : ∃ R, R = S % 10 := ⟨_, rfl⟩
      have F0 : (rn : Int) * 65536 + (dat xs k : Int) = (S : Int) := by omega
      have F1 : (S : Int) / 10 = (Q : Int) := by omega
      have F2 : (S : Int) % 10 = (R : Int) := by omega
      have HQ := Lib.hid (HR.out.step (Below.refl _ _) HX.out (by rw [← HM.out]; omega) (hS ▸ hQ) (hS ▸ hR))
      have hSl : S < 18446744073709551616 := by omega
      clear hQ hR hS
      go_wp2_with fail
      exact ⟨⟨k, R, rfl, by first | rfl | rw [F2], by omega, _, HQ.out⟩, by simp [intOf]⟩
end Go.Proofs.YthmpkejdficmgaaDoor
