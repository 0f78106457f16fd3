/- Proved here: what package big's divide answers and leaves in memory. Condition: a list of digits that lies in memory, a divisor of 64 bits that isn't 0. -/
import Derived.Test.YthmpkejdficmgaaDoorNj
namespace Go.Proofs.YthmpkejdficmgaaDoor
open Go.RowKit

/-- What holds at each round's head of divide: digits from k on have been divided. -/
structure DivW (w wr : World) (xs os : List Nat) (y k r : Nat) : Prop where
  db : DB .u32 61 wr w.heap.size os
  eg : Eg os
  len : os.length = xs.length
  zero : ∀ j, j < k → dat os j = 0
  val : ∃ Q, dw os = Q * 4294967296 ^ k ∧ dw (xs.drop k) = Q * y + r
  rl : r < y
  bel : Below w.heap.size w wr
theorem DivW.start (w : World) (xs : List Nat) (y L : Nat) (hy : 0 < y) (hL : L = xs.length) : DivW w (w.alloc (.cells (cs .u32 (List.replicate L 0)).toArray 61)) xs (List.replicate L 0) y L 0 :=
  ⟨DB.new _ _ w _, eg_zeros L, by simp [hL], fun j _ => dw_zeros_ L j, ⟨0, by rw [dw_zeros]; simp, by rw [hL]; simp [dw]⟩, hy, bel_a w _⟩
theorem dw_drop (xs : List Nat) (k : Nat) : dw (xs.drop k) = dat xs k + 4294967296 * dw (xs.drop (k + 1)) := by
  rcases Nat.lt_or_ge k xs.length with h | h
  · rw [List.drop_eq_getElem_cons h, dw]
    simp [dat, h]
  · rw [dat_beyond h, List.drop_eq_nil_of_le h, List.drop_eq_nil_of_le (by omega)]
    simp [dw]
theorem DivW.step {w wr W : World} {xs os : List Nat} {y k r q r' : Nat} (h : DivW w wr xs os y (k + 1) r) (hW : Below wr.heap.size wr W) (hx : Eg xs) (hk : k < xs.length) (hy : 0 < y)
    (hq : q = (r * 4294967296 + dat xs k) / y) (hr : r' = (r * 4294967296 + dat xs k) % y) :
    q < 4294967296 ∧ DivW w (W.setCell ⟨w.heap.size, k, none⟩ (.int .u32 (q : Int))) xs (os.set k q) y k r' := by
  have hX : dat xs k < 4294967296 := hx k
  have hrl := h.rl
  have hql : q < 4294967296 := by
    rw [hq, Nat.div_lt_iff_lt_mul hy]
    omega
  obtain ⟨Q, hQ1, hQ2⟩ := h.val
  have h0 : dat os k = 0 := h.zero k (by omega)
  refine ⟨hql, (h.db.bel hW).set_ k q, eg_set h.eg k hql, by simp [h.len], fun j hj => ?_, ⟨Q * 4294967296 + q, ?_, ?_⟩, by rw [hr]; exact Nat.mod_lt _ hy, bel_set (bel_tr h.bel hW) (Nat.le_refl _) _ _⟩
  · have := h.zero j (by omega)
    simp only [dat, List.getD_eq_getElem?_getD] at this ⊢
    rw [List.getElem?_set_ne (by omega)]
    exact this
  · have h1 := dw_set (l := os) q (show k < os.length by rw [h.len]; exact hk)
    have h2 : os.getD k 0 = 0 := h0
    rw [h2, hQ1, Nat.pow_succ] at h1
    generalize 4294967296 ^ k = P at *
    grind
  · rw [dw_drop, hQ2]
    have h3 := Nat.div_add_mod (r * 4294967296 + dat xs k) y
    rw [← hq, ← hr] at h3
    grind
theorem DivW.fin {w wr : World} {xs os : List Nat} {y r : Nat} (h : DivW w wr xs os y 0 r) (hl : xs.length ≤ 1000000) : Arr wr .u32 (.slice (some ⟨w.heap.size, 0, none⟩) xs.length xs.length) os ∧ Eg os ∧ dw os = dw xs / y ∧ r = dw xs % y ∧ os.length = xs.length := by
  obtain ⟨Q, hQ1, hQ2⟩ := h.val
  have ha := h.db.arr (by rw [h.len]; exact hl)
  rw [h.len] at ha
  have hrl := h.rl
  simp only [List.drop_zero, Nat.pow_zero, Nat.mul_one] at hQ1 hQ2
  rw [hQ1, hQ2]
  have e1 : (Q * y + r) / y = Q := by
    rw [Nat.mul_comm, Nat.mul_add_div (by omega), Nat.div_eq_of_lt hrl, Nat.add_zero]
  have e2 : (Q * y + r) % y = r := by
    rw [Nat.mul_comm, Nat.mul_add_mod, Nat.mod_eq_of_lt hrl]
  exact ⟨ha, h.eg, e1.symm, e2.symm, h.len⟩
/-- What divide answers: how often, and what is left over. -/
def DivE (x y l : Nat) (w : World) (e : Ending) (w' : World) : Prop := ∃ A zs, e = .returned (.tuple #[.slice A zs.length zs.length, .int .u64 ((x % y : Nat) : Int)]) ∧ Arr w' .u32 (.slice A zs.length zs.length) zs ∧ Eg zs ∧ dw zs = x / y ∧ zs.length = l ∧ Below w.heap.size w w'
def DivH (w wr : World) (xs : List Nat) (y k r : Nat) : Prop := ∃ os, DivW w wr xs os y k r
set_option maxHeartbeats 2000000 in
set_option maxRecDepth 100000 in
theorem divide_any (v : Value) (xs : List Nat) (y : Nat) (w : World) (hv : Arr w .u32 v xs) (hx : Eg xs) (hxl : xs.length ≤ 100000) (hy : 0 < y) (hyl : y < 18446744073709551616) :
    Calls Tryd.prog 52 #[v, .int .u64 (y : Int)] w (DivE (dw xs) y xs.length w) := by
  obtain ⟨Av, cv, rfl⟩ := hv.slice
  obtain ⟨m, hm⟩ : ∃ m, m = xs.length := ⟨_, rfl⟩
  rw [← hm] at hv hxl
  have HV := Lib.hid hv
  have HX := Lib.hid hx
  have HYL := Lib.hid (And.intro hy hyl)
  have HS := Lib.hid (DivW.start w xs y m hy hm)
  have hmk := fun w => mk32 m (by omega) w (m : Int) rfl
  have HM := Lib.hid hm
  rw [← hm]
  clear hm hv hx hy hyl
  go_enter Tryd.func52, Tryd.ntmps52
  go_wp2_with fail
  go_loopw [7, 8] (fun r i wr => ∃ k rn : Nat, i = .int .i64 ((k : Int) - 1) ∧ r = .int .u64 (rn : Int) ∧ k ≤ m ∧ DivH w wr xs y k rn) (fun _ i _ => (intOf i + 1).toNat)
  case atStart => exact ⟨m, 0, rfl, rfl, Nat.le_refl _, _, HS.out⟩
  case round =>
    obtain ⟨k, rn, hk, rfl, hkm, os, hr⟩ := hrel
    rcases k with _ | k
    · obtain rfl : u8 = .int .i64 (-1) := hk
      have hf := hr.fin (by rw [← HM.out]; omega)
      rw [← HM.out] at hf
      have HF := Lib.hid hf
      have HB := Lib.hid hr.bel
      clear hf hr
      go_wp2_with fail
      go_ret2
      obtain ⟨f1, f2, f3, f4, f5⟩ := HF.out
      exact ⟨some ⟨w.heap.size, 0, none⟩, os, by rw [f4, f5]; rfl, by rw [f5]; exact f1, f2, f3, f5, HB.out⟩
    · obtain rfl : u8 = .int .i64 (k : Int) := by rw [hk]; congr 1; omega
      clear hk
      have HVr := Lib.hid (HV.out.bel hr.bel)
      obtain ⟨ad, rfl, _, hca⟩ := HVr.out.get k (by rw [← HM.out]; omega)
      have hX : dat xs k < 4294967296 := HX.out k
      have hcell := hr.db.cell k (by rw [hr.len, ← HM.out]; omega)
      have hfr := hr.db.fr k
      have HR := Lib.hid hr
      have hrl : rn < 18446744073709551616 := Nat.lt_trans hr.rl HYL.out.2
      clear hr
      obtain ⟨S, hS⟩ : ∃ S, S = rn * 4294967296 % 18446744073709551616 + dat xs k := ⟨_, rfl⟩
      have F1 : bits .or .u64 (IntKind.u64.wrap ((rn : Int) * 4294967296)) (dat xs k : Int) = (S : Int) := by
        have e1 : IntKind.u64.wrap ((rn : Int) * 4294967296) = ((rn * 4294967296 % 18446744073709551616 : Nat) : Int) := by rw [wrap_u64m]; simp
        have e2 : rn * 4294967296 % 18446744073709551616 = 2 ^ 32 * (rn % 4294967296) := by omega
        rw [e1, bits_or_u64_nat _ _ (by omega) (by omega), e2, ← Nat.two_pow_add_eq_or_of_lt (by omega : dat xs k < 2 ^ 32), ← e2, hS]
      have hSl : S < 18446744073709551616 := by omega
      have hdv : rn / 4294967296 * 18446744073709551616 + S = rn * 4294967296 + dat xs k := by omega
      have hlt : rn / 4294967296 < y := Nat.lt_of_le_of_lt (Nat.div_le_self _ _) HR.out.rl
      have hd := fun w => div64_any (rn / 4294967296) S y w hlt hSl HYL.out.2
      rw [hdv] at hd
      obtain ⟨hi, hhi⟩ : ∃ hi, hi = rn / 4294967296 := ⟨_, rfl⟩
      have F0 : (rn : Int) / 4294967296 = (hi : Int) := by rw [hhi]; simp
      obtain ⟨Q, hQ⟩ : ∃ Q, Q = (rn * 4294967296 + dat xs k) / y := ⟨_, rfl⟩
      obtain ⟨R, hR⟩ : ∃ R, R = (rn * 4294967296 + dat xs k) % y := ⟨_, rfl⟩
      have hQl := (HR.out.step (Below.refl _ _) HX.out (by rw [← HM.out]; omega) HYL.out.1 hQ hR).1
      rw [← hhi, ← hQ, ← hR] at hd
      have HD := Lib.hid (fun w => hd w)
      have HQ := Lib.hid (And.intro hQ hR)
      clear hS hSl hdv hlt hd hhi hQ hR
      go_wp2_with (go_at_call 66; (with_reducible refine (HD.out _).mono ?_); rintro e w' ⟨rfl, n1, rfl⟩)
      have hn := (HR.out.step (W := wr.drewN n1) (below_drewN (Below.refl _ _) _) HX.out (by rw [← HM.out]; omega) HYL.out.1 HQ.out.1 HQ.out.2).2
      exact ⟨⟨k, R, rfl, rfl, by omega, _, hn⟩, by simp [intOf]⟩
end Go.Proofs.YthmpkejdficmgaaDoor
