/- Proved here: what package big's Shift answers and leaves in memory. Condition: numbers in any form, of at most 50000 digits, that lie in memory. -/
import Derived.Test.YthmpkejdficmgaaDoorNu
import Derived.Deep.CutBlock
import Derived.Deep.DeepCutAuto
import Derived.Deep.CutRange
namespace Go.Proofs.YthmpkejdficmgaaDoor
open Go.RowKit

/-- How far Shift goes: n, brought to 0 up to 4096. -/
def shn (n : Int) : Nat := (max 0 (min n 4096)).toNat
theorem shn_le (n : Int) : shn n ≤ 4096 := by unfold shn; omega
/-- What holds at each round's head of Shift. -/
structure ShW (w wr : World) (g : Nat) (xs os : List Nat) (L k r j : Nat) : Prop where
  db : DB .u32 61 wr g os
  eg : Eg os
  len : os.length = L
  zero : ∀ i, k + j + 1 ≤ i → dat os i = 0
  low : dat os (k + j) < 2 ^ r
  val : dw os = dw (xs.take j) * 2 ^ r * 4294967296 ^ k
  bel : Below w.heap.size w wr
theorem ShW.start (w W : World) (xs : List Nat) (L k r : Nat) (hb : Below w.heap.size w W) : ShW w (W.alloc (.cells (cs .u32 (List.replicate L 0)).toArray 61)) W.heap.size xs (List.replicate L 0) L k r 0 :=
  ⟨DB.new _ _ W _, eg_zeros L, by simp, fun j _ => dw_zeros_ L j, by rw [dw_zeros_]; exact Nat.two_pow_pos r, by rw [dw_zeros]; simp [dw], bel_tr hb (bel_a W _)⟩
theorem low_mul {d r : Nat} (hr : r < 32) : d * 2 ^ r % 4294967296 = 2 ^ r * (d % 2 ^ (32 - r)) := by
  have e : (4294967296 : Nat) = 2 ^ r * 2 ^ (32 - r) := by rw [← Nat.pow_add, show r + (32 - r) = 32 by omega]
  rw [e, Nat.mul_comm d, Nat.mul_mod_mul_left]
theorem ShW.step {w wr : World} {g : Nat} {xs os : List Nat} {L k r j : Nat} (h : ShW w wr g xs os L k r j) (hg : w.heap.size ≤ g) (hx : Eg xs) (hr : r < 32) (hL : L = k + xs.length + 1) (hj : j < xs.length) :
    dat xs j * 2 ^ r < 18446744073709551616 ∧ bits .or .u32 (dat os (k + j) : Int) ((dat xs j * 2 ^ r % 4294967296 : Nat) : Int) = ((dat os (k + j) + dat xs j * 2 ^ r % 4294967296 : Nat) : Int) ∧
    ShW w ((wr.setCell ⟨g, k + j, none⟩ (.int .u32 ((dat os (k + j) + dat xs j * 2 ^ r % 4294967296 : Nat) : Int))).setCell ⟨g, k + j + 1, none⟩ (.int .u32 ((dat xs j * 2 ^ r / 4294967296 : Nat) : Int))) g xs
      ((os.set (k + j) (dat os (k + j) + dat xs j * 2 ^ r % 4294967296)).set (k + j + 1) (dat xs j * 2 ^ r / 4294967296)) L k r (j + 1) := by
  have hd : dat xs j < 4294967296 := hx j
  have hp : 2 ^ r ≤ 2 ^ 31 := Nat.pow_le_pow_right (by decide) (by omega)
  have hp0 : 0 < 2 ^ r := Nat.two_pow_pos r
  have e31 : (2 : Nat) ^ 31 = 2147483648 := by decide
  have hm := low_mul (d := dat xs j) hr
  have hlow := h.low
  have hpr : dat xs j * 2 ^ r ≤ 4294967295 * 2 ^ r := Nat.mul_le_mul_right _ (by omega)
  have hmod : dat xs j * 2 ^ r % 4294967296 < 4294967296 := Nat.mod_lt _ (by decide)
  have hsum : dat os (k + j) + dat xs j * 2 ^ r % 4294967296 < 4294967296 := by
    have h1 : dat xs j % 2 ^ (32 - r) < 2 ^ (32 - r) := Nat.mod_lt _ (Nat.two_pow_pos _)
    have e : (4294967296 : Nat) = 2 ^ r * 2 ^ (32 - r) := by rw [← Nat.pow_add, show r + (32 - r) = 32 by omega]
    have h2 := Nat.mul_le_mul_left (2 ^ r) (show dat xs j % 2 ^ (32 - r) + 1 ≤ 2 ^ (32 - r) by omega)
    rw [← e, Nat.mul_add, ← hm] at h2
    omega
  have hor : dat os (k + j) ||| dat xs j * 2 ^ r % 4294967296 = dat os (k + j) + dat xs j * 2 ^ r % 4294967296 := by
    rw [hm, Nat.or_comm, ← Nat.two_pow_add_eq_or_of_lt hlow, Nat.add_comm]
  have hhi : dat xs j * 2 ^ r / 4294967296 < 2 ^ r := by
    rw [Nat.div_lt_iff_lt_mul (by decide)]
    omega
  refine ⟨by omega, by rw [u32_or_nat (dat os (k + j)) _ (h.eg (k + j)) hmod, hor], (h.db.set_ (k + j) _).set_ (k + j + 1) _, eg_set (eg_set h.eg _ hsum) _ (by omega), by simp [h.len], fun i hi => ?_, ?_, ?_, bel_set (bel_set h.bel hg _ _) hg _ _⟩
  · have := h.zero i (by omega)
    simp only [dat, List.getD_eq_getElem?_getD] at this ⊢
    rw [List.getElem?_set_ne (by omega), List.getElem?_set_ne (by omega)]
    exact this
  · have hl : k + (j + 1) < os.length := by rw [h.len]; omega
    have e : dat ((os.set (k + j) (dat os (k + j) + dat xs j * 2 ^ r % 4294967296)).set (k + j + 1) (dat xs j * 2 ^ r / 4294967296)) (k + (j + 1)) = dat xs j * 2 ^ r / 4294967296 := by
      show List.getD _ _ _ = _
      rw [List.getD_eq_getElem?_getD, show k + (j + 1) = k + j + 1 by omega, List.getElem?_set_self (by simp; omega)]
      rfl
    rw [e]
    exact hhi
  · have h1 := dw_set (l := os) (dat os (k + j) + dat xs j * 2 ^ r % 4294967296) (show k + j < os.length by rw [h.len]; omega)
    have hz : dat (os.set (k + j) (dat os (k + j) + dat xs j * 2 ^ r % 4294967296)) (k + j + 1) = 0 := by
      have := h.zero (k + j + 1) (Nat.le_refl _)
      simp only [dat, List.getD_eq_getElem?_getD] at this ⊢
      rw [List.getElem?_set_ne (by omega)]
      exact this
    have h2 := dw_set (l := os.set (k + j) (dat os (k + j) + dat xs j * 2 ^ r % 4294967296)) (dat xs j * 2 ^ r / 4294967296) (show k + j + 1 < _ by simp [h.len]; omega)
    have hz' : (os.set (k + j) (dat os (k + j) + dat xs j * 2 ^ r % 4294967296)).getD (k + j + 1) 0 = 0 := hz
    rw [hz'] at h2
    have e0 : os.getD (k + j) 0 = dat os (k + j) := rfl
    rw [e0] at h1
    have hdm := Nat.div_add_mod (dat xs j * 2 ^ r) 4294967296
    rw [dw_take_succ]
    have hv := h.val
    change _ = (_ + 4294967296 ^ j * dat xs j) * 2 ^ r * 4294967296 ^ k
    rw [Nat.pow_succ] at h2
    rw [Nat.pow_add] at h1 h2
    generalize dat xs j * 2 ^ r / 4294967296 = a at *
    generalize dat xs j * 2 ^ r % 4294967296 = b at *
    generalize dw ((os.set (k + j) (dat os (k + j) + b)).set (k + j + 1) a) = z2 at *
    generalize dw (os.set (k + j) (dat os (k + j) + b)) = z1 at *
    generalize dat os (k + j) = o at *
    generalize dat xs j = d at *
    generalize 4294967296 ^ k = P at *
    generalize 4294967296 ^ j = Q at *
    generalize 2 ^ r = R at *
    grind
theorem ShW.fin {w wr : World} {g : Nat} {xs os : List Nat} {L k r : Nat} (h : ShW w wr g xs os L k r xs.length) (hl : L ≤ 1000000) : Arr wr .u32 (.slice (some ⟨g, 0, none⟩) L L) os ∧ Eg os ∧ os.length = L ∧ dw os = dw xs * 2 ^ (32 * k + r) := by
  have ha := h.db.arr (by rw [h.len]; exact hl)
  rw [h.len] at ha
  refine ⟨ha, h.eg, h.len, ?_⟩
  rw [h.val, dw_take_all (Nat.le_refl _), show (4294967296 : Nat) = 2 ^ 32 by decide, ← Nat.pow_mul, Nat.mul_assoc, ← Nat.pow_add]
  congr 2
  omega
theorem sv_pow (b : Bool) (m e : Nat) : sv b (m * 2 ^ e) = sv b m * 2 ^ e := by
  cases b <;> simp [sv, Int.neg_mul]
set_option maxHeartbeats 2000000 in
set_option maxRecDepth 100000 in
theorem shift_any (X : Value) (x n : Int) (l : Nat) (w : World) (hX : BigA w X x l) (hl : l ≤ 50000) (h1 : -9223372036854775808 ≤ n) (h2 : n ≤ 9223372036854775807) : Calls Tryd.prog 27 #[X, .int .i64 n] w (BigE (x * 2 ^ shn n) (l + 130) w) := by
  obtain ⟨b, v, xs, rfl, hv, hx, hxl, rfl⟩ := hX
  obtain ⟨A, c, rfl⟩ := hv.slice
  have HX := Lib.hid (And.intro hx (show (tr xs).length ≤ l by rw [tr_len]; have := tr_le xs; omega))
  obtain ⟨p, hp⟩ : ∃ p, p = xs.length := ⟨_, rfl⟩
  rw [← hp] at hv ⊢
  have HV := Lib.hid hv
  have HL := Lib.hid hl
  obtain ⟨N, hN⟩ : ∃ N, N = shn n := ⟨_, rfl⟩
  have hN2 : N ≤ 4096 := by rw [hN]; exact shn_le n
  have hNc : (n < 0 ∧ N = 0) ∨ (n = 0 ∧ N = 0) ∨ (0 < n ∧ n < 4096 ∧ (N : Int) = n) ∨ (n = 4096 ∧ N = 4096) ∨ (4096 < n ∧ N = 4096) := by rw [hN]; unfold shn; omega
  rw [← hN]
  have H0 := Lib.hid (B2'.start 24 24 w b (.slice A p c))
  have HNC := Lib.hid hNc
  clear hv hx hxl hp hl hN hNc
  go_enter Tryd.func27, Tryd.ntmps27
  go_upto_region 1 with fail
  go_cut [1] (fun t wx => t = .int .i64 (N : Int) ∧ wx = ((w.alloc (.cells #[.bool b, .slice A p c] 24)).alloc (.cells #[.bool false, .slice none 0 0] 24)))
  case first =>
    go_wp2_with fail
    go_meet
    exact ⟨by congr 1; have := HNC.out; omega, rfl⟩
  case rest =>
    obtain ⟨rfl, rfl⟩ := hcut
    obtain ⟨k, hk⟩ : ∃ k, k = N / 32 := ⟨_, rfl⟩
    obtain ⟨r, hr⟩ : ∃ r, r = N % 32 := ⟨_, rfl⟩
    have F1 : (N : Int) / 32 = (k : Int) := by omega
    have F2 : (N : Int) % 32 = (r : Int) := by omega
    have hr32 : r < 32 := by omega
    have hk128 : k ≤ 128 := by omega
    have HKR := Lib.hid (show N = 32 * k + r by omega)
    obtain ⟨m, hm⟩ : ∃ m, m = tl xs := ⟨_, rfl⟩
    have hml : m ≤ 50000 := by rw [hm, ← tr_len]; exact Nat.le_trans HX.out.2 HL.out
    obtain ⟨L, hL⟩ : ∃ L, L = k + m + 1 := ⟨_, rfl⟩
    have hLl : L ≤ 50129 := by omega
    have hmk := fun w => mk32 L (by omega) w ((k : Int) + (m : Int) + 1) (by omega)
    have HV0 := Lib.hid (HV.out.bel H0.out.bel)
    have HT := Lib.hid (show (tr xs).length = m by rw [tr_len, hm])
    have HTR := Lib.hid (fun W h => hm ▸ trim32_w A p c xs W h)
    have HLL := Lib.hid hL
    have HTL := Lib.hid hm.symm
    have HSTART := Lib.hid (And.intro (show ∃ os, ShW w (((w.alloc (.cells #[.bool b, .slice A p c] 24)).alloc (.cells #[.bool false, .slice none 0 0] 24)).alloc (.cells (cs .u32 (List.replicate L 0)).toArray 61)) (w.heap.size + 1 + 1) (tr xs) os L k r 0 from ⟨_, by simpa using ShW.start w ((w.alloc (.cells #[.bool b, .slice A p c] 24)).alloc (.cells #[.bool false, .slice none 0 0] 24)) (tr xs) L k r H0.out.bel⟩) (H0.out.next (bel_a _ (.cells (cs .u32 (List.replicate L 0)).toArray 61))))
    clear hk hr hm hL
    go_wp2_with (go_at_call 37; (with_reducible refine (HTR.out _ HV0.out).mono ?_); rintro e w1 ⟨rfl, rfl⟩)
    rw [F2]
    go_loopw [30] (fun i wr => ∃ j : Nat, i = .int .i64 (j : Int) ∧ j ≤ m ∧ (∃ os, ShW w wr (w.heap.size + 1 + 1) (tr xs) os L k r j) ∧ B2' 24 24 w wr b (.slice A p c)) (fun i _ => m - (intOf i).toNat)
    case atStart => exact ⟨0, rfl, Nat.zero_le _, HSTART.out.1, HSTART.out.2⟩
    case round =>
      obtain ⟨j, rfl, hj, ⟨os, hs⟩, hb2⟩ := hrel
      have HB2 := Lib.hid hb2
      by_cases hgo : j < m
      · have HVr := Lib.hid (HV.out.tr.bel hb2.bel)
        rw [HTL.out] at HVr
        obtain ⟨ad, rfl, _, hca⟩ := HVr.out.get j (by rw [HT.out]; exact hgo)
        have hd : dat (tr xs) j < 4294967296 := tr_eg HX.out.1 j
        have ho : dat os (k + j) < 4294967296 := hs.eg (k + j)
        have hstep := hs.step (by omega) (tr_eg HX.out.1) hr32 (by rw [HT.out]; exact HLL.out) (by rw [HT.out]; exact hgo)
        have hc1 := hs.db.cell (k + j) (by rw [hs.len, HLL.out]; omega)
        have hc2 := hs.db.cell (k + j + 1) (by rw [hs.len, HLL.out]; omega)
        have hf1 := hs.db.fr (k + j)
        have hf2 := hs.db.fr (k + j + 1)
        obtain ⟨S, hS⟩ : ∃ S, S = dat (tr xs) j * 2 ^ r := ⟨_, rfl⟩
        rw [← hS] at hstep
        obtain ⟨T, hT⟩ : ∃ T, T = dat os (k + j) + S % 4294967296 := ⟨_, rfl⟩
        rw [← hT] at hstep
        obtain ⟨q1, q2, q3⟩ := hstep
        have F3 : IntKind.u64.wrap ((dat (tr xs) j : Int) * 2 ^ r) = (S : Int) := wrap_nat (by rw [hS]; simp) q1
        rw [show ((S % 4294967296 : Nat) : Int) = (S : Int) % 4294967296 by simp] at q2
        rw [show ((S / 4294967296 : Nat) : Int) = (S : Int) / 4294967296 by simp] at q3
        have hij : k + j < L := by have := HLL.out; omega
        have hij2 : k + j + 1 < L := by have := HLL.out; omega
        have HQ := Lib.hid q3
        have HB3 := Lib.hid (show B2' 24 24 w ((wr.setCell ⟨w.heap.size + 1 + 1, k + j, none⟩ (.int .u32 (T : Int))).setCell ⟨w.heap.size + 1 + 1, k + j + 1, none⟩ (.int .u32 ((S : Int) / 4294967296))) b (.slice (some ad) p c) from
          ⟨(HB2.out.a.far (by simp; omega) _).far (by simp; omega) _, (HB2.out.c.far (by simp) _).far (by simp) _, bel_set (bel_set HB2.out.bel (by omega) _ _) (by omega) _ _⟩)
        clear hS hT q3 hs hb2
        go_wp2_with fail
        exact ⟨⟨j + 1, by simp, by omega, ⟨_, HQ.out⟩, HB3.out⟩, by simp [intOf]; omega⟩
      · obtain rfl : j = m := by omega
        rw [← HT.out] at hs
        obtain ⟨e1, e2, e3, e4⟩ := hs.fin (by omega)
        rw [tr_dw, ← HKR.out] at e4
        have HE := Lib.hid (And.intro e1 (And.intro e2 (And.intro e3 e4)))
        obtain ⟨f1, f2, f3, f4, f5, f6⟩ := hb2.facts
        clear e1 e2 e3 e4 hs hb2
        go_wp2_with (go_at_call 38; (with_reducible refine (form_parts b (.slice (some ⟨w.heap.size + 1 + 1, 0, none⟩) L L) os wr HE.out.1 HE.out.2.1).mono ?_); rintro e w3 ⟨k', C, p', q', ss, rfl, hs, hb⟩; have HX3 := Lib.hid (HB2.out.next hb); have HS := Lib.hid hs; clear hs hb f1 f2 f3 f4 f5 f6; obtain ⟨f1, f2, f3, f4, f5, f6⟩ := HX3.out.facts)
        exact bodyPost_ret (ret_bx24 rfl rfl (HX3.out.fin k' _)) rfl (big_fin2 HX3.out HS.out (by rw [HE.out.2.2.2, sv_pow]) (by rw [HE.out.2.2.1, HLL.out]; have := HX.out.2; rw [HT.out] at this; omega))
end Go.Proofs.YthmpkejdficmgaaDoor
