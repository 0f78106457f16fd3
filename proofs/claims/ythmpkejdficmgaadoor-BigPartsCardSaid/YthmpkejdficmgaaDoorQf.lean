/- Proved here: what the reference package's Mul answers and leaves in memory. Condition: numbers in their one form, of at most 100000 digits, that lie in memory. -/
import Derived.Test.YthmpkejdficmgaaDoorQe
namespace Go.Proofs.YthmpkejdficmgaaDoor
open Go.RowKit

/-- What holds ahead of each row of a product, and inside a row; g is the product's block. -/
structure RmO (w wr : World) (g : Nat) (xs ys os : List Nat) (i : Nat) : Prop where
  db : DB .u64 60 wr g os
  dg : Dg os
  len : os.length = xs.length + ys.length + 1
  zero : ∀ j, i + ys.length ≤ j → dat os j = 0
  val : dv os = dv (xs.take i) * dv ys
structure RmI (w wr : World) (g : Nat) (xs ys os : List Nat) (i j q : Nat) : Prop where
  db : DB .u64 60 wr g os
  dg : Dg os
  len : os.length = xs.length + ys.length + 1
  zero : ∀ k, i + max j ys.length ≤ k → dat os k = 0
  val : dv os + q * 65536 ^ (i + j) = dv (xs.take i) * dv ys + xs.getD i 0 * 65536 ^ i * dv (ys.take j)
  ql : q ≤ 65535
  qz : ys.length < j → q = 0
  jl : j ≤ ys.length + 1
theorem RmO.start (w W : World) (xs ys : List Nat) (L : Nat) (hL : L = xs.length + ys.length + 1) : RmO w (W.alloc (.cells (cs .u64 (List.replicate L 0)).toArray 60)) W.heap.size xs ys (List.replicate L 0) 0 :=
  ⟨DB.new _ _ W _, dg_zeros L, by simp [hL], fun j _ => dw_zeros_ L j, by rw [dv_zeros]; simp [dv]⟩
theorem RmO.inner {w wr : World} {g : Nat} {xs ys os : List Nat} {i : Nat} (h : RmO w wr g xs ys os i) : RmI w wr g xs ys os i 0 0 :=
  ⟨h.db, h.dg, h.len, fun j hj => h.zero j (by omega), by rw [h.val]; simp [dv], by omega, fun _ => rfl, by omega⟩
theorem RmI.outer {w wr : World} {g : Nat} {xs ys os : List Nat} {i j : Nat} (h : RmI w wr g xs ys os i j 0) (hj : ys.length ≤ j) : RmO w wr g xs ys os (i + 1) := by
  have hv := h.val
  have hjl := h.jl
  rw [dv_take_all (l := ys) (i := j) hj] at hv
  refine ⟨h.db, h.dg, h.len, fun k hk => h.zero k (by omega), ?_⟩
  rw [dv_take_succ]
  generalize 65536 ^ i = P at *
  generalize dv ys = B at *
  grind
theorem RmI.next {w wr W : World} {g : Nat} {xs ys os : List Nat} {i j q S : Nat} (h : RmI w wr g xs ys os i j q) (hW : DB .u64 60 W g os) (hx : Dg xs) (hy : Dg ys) (hi : i < xs.length) (hgo : j < ys.length ∨ 0 < q) (hS : S = dat os (i + j) + dat xs i * dat ys j + q) :
    S < 4294967296 ∧ RmI w (W.setCell ⟨g, i + j, none⟩ (.int .u64 ((S % 65536 : Nat) : Int))) g xs ys (os.set (i + j) (S % 65536)) i (j + 1) (S / 65536) := by
  have hA : dat xs i < 65536 := hx i
  have hB : dat ys j < 65536 := hy j
  have hO : dat os (i + j) < 65536 := h.dg (i + j)
  have hP : dat xs i * dat ys j ≤ 65535 * 65535 := Nat.mul_le_mul (by omega) (by omega)
  have hq := h.ql
  have hjl := h.jl
  have hj : j ≤ ys.length := by
    rcases Nat.lt_or_ge ys.length j with hlt | hge
    · have := h.qz hlt
      omega
    · exact hge
  have hlen : i + j < os.length := by rw [h.len]; omega
  have st := @times_step xs ys os i j q hlen h.val
  have eS : os.getD (i + j) 0 + xs.getD i 0 * ys.getD j 0 + q = S := hS.symm
  rw [eS] at st
  refine ⟨by omega, DB.set_ hW (i + j) _, dg_set h.dg _ (Nat.mod_lt _ (by decide)), by simp [h.len], fun k hk => ?_, st, by omega, fun hlt => ?_, by omega⟩
  · have := h.zero k (by omega)
    simp only [dat, List.getD_eq_getElem?_getD] at this ⊢
    rw [List.getElem?_set_ne (by omega)]
    exact this
  · obtain rfl : j = ys.length := by omega
    have e1 : dat ys ys.length = 0 := dat_beyond (Nat.le_refl _)
    have e2 : dat os (i + ys.length) = 0 := h.zero _ (by omega)
    rw [e1, e2] at hS
    omega
theorem RmO.fin {w wr : World} {g : Nat} {xs ys os : List Nat} (h : RmO w wr g xs ys os xs.length) (hl : xs.length + ys.length + 1 ≤ 1000000) :
    Arr wr .u64 (.slice (some ⟨g, 0, none⟩) (xs.length + ys.length + 1) (xs.length + ys.length + 1)) os ∧ Dg os ∧ os.length = xs.length + ys.length + 1 ∧ dv os = dv xs * dv ys := by
  have hv := h.val
  rw [dv_take_all (Nat.le_refl _)] at hv
  have ha := h.db.arr (by rw [h.len]; exact hl)
  rw [h.len] at ha
  exact ⟨ha, h.dg, h.len, hv⟩
theorem mod_cast16 (S : Nat) : ((S : Int)).tmod 65536 = ((S % 65536 : Nat) : Int) := by
  rw [Int.tmod_eq_emod_of_nonneg (Int.natCast_nonneg _)]
  simp
def RmOH (w wr : World) (g : Nat) (xs ys : List Nat) (i : Nat) : Prop := ∃ os, RmO w wr g xs ys os i
def RmIH (w wr : World) (g : Nat) (xs ys : List Nat) (i j q : Nat) : Prop := ∃ os, RmI w wr g xs ys os i j q
theorem B3.far {T : TypeId} {w W : World} {n m : Bool} {v u : Value} (h : B3 T w W n v m u) {g : Nat} (hg : w.heap.size + 1 + 1 < g) (j : Nat) (x : Value) : B3 T w (W.setCell ⟨g, j, none⟩ x) n v m u :=
  ⟨h.a.far (by simp; omega) _, h.b.far (by simp; omega) _, h.c.far (by simp; omega) _, bel_set h.bel (by omega) _ _⟩
set_option maxHeartbeats 4000000 in
set_option maxRecDepth 100000 in
theorem rmul_any (X Y : Value) (x y : Int) (l k : Nat) (w : World) (hX : NumC w X x l) (hY : NumC w Y y k) (hl : l ≤ 100000) (hk : k ≤ 100000) : Calls Tryd.prog 17 #[X, Y] w (NumE (x * y) (l + k + 1) w) := by
  obtain ⟨n, v, xs, rfl, hv, hx, _, hxl, rfl⟩ := hX
  obtain ⟨m, u, ys, rfl, hu, hy, _, hyl, rfl⟩ := hY
  obtain ⟨A, c, rfl⟩ := hv.slice
  obtain ⟨B, d, rfl⟩ := hu.slice
  obtain ⟨p, hp⟩ : ∃ p, p = xs.length := ⟨_, rfl⟩
  obtain ⟨q, hq⟩ : ∃ q, q = ys.length := ⟨_, rfl⟩
  rw [← hp] at hv hxl ⊢
  rw [← hq] at hu hyl ⊢
  have HV := Lib.hid hv
  have HU := Lib.hid hu
  have HX := Lib.hid (And.intro hx hy)
  have H0 := Lib.hid (B3.start 28 w n (.slice A p c) m (.slice B q d))
  obtain ⟨L, hL⟩ : ∃ L, L = p + q + 1 := ⟨_, rfl⟩
  have hpl : p ≤ 100000 := by omega
  have hql : q ≤ 100000 := by omega
  have hLl : L ≤ 200001 := by omega
  have hmk := fun w => mk16 L (by omega) w ((p : Int) + (q : Int) + 1) (by omega)
  have HS := Lib.hid (And.intro (show RmOH w ((((w.alloc (.cells #[.bool n, .slice A p c] 28)).alloc (.cells #[.bool m, .slice B q d] 28)).alloc (.cells #[.bool false, .slice none 0 0] 28)).alloc (.cells (cs .u64 (List.replicate L 0)).toArray 60)) (w.heap.size + 1 + 1 + 1) xs ys 0 from
    ⟨_, by simpa using RmO.start w (((w.alloc (.cells #[.bool n, .slice A p c] 28)).alloc (.cells #[.bool m, .slice B q d] 28)).alloc (.cells #[.bool false, .slice none 0 0] 28)) xs ys L (by omega)⟩) (H0.out.next (bel_a _ (.cells (cs .u64 (List.replicate L 0)).toArray 60))))
  have HL := Lib.hid hL
  have HP := Lib.hid (And.intro hp hq)
  have HB := Lib.hid (And.intro hxl hyl)
  clear hv hu hx hy hp hq hL hxl hyl hl hk
  go_enter Tryd.func17, Tryd.ntmps17
  go_wp2_with fail
  go_loopw [6] (fun i wr => ∃ i0 : Nat, i = .int .i64 (i0 : Int) ∧ i0 ≤ p ∧ RmOH w wr (w.heap.size + 1 + 1 + 1) xs ys i0 ∧ B3 28 w wr n (.slice A p c) m (.slice B q d)) (fun i _ => p - (intOf i).toNat)
  case atStart => exact ⟨0, rfl, Nat.zero_le _, HS.out.1, HS.out.2⟩
  case round =>
    obtain ⟨i, rfl, hi, hr, hb3⟩ := hrel
    obtain ⟨f1, f2, f3, f4, f5, f6, f7, f8⟩ := hb3.facts
    by_cases hgo : i < p
    · have HI := Lib.hid (show RmIH w wr (w.heap.size + 1 + 1 + 1) xs ys i 0 0 by obtain ⟨os, h⟩ := hr; exact ⟨os, h.inner⟩)
      have HB3 := Lib.hid hb3
      obtain ⟨wo, rfl⟩ : ∃ wo : World, wo = wr := ⟨_, rfl⟩
      clear hr hb3 f1 f3 f5 f6 f7 f8
      go_wp2_with fail
      go_loopw [7, 8] (fun cy j wr => ∃ q0 j0 : Nat, cy = .int .u64 (q0 : Int) ∧ j = .int .i64 (j0 : Int) ∧ RmIH w wr (w.heap.size + 1 + 1 + 1) xs ys i j0 q0 ∧ B3 28 w wr n (.slice A p c) m (.slice B q d)) (fun _ j _ => q + 2 - (intOf j).toNat)
      case atStart => exact ⟨0, 0, rfl, rfl, HI.out, HB3.out⟩
      case round =>
        obtain ⟨q0, j, rfl, rfl, ⟨os, hr3⟩, hb3⟩ := hrel
        obtain ⟨f1, f2, f3, f4, f5, f6, f7, f8⟩ := hb3.facts
        by_cases hg2 : j < q ∨ 0 < q0
        · have hjq : j ≤ q := by
            rcases Nat.lt_or_ge q j with hlt | hge
            · have := hr3.qz (by rw [← HP.out.2]; exact hlt)
              omega
            · exact hge
          have HVr := Lib.hid (HV.out.bel hb3.bel)
          have HUr := Lib.hid (HU.out.bel hb3.bel)
          obtain ⟨ad, rfl, _, hca⟩ := HVr.out.get i (by rw [← HP.out.1]; exact hgo)
          have hlen : os.length = L := by rw [hr3.len, HL.out, HP.out.1, HP.out.2]
          have hij : i + j < L := by have := HL.out; omega
          have hcell := hr3.db.cell (i + j) (by rw [hlen]; exact hij)
          have hfr := hr3.db.fr (i + j)
          have hA : dat xs i < 65536 := HX.out.1 i
          have hB : dat ys j < 65536 := HX.out.2 j
          have hO : dat os (i + j) < 65536 := hr3.dg (i + j)
          have hq0 := hr3.ql
          obtain ⟨S, hS⟩ : ∃ S, S = dat os (i + j) + dat xs i * dat ys j + q0 := ⟨_, rfl⟩
          have hSl := (hr3.next hr3.db HX.out.1 HX.out.2 (by rw [← HP.out.1]; exact hgo) (by rw [← HP.out.2]; exact hg2) hS).1
          obtain ⟨P, hPe⟩ : ∃ P, P = dat xs i * dat ys j := ⟨_, rfl⟩
          obtain ⟨R, hRe⟩ : ∃ R, R = dat os (i + j) + P := ⟨_, rfl⟩
          have F1 : IntKind.u64.wrap ((dat xs i : Int) * (dat ys j : Int)) = (P : Int) := wrap_nat (by rw [hPe]; simp) (by omega)
          have F2 : IntKind.u64.wrap ((dat os (i + j) : Int) + (P : Int)) = (R : Int) := wrap_nat (by omega) (by omega)
          have F3 : IntKind.u64.wrap ((R : Int) + (q0 : Int)) = (S : Int) := wrap_nat (by omega) (by omega)
          have e1 : IntKind.i64.wrap ((i : Int) + (j : Int)) = (i : Int) + (j : Int) := IntWalk.i64_in _ (by omega)
          have HSE := Lib.hid hS
          have HR3 := Lib.hid hr3
          have HB4 := Lib.hid hb3
          clear hr3 hS hPe hRe hb3 f1 f3 f5 f6 f7 f8 hlen hA hB hO
          go_wp2_with fail
          all_goals
            go_quiet ((go_at_call 42; exact Calls.quiet_of_same (at16_q (.slice B q d) ys j _ (HUr.out.drewN _))))
            obtain ⟨W, hW⟩ : ∃ W, W = wr.drewN nq := ⟨_, rfl⟩
            have hcW : W.cell? ⟨w.heap.size + 1 + 1 + 1, i + j, none⟩ = some (.int .u64 (dat os (i + j) : Int)) := by rw [hW]; exact hcell
            have hfW : W.frozen? ⟨w.heap.size + 1 + 1 + 1, i + j, none⟩ = false := by rw [hW]; exact hfr
            have hnx := (HR3.out.next (W := W) (by rw [hW]; exact HR3.out.db) HX.out.1 HX.out.2 (by rw [← HP.out.1]; exact hgo) (by rw [← HP.out.2]; exact hg2) HSE.out).2
            have hbx : B3 28 w W n (.slice (some ad) p c) m (.slice B q d) := by rw [hW]; exact HB4.out.drewN nq
            rw [show ((S % 65536 : Nat) : Int) = (S : Int) % 65536 by simp] at hnx
            have HN := Lib.hid (And.intro hnx (hbx.far (g := w.heap.size + 1 + 1 + 1) (by omega) (i + j) (.int .u64 ((S : Int) % 65536))))
            rw [← hW]
            clear hW hcell hfr hca hnx hbx f2 f4
            go_wp2_with fail
            exact ⟨⟨S / 65536, j + 1, by simp, by simp, ⟨_, HN.out.1⟩, HN.out.2⟩, by simp [intOf]; omega⟩
        · obtain rfl : q0 = 0 := by omega
          have HO := Lib.hid (show RmOH w wr (w.heap.size + 1 + 1 + 1) xs ys (i + 1) from ⟨os, hr3.outer (by rw [← HP.out.2]; omega)⟩)
          have HB4 := Lib.hid hb3
          clear hr3 hb3 f1 f3 f5 f6 f7 f8
          go_wp2_with fail
          exact ⟨⟨i + 1, by simp, by omega, HO.out, HB4.out⟩, by simp [intOf]; omega⟩
    · obtain rfl : i = p := by omega
      have hf : ∃ os, RmO w wr (w.heap.size + 1 + 1 + 1) xs ys os xs.length := by rw [← HP.out.1]; exact hr
      obtain ⟨os, hf⟩ := hf
      have hf2 := hf.fin (by rw [← HP.out.1, ← HP.out.2]; omega)
      rw [← HP.out.1, ← HP.out.2, ← HL.out] at hf2
      have HF := Lib.hid hf2
      have HB4 := Lib.hid hb3
      clear hf hf2 hr hb3
      go_wp2_with (go_at_call 36; (with_reducible refine (norm_parts _ (.slice (some ⟨w.heap.size + 1 + 1 + 1, 0, none⟩) L L) os wr HF.out.1 HF.out.2.1).mono ?_); rintro e w3 ⟨b', C, p', q', ss, rfl, hs, hb⟩; have HX3 := Lib.hid (HB4.out.next hb); have HSS := Lib.hid hs; clear hs hb f1 f2 f3 f4 f5 f6 f7 f8; obtain ⟨f1, f2, f3, f4, f5, f6, f7, f8⟩ := HX3.out.facts)
      exact bodyPost_ret (ret_bx28 rfl rfl (HX3.out.fin b' _)) rfl (num_fin HX3.out HSS.out (by rw [HF.out.2.2.2, sv_mul]) (by rw [HF.out.2.2.1, HL.out]; have := HB.out; omega))
end Go.Proofs.YthmpkejdficmgaaDoor
