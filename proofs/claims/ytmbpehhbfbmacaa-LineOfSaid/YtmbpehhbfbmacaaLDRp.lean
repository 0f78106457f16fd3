/- Proved here: what the document's Times answers of two numbers of 17 digits. Condition: seventeen digits each. -/
import Derived.Test.YtmbpehhbfbmacaaLDRm
namespace Go.Proofs.Ytmbpehhbfbmacaa
open Go.RowKit

theorem Try.mk35 : ∀ w, (Instr.makeSlice 55 (.int .i64 35) (.int .i64 35)).run Try.prog w = .ok (.slice (some ⟨w.heap.size, 0, none⟩) 35 35) (w.alloc (.cells (dc (List.replicate 35 0)).toArray 35)) := fun _ => by kernel_rfl
/-- What holds ahead of each row of a product, and inside a row. -/
structure TpqO (w wr : World) (xa bs os : List Nat) (i : Nat) : Prop where
  db : DB wr w.heap.size os
  dg : Dg os
  len : os.length = 35
  val : dv os = dv (xa.take i) * dv bs
  bel : Below w.heap.size w wr
structure TpqI (w wr : World) (xa bs os : List Nat) (i j q : Nat) : Prop where
  db : DB wr w.heap.size os
  dg : Dg os
  len : os.length = 35
  val : dv os + q * 65536 ^ (i + j) = dv (xa.take i) * dv bs + xa.getD i 0 * 65536 ^ i * dv (bs.take j)
  ql : q ≤ 65535
  q9 : j = 18 → q = 0
  bel : Below w.heap.size w wr
def TpqOH (w wr : World) (xa bs : List Nat) (i : Nat) : Prop := ∃ os, TpqO w wr xa bs os i
def TpqIH (w wr : World) (xa bs : List Nat) (i j q : Nat) : Prop := ∃ os, TpqI w wr xa bs os i j q
theorem TpqOH.start (w : World) (xa bs : List Nat) : TpqOH w (w.alloc (.cells (dc (List.replicate 35 0)).toArray 35)) xa bs 0 :=
  ⟨_, DB.new w _, dg_zeros 35, rfl, by rw [dv_zeros]; simp [dv], (Below.refl _ _).alloc (Nat.le_refl _) _⟩
theorem TpqOH.inner {w wr : World} {xa bs : List Nat} {i : Nat} (h : TpqOH w wr xa bs i) : TpqIH w wr xa bs i 0 0 := by
  obtain ⟨os, h⟩ := h
  exact ⟨os, h.db, h.dg, h.len, by rw [h.val]; simp [dv], by omega, by omega, h.bel⟩
theorem TpqIH.outer {w wr : World} {xa bs : List Nat} {i j : Nat} (h : TpqIH w wr xa bs i j 0) (hj : 17 ≤ j) (hb : bs.length = 17) : TpqOH w wr xa bs (i + 1) := by
  obtain ⟨os, h⟩ := h
  refine ⟨os, h.db, h.dg, h.len, ?_, h.bel⟩
  have hv := h.val
  rw [dv_take_all (l := bs) (i := j) (by omega)] at hv
  rw [dv_take_succ]
  generalize 65536 ^ i = P at *
  generalize dv bs = B at *
  grind
theorem TpqI.next {w wr W : World} {xa bs os : List Nat} {i j q : Nat} (h : TpqI w wr xa bs os i j q) (hW : Below wr.heap.size wr W) (ha : Dg xa) (hb : Dg bs) (hbl : bs.length = 17) (hi : i < 17) (hj : j ≤ 17) :
    TpqIH w (W.setCell ⟨w.heap.size, i + j, none⟩ (.int .u64 (((dat os (i + j) + dat xa i * dat bs j + q) % 65536 : Nat) : Int))) xa bs i (j + 1) ((dat os (i + j) + dat xa i * dat bs j + q) / 65536) := by
  have hA : dat xa i < 65536 := ha i
  have hB : dat bs j < 65536 := hb j
  have hO : dat os (i + j) < 65536 := h.dg (i + j)
  have hP : dat xa i * dat bs j ≤ 65535 * 65535 := Nat.mul_le_mul (by omega) (by omega)
  have hq := h.ql
  have st := @times_step xa bs os i j q (by rw [h.len]; omega) h.val
  refine ⟨_, DB.set_ (h.db.below hW h.db.lt) (i + j) _, dg_set h.dg _ (Nat.mod_lt _ (by decide)), by simp [h.len], st, ?_, fun h9 => ?_, (h.bel.trans (hW.mono h.bel.size)).setCell (Nat.le_refl _) _⟩
  · generalize dat xa i * dat bs j = T at *
    omega
  · obtain rfl : j = 17 := by omega
    have hv := st
    rw [dv_take_all (show bs.length ≤ 17 + 1 by omega)] at hv
    have h1 : dv (xa.take i) * dv bs + xa.getD i 0 * 65536 ^ i * dv bs = dv (xa.take (i + 1)) * dv bs := by
      rw [dv_take_succ]
      grind
    rw [h1] at hv
    have h2 : dv (xa.take (i + 1)) * dv bs < 65536 ^ (i + 1) * 65536 ^ 17 := by
      have hb8 := dv_lt hb
      rw [hbl] at hb8
      exact Nat.mul_lt_mul'' (dv_take_lt ha (i + 1)) hb8
    rw [← Nat.pow_add, show i + 1 + 17 = i + (17 + 1) by omega] at h2
    show (dat os (i + 17) + dat xa i * dat bs 17 + q) / 65536 = 0
    have hv' : dv (os.set (i + 17) ((dat os (i + 17) + dat xa i * dat bs 17 + q) % 65536)) + (dat os (i + 17) + dat xa i * dat bs 17 + q) / 65536 * 65536 ^ (i + (17 + 1)) = dv (xa.take (i + 1)) * dv bs := hv
    generalize (dat os (i + 17) + dat xa i * dat bs 17 + q) / 65536 = Q at *
    rcases Nat.eq_zero_or_pos Q with h0 | h0
    · exact h0
    · have := Nat.mul_le_mul_right (65536 ^ (i + (17 + 1))) h0
      omega
theorem TpqOH.bel {w wr : World} {xa bs : List Nat} {i : Nat} (h : TpqOH w wr xa bs i) : Below w.heap.size w wr := by
  obtain ⟨os, h⟩ := h
  exact h.bel
theorem TpqOH.fin {w wr : World} {xa bs : List Nat} {i : Nat} (h : TpqOH w wr xa bs i) (hi : 17 ≤ i) (ha : xa.length = 17) (_ : Dg bs) (_ : Dg xa) : Num wr (.slice (some ⟨w.heap.size, 0, none⟩) 35 35) (dv xa * dv bs) 35 := by
  obtain ⟨os, h⟩ := h
  have hv := h.val
  rw [dv_take_all (l := xa) (i := i) (by omega)] at hv
  have hr := h.db.row (by rw [h.len]; decide)
  rw [h.len] at hr
  exact ⟨os, hr, h.dg, hv, h.len⟩
set_option maxHeartbeats 4000000 in
set_option maxRecDepth 100000 in
theorem times_num35 (v u : Value) (x y : Nat) (w : World) (hv : Num w v x 17) (hu : Num w u y 17) :
    Calls Try.prog 39 #[v, u] w fun e w' => ∃ z, e = .returned z ∧ Num w' z (x * y) 35 ∧ Below w.heap.size w w' := by
  obtain ⟨xa, hva, hda, rfl, hal⟩ := hv
  obtain ⟨bs, hub, hdb, rfl, hbl⟩ := hu
  obtain ⟨Av, cv, rfl⟩ := hva.slice
  obtain ⟨Au, cu, rfl⟩ := hub.slice
  rw [hal] at hva
  rw [hbl] at hub
  rw [hal, hbl]
  have HV := Lib.hid hva
  have HU := Lib.hid hub
  have HDA := Lib.hid hda
  have HDB := Lib.hid hdb
  have HAL := Lib.hid hal
  have HBL := Lib.hid hbl
  have HS := Lib.hid (TpqOH.start w xa bs)
  have hmk := Try.mk35
  clear hva hub hda hdb hal hbl
  go_enter Try.func39, Try.ntmps39
  go_wp2_with fail
  go_loopw [6] (fun i wr => ∃ k : Nat, i = .int .i64 (k : Int) ∧ k ≤ 17 ∧ TpqOH w wr xa bs k) (fun i _ => 17 - (intOf i).toNat)
  case atStart => exact ⟨0, rfl, by omega, HS.out⟩
  case round =>
    obtain ⟨i, rfl, hi, hr⟩ := hrel
    have HR := Lib.hid hr
    clear hr
    by_cases hgo : i < 17
    · have HI := Lib.hid HR.out.inner
      have hbi : decide ((i : Int) < 17) = true := by simp; omega
      obtain ⟨wo, rfl⟩ : ∃ wo : World, wo = wr := ⟨_, rfl⟩
      go_wp2_with fail
      go_loopw [7, 8] (fun c k wr => ∃ q j : Nat, c = .int .u64 (q : Int) ∧ k = .int .i64 (j : Int) ∧ j ≤ 18 ∧ TpqIH w wr xa bs i j q) (fun _ k _ => 40 - (intOf k).toNat)
      case atStart => exact ⟨0, 0, rfl, rfl, by omega, HI.out⟩
      case round =>
        obtain ⟨q, j, rfl, rfl, hj, hr2⟩ := hrel
        by_cases hg2 : j < 17 ∨ 0 < q
        · obtain ⟨os, hr3⟩ := hr2
          have hj8 : j ≤ 17 := by
            rcases Nat.lt_or_ge j 18 with h | h
            · omega
            · have := hr3.q9 (by omega)
              omega
          have HVr := Lib.hid (HV.out.below hr3.bel (Nat.le_refl _))
          have HUr := Lib.hid (HU.out.below hr3.bel (Nat.le_refl _))
          have hcell := hr3.db.cell (i + j) (by rw [hr3.len]; omega)
          have hfr := hr3.db.fr (i + j)
          have hql := hr3.ql
          have hO : dat os (i + j) < 65536 := hr3.dg (i + j)
          obtain ⟨g, rfl, hca⟩ := HVr.out.get i (by rw [HAL.out]; exact hgo)
          have hA : dat xa i < 65536 := HDA.out i
          have hB : dat bs j < 65536 := HDB.out j
          have hP : dat xa i * dat bs j ≤ 4294836225 := Nat.mul_le_mul (show dat xa i ≤ 65535 by omega) (show dat bs j ≤ 65535 by omega)
          obtain ⟨P, hPe⟩ : ∃ P, P = dat xa i * dat bs j := ⟨_, rfl⟩
          have F1 : IntKind.u64.wrap ((dat xa i : Int) * (dat bs j : Int)) = (P : Int) := by
            rw [hPe, ← Int.natCast_mul]
            exact IntWalk.u64_in _ (by omega)
          have hPl : P ≤ 4294836225 := by rw [hPe]; exact hP
          have HPE := Lib.hid hPe
          have HR3 := Lib.hid hr3
          clear hr3 hP hPe hA hB
          go_wp2_with fail
          all_goals
            go_quiet ((go_at_call 46; exact Calls.quiet_of_same (at_q (.slice Au 17 cu) bs j _ HUr.out)))
            obtain ⟨W, hW⟩ : ∃ W, W = wr.drewN nq := ⟨_, rfl⟩
            have hcW : W.cell? ⟨w.heap.size, i + j, none⟩ = some (.int .u64 (dat os (i + j) : Int)) := by rw [hW]; exact hcell
            have hfW : W.frozen? ⟨w.heap.size, i + j, none⟩ = false := by rw [hW]; exact hfr
            have HW := Lib.hid (show Below wr.heap.size wr W by rw [hW]; exact below_drewN (Below.refl _ _) _)
            rw [← hW]
            clear hW hcell hfr hca
            go_wp2_with fail
            have hn := HR3.out.next HW.out HDA.out HDB.out HBL.out hgo hj8
            rw [← HPE.out, nat3_mod] at hn
            have HN := Lib.hid hn
            clear hn
            go_roundw
            case rel =>
              first
                | exact ⟨(dat os (i + j) + P + q) / 65536, j + 1, by rw [nat3_div], by simp, by omega, HN.out⟩
                | (repeat apply Exists.intro
                   refine ⟨?_, rfl⟩
                   exact ⟨(dat os (i + j) + P + q) / 65536, j + 1, by rw [nat3_div], by simp, by omega, HN.out⟩)
            case measure => simp [intOf]; omega
        · have hq0 : q = 0 := by omega
          subst hq0
          have HO := Lib.hid (TpqIH.outer hr2 (by omega) HBL.out)
          clear hr2
          go_wp2_with fail
          exact ⟨⟨i + 1, by simp, by omega, HO.out⟩, by simp [intOf]; omega⟩
    · go_wp2_with fail
      go_ret
      exact ⟨_, rfl, HR.out.fin (by omega) HAL.out HDB.out HDA.out, HR.out.bel⟩
end Go.Proofs.Ytmbpehhbfbmacaa
