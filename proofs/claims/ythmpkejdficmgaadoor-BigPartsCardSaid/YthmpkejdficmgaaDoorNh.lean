/- Proved here: how math/bits.Div64 finds its two digits. Condition: numbers of 64 bits, the high one below the divisor. -/
import Derived.Test.YthmpkejdficmgaaDoorNg
import Derived.Test.YthmpkejdficmgaaDoorMd
import Derived.Laws.Bits64b
import Derived.IntWalk
import Derived.Deep.CutBlock
import Derived.Deep.DeepCutAuto
import Derived.Deep.CutRange
namespace Go.Proofs.YthmpkejdficmgaaDoor
open Go.RowKit

theorem lz_any (y s : Nat) (w : World) (hy : y < 18446744073709551616) (hs : s = 64 - Lib.bitLen y) (hb : Lib.bitLen y ≤ 64) :
    Calls Tryd.prog 75 #[.int .u64 (y : Int)] w fun e w' => e = .returned (.int .i64 (s : Int)) ∧ w = w' :=
  (Tryd.bits_LeadingZeros64 (y : Int) w (by omega) (by omega)).mono fun _ _ h => ⟨by rw [h.1, hs]; simp; omega, h.2.symm⟩
set_option maxHeartbeats 400000 in
theorem div64_small (lo y : Nat) (w : World) (hl : lo < 18446744073709551616) (hy : 0 < y) (hy' : y < 18446744073709551616) :
    Calls Tryd.prog 66 #[.int .u64 0, .int .u64 (lo : Int), .int .u64 (y : Int)] w fun e w' => e = .returned (.tuple #[.int .u64 ((lo / y : Nat) : Int), .int .u64 ((lo % y : Nat) : Int)]) ∧ ∃ n, w' = w.drewN n := by
  have h1 : ((y : Int) == 0) = false := by simp; omega
  have h2 : ¬ y ≤ 0 := by omega
  go_enter Tryd.func66, Tryd.ntmps66
  go_wp2_with fail
  go_quiet (fail)
  go_wp2_with fail
  have e : IntKind.u64.wrap ((lo : Int) / (y : Int)) = ((lo / y : Nat) : Int) := by
    have h4 : lo / y ≤ lo := Nat.div_le_self _ _
    have h5 : (lo : Int) / (y : Int) = ((lo / y : Nat) : Int) := by simp
    rw [h5]
    exact IntWalk.u64_in _ ⟨Int.natCast_nonneg _, by omega⟩
  go_ret2
  exact ⟨by rw [e]; simp, nq, rfl⟩
/-- What a product of 64 bits is where it doesn't go round. -/
theorem wrapN {x : Int} {n : Nat} (h : x = (n : Int)) (hn : n < 18446744073709551616) : IntKind.u64.wrap x = (n : Int) := by
  rw [h]
  exact IntWalk.u64_in _ ⟨Int.natCast_nonneg _, by omega⟩
/-- What holds at each round's head of a digit's search. -/
def KR (u y1 y0 d : Nat) (q r : Value) : Prop := ∃ qn rn : Nat, q = .int .u64 (qn : Int) ∧ r = .int .u64 (rn : Int) ∧ KnuthR u y1 y0 d qn rn
set_option maxHeartbeats 2000000 in
set_option maxRecDepth 100000 in
theorem div64_core (hi lo y s Y y1 y0 u v d1 d0 q1 r1 Q1 R1 q0 r0 Q0 R0 : Nat) (w : World) (hh : 0 < hi) (hyy : hi < y) (hs' : s ≤ 63)
    (hlz : Calls Tryd.prog 75 #[.int .u64 (y : Int)] w fun e w' => e = .returned (.int .i64 (s : Int)) ∧ w = w')
    (E1 : IntKind.u64.wrap ((y : Int) * 2 ^ s) = (Y : Int)) (E2 : (Y : Int) / 4294967296 = (y1 : Int)) (hy1 : 2147483648 ≤ y1) (hy1' : y1 < 4294967296) (hy0 : y0 < 4294967296)
    (E3 : bits .and .u64 (Y : Int) 4294967295 = (y0 : Int)) (E4 : bits .or .u64 (IntKind.u64.wrap ((hi : Int) * 2 ^ s)) ((lo : Int) / 2 ^ (64 - s)) = (u : Int))
    (E5 : IntKind.u64.wrap ((lo : Int) * 2 ^ s) = (v : Int)) (E6 : (v : Int) / 4294967296 = (d1 : Int)) (E7 : bits .and .u64 (v : Int) 4294967295 = (d0 : Int)) (hd1 : d1 < 4294967296) (hd0 : d0 < 4294967296)
    (E8 : IntKind.u64.wrap ((u : Int) / (y1 : Int)) = (q1 : Int)) (E9 : IntKind.u64.wrap ((u : Int) - IntKind.u64.wrap ((q1 : Int) * (y1 : Int))) = (r1 : Int)) (K1 : KnuthR u y1 y0 d1 q1 r1)
    (hu : u < y1 * 4294967296 + y0) (hQ1 : Q1 = (u * 4294967296 + d1) / (y1 * 4294967296 + y0))
    (E10 : IntKind.u64.wrap (IntKind.u64.wrap (IntKind.u64.wrap ((u : Int) * 4294967296) + (d1 : Int)) - IntKind.u64.wrap ((Q1 : Int) * (Y : Int))) = (R1 : Int))
    (E11 : IntKind.u64.wrap ((R1 : Int) / (y1 : Int)) = (q0 : Int)) (E12 : IntKind.u64.wrap ((R1 : Int) - IntKind.u64.wrap ((q0 : Int) * (y1 : Int))) = (r0 : Int)) (K0 : KnuthR R1 y1 y0 d0 q0 r0)
    (hR1 : R1 < y1 * 4294967296 + y0) (hQ0 : Q0 = (R1 * 4294967296 + d0) / (y1 * 4294967296 + y0))
    (E13 : IntKind.u64.wrap (IntKind.u64.wrap (IntKind.u64.wrap ((R1 : Int) * 4294967296) + (d0 : Int)) - IntKind.u64.wrap ((Q0 : Int) * (Y : Int))) = (R0 : Int)) :
    Calls Tryd.prog 66 #[.int .u64 (hi : Int), .int .u64 (lo : Int), .int .u64 (y : Int)] w fun e w' => e = .returned (.tuple #[.int .u64 (IntKind.u64.wrap (IntKind.u64.wrap ((Q1 : Int) * 4294967296) + (Q0 : Int))), .int .u64 ((R0 : Int) / 2 ^ s)]) ∧ w = w' := by
  have h1 : ((y : Int) == 0) = false := by simp; omega
  have h2 : ¬ y ≤ hi := by omega
  have h3 : ((hi : Int) == 0) = false := by simp; omega
  have HQ1 := Lib.hid hQ1
  have HQ0 := Lib.hid hQ0
  have HK1 := Lib.hid K1
  have HK0 := Lib.hid K0
  have HU := Lib.hid hu
  have HR := Lib.hid hR1
  have HZ := Lib.hid hlz
  clear hQ1 hQ0 K1 K0 hu hR1 hlz
  go_enter Tryd.func66, Tryd.ntmps66
  go_upto_block 0 with (go_at_call 75; (with_reducible refine HZ.out.mono ?_); rintro e w' ⟨rfl, rfl⟩)
  go_cut [15, 16] from 67 to 85 (fun q r wx => q = .int .u64 (Q1 : Int) ∧ w = wx)
  case first =>
    go_wp2_with fail
    clear E1 E2 E3 E4 E5 E6 E7 E8 E9 E10 E11 E12 E13
    go_loop [15, 16] (fun q r => KR u y1 y0 d1 q r) (fun q _ => (intOf q).toNat)
    case atStart => exact ⟨_, _, rfl, rfl, HK1.out⟩
    case round =>
      obtain ⟨q, r, rfl, rfl, hk⟩ := hrel
      have hql : (q : Int) ≤ 4294967297 := by have := hk.le; omega
      have hrl : (r : Int) < 4294967296 := by have := hk.rl; omega
      have hdl : (d1 : Int) < 4294967296 := by omega
      have P1 : Hid (q * y0 < 18446744073709551616) := by
        have := Nat.mul_le_mul hk.le (show y0 ≤ 4294967295 by omega)
        exact Nat.lt_of_le_of_lt this (by decide)
      obtain ⟨P, hP⟩ : ∃ P, P = q * y0 := ⟨_, rfl⟩
      have F1 : IntKind.u64.wrap ((q : Int) * (y0 : Int)) = (P : Int) := wrapN (by rw [hP]; simp) (by rw [hP]; exact P1.out)
      have HP := Lib.hid hP
      have HKq := Lib.hid hk
      have hyl : (2147483648 : Int) ≤ (y1 : Int) := by omega
      have hyu : (y1 : Int) < 4294967296 := by omega
      have HY := Lib.hid (And.intro hy0 (And.intro hd1 hy1))
      clear hP hk hy1 hy1' hy0 hd1 hd0
      by_cases hc3 : ¬ 4294967296 ≤ (q : Int) ∧ ¬ 4294967296 * (r : Int) + (d1 : Int) < (P : Int)
      · obtain ⟨hc, hc2⟩ := hc3
        go_wp2_with fail
        go_meet
        refine ⟨?_, rfl⟩
        have := knuth_end (d := d1) (y0 := y0) (by omega) HKq.out.ge HKq.out.eq (by have := HP.out; omega)
        rw [HQ1.out, ← this]
      · have hst := knuth_step HY.out.2.1 HU.out HKq.out (by rw [← HP.out]; omega)
        have hq1 : (1 : Int) ≤ (q : Int) := by have := hst.1; omega
        have HT := Lib.hid hst
        clear hst
        have hrel' : r + y1 < 4294967296 → KR u y1 y0 d1 (.int .u64 ((q : Int) - 1)) (.int .u64 ((r : Int) + (y1 : Int))) := fun h =>
          ⟨q - 1, r + y1, by congr 1; omega, by congr 1, ⟨HT.out.2.1, HT.out.2.2.1, by have := HT.out.2.2.2; omega, h⟩⟩
        have hfin : 4294967296 ≤ r + y1 → Value.int .u64 ((q : Int) - 1) = .int .u64 (Q1 : Int) := fun h => by
          have := knuth_end (d := d1) (y0 := y0) (by omega) HT.out.2.1 HT.out.2.2.1 (knuth_break HY.out.1 HT.out.2.2.2 h)
          rw [HQ1.out, ← this]
          congr 1
          omega
        have HREL := Lib.hid hrel'
        have HFIN := Lib.hid hfin
        clear hrel' hfin
        by_cases hb : ¬ 4294967296 ≤ (r : Int) + (y1 : Int)
        · by_cases hc : 4294967296 ≤ (q : Int)
          · clear hyl hyu F1 hdl
            go_wp2_with fail
            case roundEnd => exact ⟨HREL.out (by omega), by simp [intOf]; omega⟩
          · have hx : 4294967296 * (r : Int) + (d1 : Int) < (P : Int) := by omega
            go_wp2_with fail
            case roundEnd => exact ⟨HREL.out (by omega), by simp [intOf]; omega⟩
        · have hb2 : 4294967296 ≤ (r : Int) + (y1 : Int) := by omega
          clear hb
          by_cases hc : 4294967296 ≤ (q : Int)
          · clear hyl F1 hdl
            go_wp2_with fail
            go_meet
            exact ⟨HFIN.out (by omega), rfl⟩
          · have hx : 4294967296 * (r : Int) + (d1 : Int) < (P : Int) := by omega
            go_wp2_with fail
            go_meet
            exact ⟨HFIN.out (by omega), rfl⟩
  case rest =>
    obtain ⟨rfl, rfl⟩ := hcut
    go_upto_block 2 with fail
    go_cut [16, 18] from 102 to 120 (fun r q wx => q = .int .u64 (Q0 : Int) ∧ w = wx)
    case first =>
      go_wp2_with fail
      clear E1 E2 E3 E4 E5 E6 E7 E8 E9 E10 E11 E12 E13
      go_loop [16, 18] (fun r q => KR R1 y1 y0 d0 q r) (fun _ q => (intOf q).toNat)
      case atStart => exact ⟨_, _, rfl, rfl, HK0.out⟩
      case round =>
        obtain ⟨q, r, rfl, rfl, hk⟩ := hrel
        have hql : (q : Int) ≤ 4294967297 := by have := hk.le; omega
        have hrl : (r : Int) < 4294967296 := by have := hk.rl; omega
        have hdl : (d0 : Int) < 4294967296 := by omega
        have P1 : Hid (q * y0 < 18446744073709551616) := by
          have := Nat.mul_le_mul hk.le (show y0 ≤ 4294967295 by omega)
          exact Nat.lt_of_le_of_lt this (by decide)
        obtain ⟨P, hP⟩ : ∃ P, P = q * y0 := ⟨_, rfl⟩
        have F1 : IntKind.u64.wrap ((q : Int) * (y0 : Int)) = (P : Int) := wrapN (by rw [hP]; simp) (by rw [hP]; exact P1.out)
        have HP := Lib.hid hP
        have HKq := Lib.hid hk
        have hyl : (2147483648 : Int) ≤ (y1 : Int) := by omega
        have hyu : (y1 : Int) < 4294967296 := by omega
        have HY := Lib.hid (And.intro hy0 (And.intro hd0 hy1))
        clear hP hk hy1 hy1' hy0 hd1 hd0
        by_cases hc3 : ¬ 4294967296 ≤ (q : Int) ∧ ¬ 4294967296 * (r : Int) + (d0 : Int) < (P : Int)
        · obtain ⟨hc, hc2⟩ := hc3
          go_wp2_with fail
          go_meet
          refine ⟨?_, rfl⟩
          have := knuth_end (d := d0) (y0 := y0) (by omega) HKq.out.ge HKq.out.eq (by have := HP.out; omega)
          rw [HQ0.out, ← this]
        · have hst := knuth_step HY.out.2.1 HR.out HKq.out (by rw [← HP.out]; omega)
          have hq1 : (1 : Int) ≤ (q : Int) := by have := hst.1; omega
          have HT := Lib.hid hst
          clear hst
          have hrel' : r + y1 < 4294967296 → KR R1 y1 y0 d0 (.int .u64 ((q : Int) - 1)) (.int .u64 ((r : Int) + (y1 : Int))) := fun h =>
            ⟨q - 1, r + y1, by congr 1; omega, by congr 1, ⟨HT.out.2.1, HT.out.2.2.1, by have := HT.out.2.2.2; omega, h⟩⟩
          have hfin : 4294967296 ≤ r + y1 → Value.int .u64 ((q : Int) - 1) = .int .u64 (Q0 : Int) := fun h => by
            have := knuth_end (d := d0) (y0 := y0) (by omega) HT.out.2.1 HT.out.2.2.1 (knuth_break HY.out.1 HT.out.2.2.2 h)
            rw [HQ0.out, ← this]
            congr 1
            omega
          have HREL := Lib.hid hrel'
          have HFIN := Lib.hid hfin
          clear hrel' hfin
          by_cases hb : ¬ 4294967296 ≤ (r : Int) + (y1 : Int)
          · by_cases hc : 4294967296 ≤ (q : Int)
            · clear hyl hyu F1 hdl
              go_wp2_with fail
              case roundEnd => exact ⟨HREL.out (by omega), by simp [intOf]; omega⟩
            · have hx : 4294967296 * (r : Int) + (d0 : Int) < (P : Int) := by omega
              go_wp2_with fail
              case roundEnd => exact ⟨HREL.out (by omega), by simp [intOf]; omega⟩
          · have hb2 : 4294967296 ≤ (r : Int) + (y1 : Int) := by omega
            clear hb
            by_cases hc : 4294967296 ≤ (q : Int)
            · clear hyl F1 hdl
              go_wp2_with fail
              go_meet
              exact ⟨HFIN.out (by omega), rfl⟩
            · have hx : 4294967296 * (r : Int) + (d0 : Int) < (P : Int) := by omega
              go_wp2_with fail
              go_meet
              exact ⟨HFIN.out (by omega), rfl⟩
    case rest =>
      obtain ⟨rfl, rfl⟩ := hcut
      go_wp2_with fail
      go_ret2
      exact ⟨rfl, rfl⟩
end Go.Proofs.YthmpkejdficmgaaDoor
