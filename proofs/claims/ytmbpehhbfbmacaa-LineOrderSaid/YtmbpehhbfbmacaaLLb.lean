/- Proved here: what the document's digits, holds and level answer. Condition: numbers of eight or seventeen digits, a reach and steps as they may be. -/
import Derived.Test.YtmbpehhbfbmacaaLDRp
import Derived.Test.YtmbpehhbfbmacaaLDXa
import Derived.Test.YtmbpehhbfbmacaaLLa
import Derived.Test.YtmbpehhbfbmacaaLPAb
import Derived.IntWalk
namespace Go.Proofs.Ytmbpehhbfbmacaa
open Go.RowKit

theorem digs_any (n : Nat) (w : World) (hn : n < 18446744073709551616) : Calls Try.prog 24 #[.int .u64 (n : Int)] w fun e w' => ∃ z, e = .returned z ∧ Num w' z n 8 ∧ Below w.heap.size w w' := by
  have HD := Lib.hid (fun W => digits_lo n W hn)
  go_enter Try.func24, Try.ntmps24
  go_wp2_with (go_at_call 31; (with_reducible refine (HD.out _).mono ?_); rintro e w1 ⟨z, rfl, hz, hb⟩; have HZ := Lib.hid hz; have HB := Lib.hid hb; clear hz hb)
  go_ret
  exact ⟨z, rfl, HZ.out, HB.out⟩
/-- Times, of a number of 17 digits by one of 8 or 17. -/
abbrev TimOf (ls lo : Nat) : Prop := ∀ (W : World) (v u : Value) (x y : Nat), Num W v x 17 → Num W u y ls → Calls Try.prog 39 #[v, u] W fun e w' => ∃ z, e = .returned z ∧ Num w' z (x * y) lo ∧ Below W.heap.size W w'
theorem tim8 : TimOf 8 26 := fun W v u x y h1 h2 => times_num17 v u x y W h1 h2
theorem tim17 : TimOf 17 35 := fun W v u x y h1 h2 => times_num35 v u x y W h1 h2
theorem cmp_le (x y : Nat) : decide (cmpI x y ≤ 0) = decide (x ≤ y) := by
  unfold cmpI
  by_cases h1 : x < y
  · rw [if_pos h1, decide_eq_true (show x ≤ y by omega)]; rfl
  · rw [if_neg h1]
    by_cases h2 : y < x
    · rw [if_pos h2, decide_eq_false (show ¬ x ≤ y by omega)]; rfl
    · rw [if_neg h2, decide_eq_true (show x ≤ y by omega)]; rfl
set_option maxHeartbeats 1000000 in
theorem holds_any (v u : Value) (k s b r n ls lo : Nat) (w : World) (hv : Num w v s ls) (hu : Num w u b 8) (hT : TimOf ls lo) (hlo : lo ≤ 1000) (hk : k ≤ 256) (hr : r ≤ 1048576) (hn : n ≤ 255) :
    Calls Try.prog 37 #[.int .u64 (k : Int), v, u, .int .i64 (r : Int), .int .i64 (n : Int)] w fun e w' => e = .returned (.bool (decide (Hol s b r n k))) ∧ Below w.heap.size w w' := by
  have hkr : k * r ≤ 256 * 1048576 := Nat.mul_le_mul hk hr
  have HV := Lib.hid hv
  have HU := Lib.hid hu
  have HT := Lib.hid hT
  obtain ⟨q, hq⟩ : ∃ q, q = k * r := ⟨_, rfl⟩
  rw [← hq] at hkr
  have HK := Lib.hid (fun W => digs_any q W (by omega))
  have HN := Lib.hid (fun W => digs_any n W (by omega))
  have e1 : IntKind.u64.wrap (r : Int) = (r : Int) := IntWalk.u64_in _ (by omega)
  have e2 : IntKind.u64.wrap (n : Int) = (n : Int) := IntWalk.u64_in _ (by omega)
  have e3 : IntKind.u64.wrap ((k : Int) * (r : Int)) = (q : Int) := by
    rw [show (k : Int) * (r : Int) = (q : Int) by rw [hq]; simp]
    exact IntWalk.u64_in _ (by omega)
  have HE := Lib.hid (show ∀ x y, x = q * q * b → y = n * n * s → decide (cmpI x y ≤ 0) = decide (Hol s b r n k) from fun x y h1 h2 => by rw [cmp_le, h1, h2, hq]; rfl)
  clear hv hu hT hkr hq
  go_enter Try.func37, Try.ntmps37
  go_wp2_with (first
    | (go_at_call 24; (with_reducible refine (HK.out _).mono ?_); rintro e w1 ⟨z1, rfl, hz, hb⟩; have HB1 := Lib.hid hb; have Z1 := Lib.hid hz; have HV := Lib.hid (HV.out.below hb (Nat.le_refl _)); have HU := Lib.hid (HU.out.below hb (Nat.le_refl _)); clear hz hb)
    | (go_at_call 24; (with_reducible refine (HN.out _).mono ?_); rintro e w2 ⟨z2, rfl, hz, hb⟩; have HB2 := Lib.hid (HB1.out.trans (hb.mono HB1.out.size)); have Z2 := Lib.hid hz; have Z1 := Lib.hid (Z1.out.below hb (Nat.le_refl _)); have HV := Lib.hid (HV.out.below hb (Nat.le_refl _)); have HU := Lib.hid (HU.out.below hb (Nat.le_refl _)); clear hz hb)
    | (go_at_call 39; (with_reducible refine (times_num _ _ _ _ _ Z1.out Z1.out).mono ?_); rintro e w3 ⟨z3, rfl, hz, hb⟩; have HB3 := Lib.hid (HB2.out.trans (hb.mono HB2.out.size)); have Z3 := Lib.hid hz; have Z2 := Lib.hid (Z2.out.below hb (Nat.le_refl _)); have HV := Lib.hid (HV.out.below hb (Nat.le_refl _)); have HU := Lib.hid (HU.out.below hb (Nat.le_refl _)); clear hz hb)
    | (go_at_call 39; (with_reducible refine (tim8 _ _ _ _ _ Z3.out HU.out).mono ?_); rintro e w4 ⟨z4, rfl, hz, hb⟩; have HB4 := Lib.hid (HB3.out.trans (hb.mono HB3.out.size)); have Z4 := Lib.hid hz; have Z2 := Lib.hid (Z2.out.below hb (Nat.le_refl _)); have HV := Lib.hid (HV.out.below hb (Nat.le_refl _)); clear hz hb)
    | (go_at_call 39; (with_reducible refine (times_num _ _ _ _ _ Z2.out Z2.out).mono ?_); rintro e w5 ⟨z5, rfl, hz, hb⟩; have HB5 := Lib.hid (HB4.out.trans (hb.mono HB4.out.size)); have Z5 := Lib.hid hz; have Z4 := Lib.hid (Z4.out.below hb (Nat.le_refl _)); have HV := Lib.hid (HV.out.below hb (Nat.le_refl _)); clear hz hb)
    | (go_at_call 39; (with_reducible refine (HT.out _ _ _ _ _ Z5.out HV.out).mono ?_); rintro e w6 ⟨z6, rfl, hz, hb⟩; have HB6 := Lib.hid (HB5.out.trans (hb.mono HB5.out.size)); have Z6 := Lib.hid hz; have Z4 := Lib.hid (Z4.out.below hb (Nat.le_refl _)); clear hz hb)
    | (go_at_call 45; (with_reducible refine (less_num _ _ _ _ 26 lo _ Z4.out Z6.out (by decide) hlo).mono ?_); rintro e w7 ⟨rfl, rfl⟩))
  go_ret
  exact ⟨by rw [← HE.out _ _ rfl rfl]; rfl, HB6.out⟩
set_option maxHeartbeats 1000000 in
theorem level_any (v u : Value) (s b r n ls lo : Nat) (w : World) (hv : Num w v s ls) (hu : Num w u b 8) (hT : TimOf ls lo) (hlo : lo ≤ 1000) (hr : r ≤ 1048576) (hn : n ≤ 255) :
    Calls Try.prog 23 #[v, u, .int .i64 (r : Int), .int .i64 (n : Int)] w fun e w' => e = .returned (.int .i64 (lev s b r n : Int)) ∧ Below w.heap.size w w' := by
  have HC := Lib.hid (fun k (hk : k ≤ 256) W (hb : Below w.heap.size w W) => holds_any v u k s b r n ls lo W (hv.below hb (Nat.le_refl _)) (hu.below hb (Nat.le_refl _)) hT hlo hk hr hn)
  have HL := Lib.hid (show levG s b r n (n - 0) 0 = lev s b r n from rfl)
  obtain ⟨L, hL⟩ : ∃ L, L = lev s b r n := ⟨_, rfl⟩
  rw [← hL] at HL ⊢
  clear hv hu hT hL
  go_enter Try.func23, Try.ntmps23
  go_wp2_with fail
  go_loopw [9] (fun i wr => ∃ k : Nat, i = .int .i64 (k : Int) ∧ k ≤ n ∧ levG s b r n (n - k) k = L ∧ Below w.heap.size w wr) (fun i _ => n - (intOf i).toNat)
  case atStart => exact ⟨0, rfl, Nat.zero_le _, HL.out, Below.refl _ _⟩
  case round =>
    obtain ⟨k, rfl, hk, hg, hb⟩ := hrel
    have HB := Lib.hid hb
    have HG := Lib.hid hg
    clear hb hg
    by_cases hgo : k < n
    · have HH := Lib.hid (HC.out (k + 1) (by omega) wr HB.out)
      have e0 : IntKind.i64.wrap ((k : Int) + 1) = ((k + 1 : Nat) : Int) := by rw [IntWalk.i64_in _ (by omega)]; omega
      have e1 : IntKind.u64.wrap ((k + 1 : Nat) : Int) = ((k + 1 : Nat) : Int) := IntWalk.u64_in _ (by omega)
      obtain ⟨j, hj⟩ : ∃ j, j = k + 1 := ⟨_, rfl⟩
      rw [← hj] at HH e0 e1
      have HJ := Lib.hid hj
      have hs : levG s b r n (n - k) k = if Hol s b r n (k + 1) then levG s b r n (n - (k + 1)) (k + 1) else k := by
        rw [show n - k = (n - (k + 1)) + 1 by omega]; rfl
      by_cases hh : Hol s b r n j
      · rw [decide_eq_true hh] at HH
        rw [if_pos (by rw [← hj]; exact hh)] at hs
        have HS := Lib.hid hs
        clear hs hh hj
        go_wp2_with (go_at_call 37; (with_reducible refine HH.out.mono ?_); rintro e w1 ⟨rfl, hb⟩; have HB1 := Lib.hid (HB.out.trans (hb.mono HB.out.size)); clear hb)
        have hj := HJ.out
        exact ⟨⟨j, rfl, by omega, by rw [hj, ← HS.out]; exact HG.out, HB1.out⟩, by simp [intOf]; omega⟩
      · rw [decide_eq_false hh] at HH
        rw [if_neg (by rw [← hj]; exact hh)] at hs
        have HS := Lib.hid hs
        clear hs hh hj
        go_wp2_with (go_at_call 37; (with_reducible refine HH.out.mono ?_); rintro e w1 ⟨rfl, hb⟩; have HB1 := Lib.hid (HB.out.trans (hb.mono HB.out.size)); clear hb)
        go_ret
        exact ⟨by rw [← HG.out, HS.out]; rfl, HB1.out⟩
    · obtain rfl : k = n := by omega
      have hg := HG.out
      rw [Nat.sub_self] at hg
      have HG2 := Lib.hid (show k = L from hg)
      clear hg
      go_wp2_with fail
      go_ret
      exact ⟨by rw [← HG2.out]; rfl, HB.out⟩
end Go.Proofs.Ytmbpehhbfbmacaa
