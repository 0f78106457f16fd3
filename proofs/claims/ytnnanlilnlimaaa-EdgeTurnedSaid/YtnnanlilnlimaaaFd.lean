/- Proved here: may edges be (the program's May). Condition: edges that lie in memory. -/
import Derived.Test.YtnnanlilnlimaaaFc
import Derived.Test.YtnnanlilnlimaaaEg
namespace Go.Proofs.Ytnnanlilnlimaaa
open Go.RowKit

set_option maxHeartbeats 8000000 in
set_option maxRecDepth 100000 in
theorem pmay_any (A : Option Addr) (m c : Nat) (L : List Edg) (w : World) (hL : Edl w A m L) (hm : m ≤ 100000) :
    Calls Try.prog 11 #[.slice A m c] w fun e w' => e = .returned (.bool (mayB L)) ∧ Below w.heap.size w w' := by
  have hlen := hL.len
  by_cases h81 : 8192 < m
  · have e1 : decide (8192 < (m : Int)) = true := decide_eq_true (by omega)
    have HR := Lib.hid (show mayB L = false from by unfold mayB; rw [decide_eq_false (fun h => by have := h.1; omega), Bool.false_and])
    clear hL hlen
    go_enter Try.func11, Try.ntmps11
    go_wp2_with fail
    go_ret
    exact ⟨by rw [HR.out]; rfl, Below.refl _ _⟩
  have e1 : decide (8192 < (m : Int)) = false := decide_eq_false (by omega)
  have HL := Lib.hid hL
  have HN := Lib.hid (show ∀ i, i < m → ¬ oneE (eg L i) → mayB L = false from fun i hi h => by unfold mayB; rw [decide_eq_false (fun h2 => h (h2.2 i (by omega))), Bool.false_and])
  have HY := Lib.hid (show (∀ i, i < m → oneE (eg L i)) → mayB L = closed L from fun h => by unfold mayB; rw [decide_eq_true ⟨by omega, fun i hi => h i (by omega)⟩, Bool.true_and])
  have CC := Lib.hid (fun W (hb : Below w.heap.size w W) => pclosed_any A m c L W (hL.bel hb) hm)
  clear hL hlen
  go_enter Try.func11, Try.ntmps11
  go_wp2_with fail
  go_loopw [10] (fun i wr => ∃ k : Nat, i = .int .i64 (k : Int) ∧ k ≤ m ∧ (∀ i, i < k → oneE (eg L i)) ∧ Below w.heap.size w wr) (fun i _ => m - (intOf i).toNat)
  case atStart => exact ⟨0, rfl, Nat.zero_le _, fun i hi => by omega, Below.refl _ _⟩
  case round =>
    obtain ⟨k, rfl, hk, hok, hb⟩ := hrel
    have HB := Lib.hid hb
    by_cases hgo : k < m
    · obtain ⟨ad, rfl, c0, c1, c2, c3, c4, c5, c6, c7⟩ := HL.out.at_ hb hgo
      have HSU := Lib.hid (show oneE (eg L k) → ∀ i, i < k + 1 → oneE (eg L i) from all_succ hok)
      have HNk := Lib.hid (HN.out k hgo)
      obtain ⟨e, he⟩ : ∃ e, e = eg L k := ⟨_, rfl⟩
      rw [← he] at c0 c1 c2 c3 c4 c5 c6 c7 HSU HNk
      obtain ⟨ek, eq, ⟨ax, ay⟩, ⟨bx, by_⟩, ⟨cx, cy⟩⟩ := e
      dsimp only at c0 c1 c2 c3 c4 c5 c6 c7
      have HB0 := Lib.hid (HB.out.alloc HB.out.size (.cells #[.int .i64 ek, .bool eq, .int .i64 ax, .int .i64 ay, .int .i64 bx, .int .i64 by_, .int .i64 cx, .int .i64 cy] 43))
      have CO := Lib.hid (fun W => medge_any ek eq ax ay bx by_ cx cy W)
      clear he hok hb
      by_cases ho : oneE (ek, eq, (ax, ay), (bx, by_), (cx, cy))
      · rw [decide_eq_true ho] at CO
        have HX := Lib.hid (HSU.out ho)
        clear ho
        go_wp2_with (go_at_call 22; (with_reducible refine (CO.out _).mono ?_); rintro e w1 ⟨rfl, hb⟩; have HB1 := Lib.hid (HB0.out.trans (hb.mono HB0.out.size)); clear hb)
        exact ⟨⟨k + 1, by simp, by omega, HX.out, HB1.out⟩, by simp [intOf]; omega⟩
      · rw [decide_eq_false ho] at CO
        have HX := Lib.hid (HNk.out ho)
        clear ho
        go_wp2_with (go_at_call 22; (with_reducible refine (CO.out _).mono ?_); rintro e w1 ⟨rfl, hb⟩; have HB1 := Lib.hid (HB0.out.trans (hb.mono HB0.out.size)); clear hb)
        go_ret
        exact ⟨by rw [HX.out]; rfl, HB1.out⟩
    · obtain rfl : k = m := by omega
      have HX := Lib.hid (HY.out hok)
      clear hok hb
      go_wp2_with (go_at_call 12; (with_reducible refine (CC.out _ HB.out).mono ?_); rintro e w1 ⟨rfl, hb⟩; have HB1 := Lib.hid (HB.out.trans (hb.mono HB.out.size)); clear hb)
      go_ret
      exact ⟨by rw [HX.out]; rfl, HB1.out⟩
end Go.Proofs.Ytnnanlilnlimaaa
