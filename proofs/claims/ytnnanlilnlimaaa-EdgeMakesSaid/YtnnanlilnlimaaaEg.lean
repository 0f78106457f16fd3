/- Proved here: may edges be (the document's May). Condition: edges that lie in memory. -/
import Derived.Test.YtnnanlilnlimaaaEf
namespace Go.Proofs.Ytnnanlilnlimaaa
open Go.RowKit

def mayB (L : List Edg) : Bool := decide (L.length ≤ 8192 ∧ ∀ i, i < L.length → oneE (eg L i)) && closed L
theorem mayB_iff (L : List Edg) : mayB L = true ↔ MayE L := by
  unfold mayB MayE
  rw [Bool.and_eq_true, decide_eq_true_iff, closed_iff, and_assoc]
set_option maxHeartbeats 8000000 in
set_option maxRecDepth 100000 in
theorem emay_any (A : Option Addr) (m c : Nat) (L : List Edg) (w : World) (hL : Edl w A m L) (hm : m ≤ 100000) :
    Calls Try.prog 16 #[.slice A m c] w fun e w' => e = .returned (.bool (mayB L)) ∧ Below w.heap.size w w' := by
  have hlen := hL.len
  by_cases h81 : 8192 < m
  · have e1 : decide (8192 < (m : Int)) = true := decide_eq_true (by omega)
    have HR := Lib.hid (show mayB L = false from by unfold mayB; rw [decide_eq_false (fun h => by have := h.1; omega), Bool.false_and])
    clear hL hlen
    go_enter Try.func16, Try.ntmps16
    go_wp2_with fail
    go_ret
    exact ⟨by rw [HR.out]; rfl, Below.refl _ _⟩
  have e1 : decide (8192 < (m : Int)) = false := decide_eq_false (by omega)
  have HL := Lib.hid hL
  have HN := Lib.hid (show ∀ i, i < m → ¬ oneE (eg L i) → mayB L = false from fun i hi h => by unfold mayB; rw [decide_eq_false (fun h2 => h (h2.2 i (by omega))), Bool.false_and])
  have HY := Lib.hid (show (∀ i, i < m → oneE (eg L i)) → mayB L = closed L from fun h => by unfold mayB; rw [decide_eq_true ⟨by omega, fun i hi => h i (by omega)⟩, Bool.true_and])
  have CC := Lib.hid (fun W (hb : Below w.heap.size w W) => closed_any A m c L W (hL.bel hb) hm)
  clear hL hlen
  go_enter Try.func16, Try.ntmps16
  go_wp2_with fail
  go_loopw [3] (fun i wr => ∃ k : Nat, i = .int .i64 (k : Int) ∧ k ≤ m ∧ (∀ i, i < k → oneE (eg L i)) ∧ Below w.heap.size w wr) (fun i _ => m - (intOf i).toNat)
  case atStart => exact ⟨0, rfl, Nat.zero_le _, fun i hi => by omega, Below.refl _ _⟩
  case round =>
    obtain ⟨k, rfl, hk, hok, hb⟩ := hrel
    have HB := Lib.hid hb
    by_cases hgo : k < m
    · obtain ⟨ad, rfl, c0, c1, c2, c3, c4, c5, c6, c7⟩ := HL.out.at_ hb hgo
      have HSU := Lib.hid (show oneE (eg L k) → ∀ i, i < k + 1 → oneE (eg L i) from all_succ hok)
      have HNk := Lib.hid (HN.out k hgo)
      obtain ⟨e, he⟩ : ∃ e, e = eg L k := ⟨_, rfl⟩
      rw [← he] at c0 c1 c2 c3 c4 c5 c6 c7 HSU HNk
      obtain ⟨ek, eq, ⟨ax, ay⟩, ⟨bx, by_⟩, ⟨cx, cy⟩⟩ := e
      dsimp only at c0 c1 c2 c3 c4 c5 c6 c7
      have CO := Lib.hid (one_any ek eq ax ay bx by_ cx cy wr)
      clear he hok hb
      by_cases ho : oneE (ek, eq, (ax, ay), (bx, by_), (cx, cy))
      · rw [decide_eq_true ho] at CO
        have HX := Lib.hid (HSU.out ho)
        clear ho
        go_wp2_with (go_at_call 24; (with_reducible refine CO.out.mono ?_); rintro e w1 ⟨rfl, hb⟩; have HB1 := Lib.hid (HB.out.trans (hb.mono HB.out.size)); clear hb)
        exact ⟨⟨k + 1, by simp, by omega, HX.out, HB1.out⟩, by simp [intOf]; omega⟩
      · rw [decide_eq_false ho] at CO
        have HX := Lib.hid (HNk.out ho)
        clear ho
        go_wp2_with (go_at_call 24; (with_reducible refine CO.out.mono ?_); rintro e w1 ⟨rfl, hb⟩; have HB1 := Lib.hid (HB.out.trans (hb.mono HB.out.size)); clear hb)
        go_ret
        exact ⟨by rw [HX.out]; rfl, HB1.out⟩
    · obtain rfl : k = m := by omega
      have HX := Lib.hid (HY.out hok)
      clear hok hb
      go_wp2_with (go_at_call 15; (with_reducible refine (CC.out _ HB.out).mono ?_); rintro e w1 ⟨rfl, hb⟩; have HB1 := Lib.hid (HB.out.trans (hb.mono HB.out.size)); clear hb)
      go_ret
      exact ⟨by rw [HX.out]; rfl, HB1.out⟩
end Go.Proofs.Ytnnanlilnlimaaa
