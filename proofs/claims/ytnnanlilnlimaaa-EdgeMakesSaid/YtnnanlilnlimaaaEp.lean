/- Proved here: are there few contours of few points (the law's few). Condition: contours that lie in memory. -/
import Derived.Test.YtnnanlilnlimaaaEl
namespace Go.Proofs.Ytnnanlilnlimaaa
open Go.RowKit

def FewC (LL : List (List Pt)) : Prop := (∀ i, i < LL.length → (ct LL i).length ≤ 60) ∧ LL.length ≤ 20
instance (LL : List (List Pt)) : Decidable (FewC LL) := inferInstanceAs (Decidable (_ ∧ _))
set_option maxHeartbeats 4000000 in
set_option maxRecDepth 100000 in
theorem few_any (A : Option Addr) (m c : Nat) (LL : List (List Pt)) (w : World) (hP : Ctl w A m LL) (hm : m ≤ maxLen) : Calls Try.prog 7 #[.slice A m c] w fun e w' => e = .returned (.bool (decide (FewC LL))) ∧ Below w.heap.size w w' := by
  have hlen := hP.len
  have HI := Lib.hid hP
  have HN := Lib.hid (show ∀ i, i < m → ¬ (ct LL i).length ≤ 60 → decide (FewC LL) = false from fun i hi h => decide_eq_false fun h2 => h (h2.1 i (by omega)))
  have HY := Lib.hid (show (∀ i, i < m → (ct LL i).length ≤ 60) → decide (FewC LL) = decide (m ≤ 20) from fun h => decide_eq_decide.2 ⟨fun h2 => by have := h2.2; omega, fun h2 => ⟨fun i hi => h i (by omega), by omega⟩⟩)
  unfold maxLen at hm
  clear hP hlen
  go_enter Try.func7, Try.ntmps7
  go_wp2_with fail
  go_loopw [7] (fun i wr => ∃ k : Nat, i = .int .i64 (k : Int) ∧ k ≤ m ∧ (∀ i, i < k → (ct LL i).length ≤ 60) ∧ Below w.heap.size w wr) (fun i _ => m - (intOf i).toNat)
  case atStart => exact ⟨0, rfl, Nat.zero_le _, fun i hi => by omega, Below.refl _ _⟩
  case round =>
    obtain ⟨k, rfl, hk, hok, hb⟩ := hrel
    have HB := Lib.hid hb
    by_cases hgo : k < m
    · obtain ⟨ad, B, c1, rfl, d0, _⟩ := HI.out.at_ hb hgo
      have HSU := Lib.hid (show (ct LL k).length ≤ 60 → ∀ i, i < k + 1 → (ct LL i).length ≤ 60 from all_succ hok)
      have HNk := Lib.hid (HN.out k hgo)
      obtain ⟨n, hn⟩ : ∃ n, n = (ct LL k).length := ⟨_, rfl⟩
      rw [← hn] at d0 HSU HNk
      have w1 : IntKind.i64.wrap ((k : Int) + 1) = (k : Int) + 1 := i64_in _ (by omega)
      clear hok hb hn
      by_cases h6 : 60 < n
      · have e1 : decide (60 < (n : Int)) = true := decide_eq_true (by omega)
        have HX := Lib.hid (HNk.out (by omega))
        go_wp2_with fail
        go_ret
        exact ⟨by rw [HX.out]; rfl, HB.out⟩
      · have e1 : decide (60 < (n : Int)) = false := decide_eq_false (by omega)
        have HX := Lib.hid (HSU.out (by omega))
        go_wp2_with fail
        exact ⟨⟨k + 1, by simp, by omega, HX.out, HB.out⟩, by simp [intOf]; omega⟩
    · obtain rfl : k = m := by omega
      have HX := Lib.hid (HY.out hok)
      clear hok hb
      by_cases h2 : k ≤ 20
      · have e1 : decide ((k : Int) ≤ 20) = true := decide_eq_true (by omega)
        rw [decide_eq_true h2] at HX
        go_wp2_with fail
        go_ret
        exact ⟨by rw [HX.out]; rfl, HB.out⟩
      · have e1 : decide ((k : Int) ≤ 20) = false := decide_eq_false (by omega)
        rw [decide_eq_false h2] at HX
        go_wp2_with fail
        go_ret
        exact ⟨by rw [HX.out]; rfl, HB.out⟩
end Go.Proofs.Ytnnanlilnlimaaa
