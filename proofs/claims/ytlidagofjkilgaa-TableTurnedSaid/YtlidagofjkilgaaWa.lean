/- Proved here: whether two lists of tables are the same, as the document asks it; and that the statements' first call, awake, answers true. Condition: lists that lie in memory. -/
import Derived.Test.YtlidagofjkilgaaVe
namespace Go.Proofs.Ytlidagofjkilgaa
open Go.RowKit

set_option maxHeartbeats 4000000 in
theorem same_any (A A' : Option Addr) (m c c' : Nat) (L : List (List UInt8 × List UInt8)) (w : World) (h : Tl w A m L) (h' : Tl w A' m L) (hm : m ≤ 1000000) : Calls Try.prog 12 #[.slice A m c, .slice A' m c'] w fun e w' => e = .returned (.bool true) ∧ Below w.heap.size w w' := by
  have HX := Lib.hid h
  have HY := Lib.hid h'
  clear h h'
  go_enter Try.func12, Try.ntmps12
  go_wp2_with fail
  go_loopw [5] (fun i wr => ∃ k : Nat, i = .int .i64 (k : Int) ∧ k ≤ m ∧ Below w.heap.size w wr) (fun i _ => m - (intOf i).toNat)
  case atStart => exact ⟨0, rfl, Nat.zero_le _, Below.refl _ _⟩
  case round =>
    obtain ⟨k, rfl, hk, hb⟩ := hrel
    have HB := Lib.hid hb
    clear hb
    by_cases hgo : k < m
    · obtain ⟨ad, rfl, c0, c1⟩ := HX.out.at_ HB.out hgo
      obtain ⟨ad2, rfl, d0, d1⟩ := HY.out.at_ HB.out hgo
      obtain ⟨X, hX⟩ : ∃ X : ByteArray, X = ⟨(tg L k).toArray⟩ := ⟨_, rfl⟩
      obtain ⟨D, hDD⟩ : ∃ D : ByteArray, D = ⟨(dt L k).toArray⟩ := ⟨_, rfl⟩
      rw [← hX] at c0 d0
      rw [← hDD] at c1 d1
      clear hX hDD
      go_wp2_with fail
      go_quiet (fail)
      all_goals
        go_wp2_with fail
        exact ⟨⟨k + 1, by simp, by omega, below_drewN HB.out _⟩, by simp [intOf]; omega⟩
    · have hkm : k = m := by omega
      subst hkm
      go_wp2_with fail
      go_ret
      exact ⟨rfl, HB.out⟩
end Go.Proofs.Ytlidagofjkilgaa
