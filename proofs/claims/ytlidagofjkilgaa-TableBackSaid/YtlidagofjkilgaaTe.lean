/- Proved here: what the document's numbers ahead of the rows are; whether tags rise and whether tables fit, in the program. Condition: 1 up to 64 rows; lists that lie in memory. -/
import Derived.Test.YtlidagofjkilgaaTd
namespace Go.Proofs.Ytlidagofjkilgaa
open Go.RowKit

set_option maxHeartbeats 2000000 in
theorem three_any (n : Nat) (w : World) (h0 : 0 < n) (h : n ≤ 64) : Calls Try.prog 25 #[.int .i64 (n : Int)] w fun e w' => e = .returned (.slice (some ⟨w.heap.size, 0, none⟩) 3 3) ∧
    w' = w.alloc (.cells #[.int .i64 ((16 * 2 ^ pw n : Nat) : Int), .int .i64 (pw n : Int), .int .i64 ((16 * n - 16 * 2 ^ pw n : Nat) : Int)] 3) := by
  have HP := Lib.hid (fun j (h1 : 2 ^ j ≤ n) (h2 : n < 2 ^ j * 2) => show j = pw n from by
    unfold pw
    exact ((Nat.log2_eq_iff (by omega)).2 ⟨h1, by rw [Nat.pow_succ]; exact h2⟩).symm)
  go_enter Try.func25, Try.ntmps25
  go_wp2_with fail
  go_loopw [3, 4] (fun v i wr => ∃ j : Nat, v = .int .i64 ((2 ^ j : Nat) : Int) ∧ i = .int .i64 (j : Int) ∧ 2 ^ j ≤ n ∧ j ≤ 2 ^ j ∧ wr = w) (fun v _ _ => n - (intOf v).toNat)
  case atStart => exact ⟨0, rfl, rfl, by simp; omega, by simp, rfl⟩
  case round =>
    obtain ⟨j, rfl, rfl, hj, hjp, rfl⟩ := hrel
    have hs : 2 ^ (j + 1) = 2 ^ j * 2 := Nat.pow_succ 2 j
    have hpos := Nat.two_pow_pos j
    have hq := HP.out j hj
    obtain ⟨P, hP⟩ : ∃ P, P = 2 ^ j := ⟨_, rfl⟩
    rw [← hP] at hs hpos hj hjp hq ⊢
    have HS := Lib.hid hs
    clear hs
    rcases Nat.lt_or_ge n (P * 2) with h2 | h2
    · have hd : decide ((P : Int) * 2 ≤ (n : Int)) = false := decide_eq_false (by omega)
      have HJ := Lib.hid (show 2 ^ pw n = P ∧ pw n = j from ⟨by rw [← hq h2]; exact hP.symm, (hq h2).symm⟩)
      have e1 : wrap64 (16 * (P : Int)) = ((16 * P : Nat) : Int) := by unfold wrap64; omega
      have e2 : wrap64 (16 * (n : Int)) = ((16 * n : Nat) : Int) := by unfold wrap64; omega
      have e3 : wrap64 (((16 * n : Nat) : Int) - ((16 * P : Nat) : Int)) = ((16 * n - 16 * P : Nat) : Int) := by unfold wrap64; omega
      have HE := Lib.hid (show 16 * (n : Int) - 16 * (P : Int) = ((16 * n - 16 * P : Nat) : Int) by omega)
      clear hq hP
      go_wp2_with fail
      go_ret
      rw [HJ.out.1, HJ.out.2]
      refine ⟨rfl, ?_⟩
      rw [← HE.out]
      simp
    · have hd : decide ((P : Int) * 2 ≤ (n : Int)) = true := decide_eq_true (by omega)
      clear hq hP
      go_wp2_with fail
      exact ⟨⟨j + 1, by rw [HS.out]; simp, by simp, by rw [HS.out]; exact h2, by rw [HS.out]; omega, by trivial⟩, by simp [intOf]; omega⟩
theorem risU_false {L : List (List UInt8 × List UInt8)} {k m : Nat} (h : risK L k = false) (hk : k < m) : risU L m = false := by
  cases hu : risU L m
  · rfl
  · unfold risU at hu
    rw [List.all_eq_true] at hu
    rw [hu k (List.mem_range.2 hk)] at h
    cases h
theorem leq_eq (x y : List UInt8) : (Op.bytesLess (⟨x.toArray⟩ : ByteArray).toList (⟨y.toArray⟩ : ByteArray).toList || ((⟨x.toArray⟩ : ByteArray).toList == (⟨y.toArray⟩ : ByteArray).toList)) = bLe x y := by
  rw [Lib.toList_data, Lib.toList_data]
  rfl
set_option maxHeartbeats 4000000 in
theorem rising_any (A : Option Addr) (m c : Nat) (L : List (List UInt8 × List UInt8)) (w : World) (h : Tl w A m L) (hm : m ≤ 1000000) (ht : ∀ i, i < m → (tg L i).length ≤ 1000000) :
    Calls Try.prog 14 #[.slice A m c] w fun e w' => e = .returned (.bool (risU L m)) ∧ Below w.heap.size w w' := by
  have HX := Lib.hid h
  have HT := Lib.hid ht
  clear h ht
  go_enter Try.func14, Try.ntmps14
  go_wp2_with fail
  go_loopw [7] (fun i wr => ∃ k : Nat, i = .int .i64 (k : Int) ∧ k ≤ m ∧ risU L k = true ∧ Below w.heap.size w wr) (fun i _ => m - (intOf i).toNat)
  case atStart => exact ⟨0, rfl, Nat.zero_le _, rfl, Below.refl _ _⟩
  case round =>
    obtain ⟨k, rfl, hk, hu, hb⟩ := hrel
    have HB := Lib.hid hb
    have HU := Lib.hid hu
    clear hb hu
    by_cases hgo : k < m
    · obtain ⟨ad, rfl, c0, c1⟩ := HX.out.at_ HB.out hgo
      have hlen := HT.out k hgo
      obtain ⟨X, hX⟩ : ∃ X : ByteArray, X = ⟨(tg L k).toArray⟩ := ⟨_, rfl⟩
      obtain ⟨D, hDD⟩ : ∃ D : ByteArray, D = ⟨(dt L k).toArray⟩ := ⟨_, rfl⟩
      have hl : X.data.toList = tg L k := by rw [hX]
      have hm1 := fun W => (may_any X W (by rw [hl]; omega)).mono fun _ _ h => And.intro h.1 h.2.symm
      rw [hl] at hm1
      rw [← hX] at c0
      rw [← hDD] at c1
      have hBA := Lib.hid (HB.out.alloc HB.out.size (.cells #[.string X, .string D] 25))
      cases hr : tagOK (tg L k)
      · rw [hr] at hm1
        have HF := Lib.hid (show risU L m = false from risU_false (by unfold risK; rw [hr]; rfl) hgo)
        have HM := Lib.hid hm1
        clear hr hX hDD hl hm1 hlen
        go_wp2_with fail
        go_quiet ((go_at_call 33; with_reducible exact Calls.quiet_of_same (HM.out _)))
        all_goals
          go_wp2_with fail
          go_ret
          exact ⟨by rw [HF.out]; rfl, below_drewN hBA.out _⟩
      · rw [hr] at hm1
        have HM := Lib.hid hm1
        by_cases hk0 : k = 0
        · have HS := Lib.hid (show risU L (k + 1) = true by rw [risU_succ, HU.out, hk0]; unfold risK; rw [← hk0, hr, hk0]; rfl)
          have d0 : ¬ 0 < k := by omega
          clear hr hX hDD hl hm1 hlen hk0
          go_wp2_with fail
          go_quiet ((go_at_call 33; with_reducible exact Calls.quiet_of_same (HM.out _)))
          all_goals
            go_wp2_with fail
            exact ⟨⟨k + 1, by simp, by omega, HS.out, below_drewN hBA.out _⟩, by simp [intOf]; omega⟩
        · obtain ⟨j, hj⟩ : ∃ j, j = k - 1 := ⟨_, rfl⟩
          have hr2 : risK L k = !bLe (tg L k) (tg L j) := by unfold risK; rw [hr, hj, decide_eq_true (show 0 < k by omega)]; simp
          obtain ⟨ad2, had2, b0, b1⟩ := HX.out.at_ hBA.out (i := j) (by omega)
          obtain ⟨rfl⟩ := had2
          have hle := leq_eq (tg L k) (tg L j)
          obtain ⟨Y, hY⟩ : ∃ Y : ByteArray, Y = ⟨(tg L j).toArray⟩ := ⟨_, rfl⟩
          rw [← hY] at b0 hle
          rw [← hX] at hle
          have d0 : 0 < k := by omega
          have e1 : (k : Int) - 1 = (j : Int) := by omega
          have e2 : IntKind.i64.wrap (j : Int) = (j : Int) := i64_in _ (by omega)
          have hjm : j < m := by omega
          cases hbl : bLe (tg L k) (tg L j)
          · rw [hbl] at hle hr2
            have HS := Lib.hid (show risU L (k + 1) = true by rw [risU_succ, HU.out, hr2]; rfl)
            clear hr hX hDD hl hm1 hr2 hY hbl hlen hj hk0
            go_wp2_with fail
            go_quiet ((go_at_call 33; with_reducible exact Calls.quiet_of_same (HM.out _)))
            all_goals
              go_wp2_with fail
              exact ⟨⟨k + 1, by simp, by omega, HS.out, below_drewN hBA.out _⟩, by simp [intOf]; omega⟩
          · rw [hbl] at hle hr2
            have HF := Lib.hid (show risU L m = false from risU_false (by rw [hr2]; rfl) hgo)
            clear hr hX hDD hl hm1 hr2 hY hbl hlen hj hk0
            go_wp2_with fail
            go_quiet ((go_at_call 33; with_reducible exact Calls.quiet_of_same (HM.out _)))
            all_goals
              go_wp2_with fail
              go_ret
              exact ⟨by rw [HF.out]; rfl, below_drewN hBA.out _⟩
    · have hkm : k = m := by omega
      subst hkm
      go_wp2_with fail
      go_ret
      exact ⟨by rw [HU.out]; rfl, HB.out⟩
end Go.Proofs.Ytlidagofjkilgaa
