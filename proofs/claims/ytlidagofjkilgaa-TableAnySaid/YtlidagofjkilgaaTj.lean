/- Proved here: what the document's Make answers of tables that may not be. Condition: a list that lies in memory, of up to 10^6 tables, of tags and bytes of up to 900000 each. -/
import Derived.Test.YtlidagofjkilgaaTi
namespace Go.Proofs.Ytlidagofjkilgaa
open Go.RowKit

theorem body_max {L : List (List UInt8 × List UInt8)} (hd : ∀ i, i < L.length → (dt L i).length ≤ 900000) : ∀ j, j ≤ L.length → (body (L.take j)).length ≤ 1000000 * j
  | 0, _ => Nat.le_refl _
  | j + 1, h => by
    have h1 := body_max hd j (by omega)
    have h2 := hd j (by omega)
    rw [body_next (by omega), List.length_append, blk_len]
    have : padn (dt L j).length < 4 := by unfold padn; omega
    omega
set_option maxHeartbeats 8000000 in
theorem rmake_none (A : Option Addr) (m c : Nat) (L : List (List UInt8 × List UInt8)) (w : World) (h : Tl w A m L) (hm : m ≤ 1000000) (hd : ∀ i, i < m → (dt L i).length ≤ 900000) (hE : mkE L ≠ 0) :
    Calls Try.prog 8 #[.slice A m c] w fun e w' => e = .returned (.tuple #[.string ⟨#[]⟩, .int .i64 (mkE L)]) ∧ Below w.heap.size w w' := by
  have hl := h.len
  have HX := Lib.hid h
  have HD := Lib.hid hd
  have HL := Lib.hid hl
  have HBM := Lib.hid (fun j (hj : j ≤ m) => body_max (L := L) (fun i hi => hd i (by omega)) j (by omega))
  by_cases h0 : m = 0
  · have HE := Lib.hid (show mkE L = 1 by unfold mkE; rw [if_pos (.inl (by omega))])
    have e0 : ((m : Int) == 0) = true := by simp; omega
    clear h hl h0 hE hd
    go_enter Try.func8, Try.ntmps8
    go_wp2_with fail
    go_ret2
    exact ⟨(by rw [HE.out] <;> rfl), Below.refl _ _⟩
  have e0 : ((m : Int) == 0) = false := by simp; omega
  have HE1 := Lib.hid (show risU L m = false → mkE L = 1 from fun h => by unfold mkE; rw [if_pos (.inr (by rw [hl]; exact h))])
  have HE6 := Lib.hid (show risU L m = true → mkE L = 6 ∧ (64 < m ∨ 1048576 < szF L) from fun hri => by
    unfold mkE at hE ⊢
    rw [if_neg (by rw [hl, hri]; rintro (h | h) <;> first | omega | cases h)] at hE ⊢
    by_cases h6 : 64 < L.length ∨ 1048576 < szF L
    · rw [if_pos h6, ← hl]; exact ⟨rfl, h6⟩
    · rw [if_neg h6] at hE; exact absurd rfl hE)
  clear h hl h0 hE hd
  go_enter Try.func8, Try.ntmps8
  go_wp2_with fail
  go_loopw [5] (fun i wr => ∃ k : Nat, i = .int .i64 (k : Int) ∧ k ≤ m ∧ risU L k = true ∧ Below w.heap.size w wr) (fun i _ => m - (intOf i).toNat)
  case atStart => exact ⟨0, rfl, Nat.zero_le _, rfl, Below.refl _ _⟩
  case round =>
    obtain ⟨k, rfl, hk, hu, hb⟩ := hrel
    have HB := Lib.hid hb
    have HU := Lib.hid hu
    clear hb hu
    by_cases hgo : k < m
    · obtain ⟨ad, rfl, c0, c1⟩ := HX.out.at_ HB.out hgo
      obtain ⟨X, hX⟩ : ∃ X : ByteArray, X = ⟨(tg L k).toArray⟩ := ⟨_, rfl⟩
      have hl : X.data.toList = tg L k := by rw [hX]
      have hm1 := fun W => (rtag_any X W).mono fun _ _ h => And.intro h.1 h.2.symm
      rw [hl] at hm1
      rw [← hX] at c0
      clear c1
      cases hr : tagOK (tg L k)
      · rw [hr] at hm1
        have HF := Lib.hid (show risU L m = false from risU_false (by unfold risK; rw [hr]; rfl) hgo)
        have HM := Lib.hid hm1
        clear hr hX hl hm1
        go_wp2_with fail
        go_quiet ((go_at_call 23; with_reducible exact Calls.quiet_of_same (HM.out _)))
        all_goals
          go_wp2_with fail
          go_ret2
          exact ⟨(by rw [HE1.out HF.out] <;> rfl), below_drewN HB.out _⟩
      · rw [hr] at hm1
        have HM := Lib.hid hm1
        by_cases hk0 : k = 0
        · have HS := Lib.hid (show risU L (k + 1) = true by rw [risU_succ, HU.out, hk0]; unfold risK; rw [← hk0, hr, hk0]; rfl)
          have d0 : ¬ 0 < k := by omega
          clear hr hX hl hm1 hk0
          go_wp2_with fail
          go_quiet ((go_at_call 23; with_reducible exact Calls.quiet_of_same (HM.out _)))
          all_goals
            go_wp2_with fail
            exact ⟨⟨k + 1, by simp, by omega, HS.out, below_drewN HB.out _⟩, by simp [intOf]; omega⟩
        · obtain ⟨j, hj⟩ : ∃ j, j = k - 1 := ⟨_, rfl⟩
          have hr2 : risK L k = !bLe (tg L k) (tg L j) := by unfold risK; rw [hr, hj, decide_eq_true (show 0 < k by omega)]; simp
          obtain ⟨ad2, had2, b0, b1⟩ := HX.out.at_ HB.out (i := j) (by omega)
          obtain ⟨rfl⟩ := had2
          clear b1
          have hle := leq_eq (tg L k) (tg L j)
          obtain ⟨Y, hY⟩ : ∃ Y : ByteArray, Y = ⟨(tg L j).toArray⟩ := ⟨_, rfl⟩
          rw [← hY] at b0 hle
          rw [← hX] at hle
          have d0 : 0 < k := by omega
          have e1 : (k : Int) - 1 = (j : Int) := by omega
          have e2 : IntKind.i64.wrap (j : Int) = (j : Int) := i64_in _ (by omega)
          have hjm : j < m := by omega
          cases hbl : bLe (tg L k) (tg L j)
          · rw [hbl] at hle hr2
            have HS := Lib.hid (show risU L (k + 1) = true by rw [risU_succ, HU.out, hr2]; rfl)
            clear hr hX hl hm1 hr2 hY hbl hj hk0
            go_wp2_with fail
            go_quiet ((go_at_call 23; with_reducible exact Calls.quiet_of_same (HM.out _)))
            all_goals
              go_wp2_with fail
              exact ⟨⟨k + 1, by simp, by omega, HS.out, below_drewN HB.out _⟩, by simp [intOf]; omega⟩
          · rw [hbl] at hle hr2
            have HF := Lib.hid (show risU L m = false from risU_false (by rw [hr2]; rfl) hgo)
            clear hr hX hl hm1 hr2 hY hbl hj hk0
            go_wp2_with fail
            go_quiet ((go_at_call 23; with_reducible exact Calls.quiet_of_same (HM.out _)))
            all_goals
              go_wp2_with fail
              go_ret2
              exact ⟨(by rw [HE1.out HF.out] <;> rfl), below_drewN HB.out _⟩
    · have hkm : k = m := by omega
      subst hkm
      have HE := Lib.hid (HE6.out HU.out)
      go_wp2_with fail
      go_loopw [6, 7] (fun v i wi => ∃ j q : Nat, i = .int .i64 (j : Int) ∧ j ≤ k ∧ v = .int .i64 (q : Int) ∧ q = 12 + 16 * k + (body (L.take j)).length ∧ wi = wr) (fun _ i _ => k - (intOf i).toNat)
      case atStart => exact ⟨0, 12 + 16 * k, rfl, Nat.zero_le _, by congr 1 <;> (first | omega | (unfold wrap64; omega)), rfl, rfl⟩
      case round =>
        obtain ⟨j, q, rfl, hj, rfl, hq, rfl⟩ := hrel
        by_cases hgo2 : j < k
        · obtain ⟨ad, rfl, c0, c1⟩ := HX.out.at_ HB.out hgo2
          have hn := HD.out j hgo2
          have hnx := body_next (L := L) (i := j) (by have := HL.out; omega)
          have hup := blk_up (dt L j)
          have hmx := HBM.out j hj
          have hn1 := congrArg List.length hnx
          rw [List.length_append] at hn1
          obtain ⟨D, hDD⟩ : ∃ D : ByteArray, D = ⟨(dt L j).toArray⟩ := ⟨_, rfl⟩
          have hz : D.size = (dt L j).length := by rw [hDD]; exact List.size_toArray
          obtain ⟨n, hnn⟩ : ∃ n, n = (dt L j).length := ⟨_, rfl⟩
          rw [← hnn] at hz hup hn
          rw [← hDD] at c1
          obtain ⟨q4, hq4⟩ : ∃ q4, q4 = (n + 3) / 4 := ⟨_, rfl⟩
          have w1 : IntKind.i64.wrap (((n : Int) + 3).tdiv 4) = (q4 : Int) := by rw [Int.tdiv_eq_ediv_of_nonneg (by omega), i64_in _ (by omega)]; omega
          have w2 : ((n : Int) + 3).tdiv 4 = (q4 : Int) := by rw [Int.tdiv_eq_ediv_of_nonneg (by omega)]; omega
          have w3 : ((n : Int) + 3) / 4 = (q4 : Int) := by omega
          have HQ := Lib.hid (show q + q4 * 4 = 12 + 16 * k + (body (L.take (j + 1))).length by omega)
          have hq5 : q4 ≤ 1000000000 := by omega
          have hq6 : q ≤ 1000000000000000 := by omega
          clear hnx hup hmx hn1 hDD hnn hq4 c0 hq
          go_wp2_with fail
          exact ⟨⟨j + 1, q + q4 * 4, by simp, by omega, by congr 1 <;> (first | omega | (unfold wrap64; omega)), HQ.out, by trivial⟩, by simp [intOf]; omega⟩
        · have hjm : j = k := by omega
          subst hjm
          have HQ := Lib.hid (show 64 < j ∨ (¬ 64 < j ∧ 1048576 < q) by
            rcases HE.out.2 with h | h
            · exact .inl h
            · by_cases h6 : 64 < j
              · exact .inl h6
              · refine .inr ⟨h6, ?_⟩
                have h7 : L.take j = L := by rw [← HL.out, List.take_length]
                rw [h7] at hq
                unfold szF at h
                rw [HL.out] at h
                omega)
          clear hq
          rcases HQ.out with h6 | ⟨h6, h7⟩
          · go_wp2_with fail
            go_ret2
            exact ⟨(by rw [HE.out.1] <;> rfl), HB.out⟩
          · go_wp2_with fail
            go_ret2
            exact ⟨(by rw [HE.out.1] <;> rfl), HB.out⟩
end Go.Proofs.Ytlidagofjkilgaa
