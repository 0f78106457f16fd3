/- Proved here: whether contours may be, in the document; whether two lists of contours are the same, and what few answers. Condition: contours that lie in memory. -/
import Derived.Test.YtnnanlilnlimaaaPa
namespace Go.Proofs.Ytnnanlilnlimaaa
open Go.RowKit

set_option maxHeartbeats 4000000 in
theorem rmay_any (A : Option Addr) (m c : Nat) (LL : List (List Pt)) (w : World) (hP : Ctl w A m LL) (hm : m ≤ 1000) (hl : ∀ i, i < m → (ct LL i).length ≤ 5000) :
    Calls Try.prog 17 #[.slice A m c] w fun e w' => e = .returned (.bool (decide (MayG LL))) ∧ Below w.heap.size w w' := by
  have hlen := hP.len
  by_cases h256 : 256 < m
  · rw [decide_eq_false (show ¬ MayG LL from fun h => by have := h.1; omega)]
    clear hlen hP hl
    go_enter Try.func17, Try.ntmps17
    go_wp2_with fail
    go_ret
    exact ⟨rfl, Below.refl _ _⟩
  · have HY := Lib.hid (show (∀ i, i < m → okC LL i) → decide (MayG LL) = true from fun h => decide_eq_true ⟨by omega, by rw [hlen]; exact h⟩)
    have HN := Lib.hid (show ∀ k, k < m → ¬ okC LL k → decide (MayG LL) = false from fun k hk h => decide_eq_false fun h2 => h (h2.2 k (by omega)))
    have HI := Lib.hid hP
    have HL := Lib.hid hl
    clear hlen hP hl
    go_enter Try.func17, Try.ntmps17
    go_wp2_with fail
    go_loopw [3, 4] (fun v i wr => ∃ k : Nat, i = .int .i64 (k : Int) ∧ k ≤ m ∧ v = .int .i64 (tot LL k : Int) ∧ tot LL k ≤ 4096 ∧ (∀ i, i < k → okC LL i) ∧ Below w.heap.size w wr) (fun _ i _ => m - (intOf i).toNat)
    case atStart => exact ⟨0, rfl, Nat.zero_le _, rfl, by simp [tot], fun i hi => by omega, Below.refl _ _⟩
    case round =>
      obtain ⟨k, rfl, hk, rfl, ht, hok, hb⟩ := hrel
      have HB := Lib.hid hb
      have HOK := Lib.hid hok
      by_cases hgo : k < m
      · obtain ⟨a, B, c0, rfl, hc, hpt⟩ := HI.out.at_ hb hgo
        have HSU := Lib.hid (show okC LL k → ∀ i, i < k + 1 → okC LL i from all_succ hok)
        have HNK := Lib.hid (HN.out k hgo)
        have hn5 := HL.out k hgo
        have HO := Lib.hid (show okC LL k ↔ (1 ≤ (ct LL k).length ∧ tot LL k + (ct LL k).length ≤ 4096) ∧ ∀ j, j < (ct LL k).length → okP (ct LL k) j from Iff.rfl)
        have HT := Lib.hid (show tot LL (k + 1) = tot LL k + (ct LL k).length from rfl)
        have HC := Lib.hid (show ∀ W, Below wr.heap.size wr W → W.cell? (a.add k) = some (.slice B (ct LL k).length c0) from fun W hW => by
          obtain ⟨ad, B1, c1, e1, e2, e3, _⟩ := (HI.out.bel hb).get k hgo
          injection e1 with e1
          subst e1
          rw [hW.cell (by rw [block_of_add]; exact e2)]
          exact hc)
        obtain ⟨L, hL⟩ : ∃ L, L = ct LL k := ⟨_, rfl⟩
        rw [← hL] at hc hpt hn5 HO HT HC
        obtain ⟨n, hn⟩ : ∃ n, n = L.length := ⟨_, rfl⟩
        rw [← hn] at hc hpt hn5 HO HT HC
        obtain ⟨t, ht2⟩ : ∃ t, t = tot LL k := ⟨_, rfl⟩
        rw [← ht2] at ht HO HT ⊢
        have HPt := Lib.hid hpt
        have e1 : IntKind.i64.wrap ((t : Int) + (n : Int)) = ((t + n : Nat) : Int) := by rw [i64_in _ (by omega)]; omega
        obtain ⟨u, hu⟩ : ∃ u, u = t + n := ⟨_, rfl⟩
        have hun : n ≤ u := by omega
        rw [← hu] at e1 HO HT
        clear hb hok hpt hL hn ht2 hu ht
        by_cases hn0 : n = 0
        · have e2 : ((n : Int) == 0) = true := by simp [hn0]
          have HX := Lib.hid (HNK.out fun h => by have := HO.out.1 h; omega)
          clear hn0
          go_wp2_with fail
          go_ret
          exact ⟨by rw [HX.out]; rfl, HB.out⟩
        · have e2 : ((n : Int) == 0) = false := by simp [hn0]
          by_cases hn4 : 4096 < n
          · have HX := Lib.hid (HNK.out fun h => by have := HO.out.1 h; omega)
            clear hn0
            go_wp2_with fail
            go_ret
            exact ⟨by rw [HX.out]; rfl, HB.out⟩
          · by_cases hu4 : 4096 < u
            · have HX := Lib.hid (HNK.out fun h => by have := HO.out.1 h; omega)
              clear hn0
              go_wp2_with fail
              go_ret
              exact ⟨by rw [HX.out]; rfl, HB.out⟩
            · have hn1 := Lib.hid (show 1 ≤ n ∧ u ≤ 4096 by omega)
              clear hn0
              go_wp2_with fail
              clear hc
              go_loopw [5] (fun v wi => ∃ j : Nat, v = .int .i64 (j : Int) ∧ j ≤ n ∧ (∀ i, i < j → okP L i) ∧ Below wr.heap.size wr wi) (fun v _ => n - (intOf v).toNat)
              case atStart => exact ⟨0, rfl, Nat.zero_le _, fun i hi => by omega, Below.refl _ _⟩
              case round =>
                obtain ⟨j, rfl, hj, hokj, hbi⟩ := hrel
                have HBi := Lib.hid (HB.out.trans (hbi.mono HB.out.size))
                have HBj := Lib.hid hbi
                have HOKj := Lib.hid hokj
                have hc := HC.out _ hbi
                by_cases hgj : j < n
                · obtain ⟨b, rfl, d0, d1, d2⟩ := HPt.out.at_ hbi hgj
                  have HSj := Lib.hid (show okP L j → ∀ i, i < j + 1 → okP L i from all_succ hokj)
                  have HPj := Lib.hid (show okP L j ↔ (-32767 ≤ px L j ∧ px L j ≤ 32767) ∧ (-32767 ≤ py L j ∧ py L j ≤ 32767) from Iff.rfl)
                  have HNj := Lib.hid (show ¬ okP L j → decide (MayG LL) = false from fun h => HNK.out fun h2 => h ((HO.out.1 h2).2 j hgj))
                  obtain ⟨x, hx⟩ : ∃ x, x = px L j := ⟨_, rfl⟩
                  obtain ⟨y, hy⟩ : ∃ y, y = py L j := ⟨_, rfl⟩
                  obtain ⟨o, ho⟩ : ∃ o, o = po L j := ⟨_, rfl⟩
                  rw [← hx] at d0 HPj
                  rw [← hy] at d1 HPj
                  rw [← ho] at d2
                  clear hbi hokj hx hy ho
                  by_cases hx1 : x < -32767
                  · have HX := Lib.hid (HNj.out fun h => by have := HPj.out.1 h; omega)
                    go_wp2_with fail
                    go_ret
                    exact ⟨by rw [HX.out]; rfl, HBi.out.alloc HBi.out.size _⟩
                  · by_cases hx2 : 32767 < x
                    · have HX := Lib.hid (HNj.out fun h => by have := HPj.out.1 h; omega)
                      go_wp2_with fail
                      go_ret
                      exact ⟨by rw [HX.out]; rfl, HBi.out.alloc HBi.out.size _⟩
                    · by_cases hy1 : y < -32767
                      · have HX := Lib.hid (HNj.out fun h => by have := HPj.out.1 h; omega)
                        go_wp2_with fail
                        go_ret
                        exact ⟨by rw [HX.out]; rfl, HBi.out.alloc HBi.out.size _⟩
                      · by_cases hy2 : 32767 < y
                        · have HX := Lib.hid (HNj.out fun h => by have := HPj.out.1 h; omega)
                          go_wp2_with fail
                          go_ret
                          exact ⟨by rw [HX.out]; rfl, HBi.out.alloc HBi.out.size _⟩
                        · have HX := Lib.hid (HSj.out (HPj.out.2 (by omega)))
                          go_wp2_with fail
                          exact ⟨⟨j + 1, by simp, by omega, HX.out, HBj.out.alloc HBj.out.size _⟩, by simp [intOf]; omega⟩
                · obtain rfl : j = n := by omega
                  have HX := Lib.hid (HSU.out (HO.out.2 ⟨hn1.out, hokj⟩))
                  clear hbi hokj
                  go_wp2_with fail
                  exact ⟨⟨k + 1, by simp, by omega, by rw [HT.out], by rw [HT.out]; exact hn1.out.2, HX.out, HBi.out⟩, by simp [intOf]; omega⟩
      · obtain rfl : k = m := by omega
        have HX := Lib.hid (HY.out hok)
        clear hb hok
        go_wp2_with fail
        go_ret
        exact ⟨by rw [HX.out]; rfl, HB.out⟩
/-- Are there few contours, of few points each? -/
def FewG (LL : List (List Pt)) : Prop := (∀ i, i < LL.length → (ct LL i).length ≤ 100) ∧ LL.length ≤ 20
instance (LL : List (List Pt)) : Decidable (FewG LL) := inferInstanceAs (Decidable (_ ∧ _))
end Go.Proofs.Ytnnanlilnlimaaa
