/- Proved here: what the law's Few answers. Condition: shapes that lie in memory. -/
import Derived.Test.YtlfnagfcggmeaaaFA
namespace Go.Proofs.Ytlfnagfcggmeaaa
open Go.RowKit

/-- Few contours, of few points, and few parts. -/
def fewOne (s : Shp) : Prop := (s.1.length ≤ 10 ∧ s.2.length ≤ 10) ∧ ∀ j, j < s.1.length → (ct s.1 j).length ≤ 40
def FewS (SS : List Shp) : Prop := SS.length ≤ 20 ∧ ∀ i, i < SS.length → fewOne (sh SS i)
theorem FewS.lim {SS : List Shp} (h : FewS SS) : LimS SS := fun i hi => by
  obtain ⟨⟨h1, h2⟩, h3⟩ := h.2 i hi
  exact ⟨by omega, fun j hj => Nat.le_trans (h3 j hj) (by omega), by omega⟩
instance (s : Shp) : Decidable (fewOne s) := inferInstanceAs (Decidable ((s.1.length ≤ 10 ∧ s.2.length ≤ 10) ∧ ∀ j, j < s.1.length → (ct s.1 j).length ≤ 40))
instance (SS : List Shp) : Decidable (FewS SS) := inferInstanceAs (Decidable (SS.length ≤ 20 ∧ ∀ i, i < SS.length → fewOne (sh SS i)))
set_option maxHeartbeats 8000000 in
set_option maxRecDepth 100000 in
theorem few_any (A : Option Addr) (m c : Nat) (SS : List Shp) (w : World) (hP : Shl w A m SS) :
    Calls Try.prog 7 #[.slice A m c] w fun e w' => e = .returned (.bool (decide (FewS SS))) ∧ Below w.heap.size w w' := by
  have hlen := hP.len
  by_cases h20 : 20 < m
  · rw [decide_eq_false (show ¬ FewS SS from fun h => by have := h.1; omega)]
    clear hP hlen
    go_enter Try.func7, Try.ntmps7
    go_wp2_with fail
    go_ret
    exact ⟨rfl, Below.refl _ _⟩
  have HI := Lib.hid hP
  have HY := Lib.hid (show (∀ i, i < m → fewOne (sh SS i)) → decide (FewS SS) = true from fun h => decide_eq_true ⟨by omega, by rw [hlen]; exact h⟩)
  have HN := Lib.hid (show ∀ k, k < m → ¬ fewOne (sh SS k) → decide (FewS SS) = false from fun k hk h => decide_eq_false fun h2 => h (h2.2 k (by omega)))
  clear hP hlen
  go_enter Try.func7, Try.ntmps7
  go_wp2_with fail
  go_loopw [12] (fun i wr => ∃ k : Nat, i = .int .i64 (k : Int) ∧ k ≤ m ∧ (∀ i, i < k → fewOne (sh SS i)) ∧ Below w.heap.size w wr) (fun i _ => m - (intOf i).toNat)
  case atStart => exact ⟨0, rfl, Nat.zero_le _, fun i hi => by omega, Below.refl _ _⟩
  case round =>
    obtain ⟨k, rfl, hk, hok, hb⟩ := hrel
    have HB := Lib.hid hb
    by_cases hgo : k < m
    · obtain ⟨ad, B, c1, B', c1', rfl, d0, d1, hC, hP⟩ := HI.out.at_ hb hgo
      have HSU := Lib.hid (show fewOne (sh SS k) → ∀ i, i < k + 1 → fewOne (sh SS i) from all_succ hok)
      have HNk := Lib.hid (HN.out k hgo)
      obtain ⟨s, hs⟩ : ∃ s, s = sh SS k := ⟨_, rfl⟩
      rw [← hs] at d0 d1 hC hP HSU HNk
      obtain ⟨CC, PP⟩ := s
      dsimp only at d0 d1 hC hP
      have HX := Lib.hid (show Below w.heap.size w (wr.alloc (.cells #[.slice B CC.length c1, .slice B' PP.length c1'] 50)) from hb.alloc hb.size _)
      have HBx := Lib.hid (Bs.new wr B CC.length c1 B' PP.length c1')
      have HC := Lib.hid (hC.bel ((Below.refl wr.heap.size wr).alloc (Nat.le_refl _) (.cells #[.slice B CC.length c1, .slice B' PP.length c1'] 50)))
      have HO := Lib.hid (show ∀ j, (CC.length ≤ 10 ∧ PP.length ≤ 10) → j = CC.length → (∀ i, i < j → (ct CC i).length ≤ 40) → fewOne (CC, PP) from fun j h1 h2 h3 => ⟨h1, fun i hi => h3 i (by rw [h2]; exact hi)⟩)
      have HNo := Lib.hid (show ∀ j n1 n2, n1 = CC.length → n2 = PP.length → (10 < n1 ∨ 10 < n2 ∨ (j < n1 ∧ 40 < (ct CC j).length)) → ¬ fewOne (CC, PP) from fun j n1 n2 h1 h2 h => by
        rintro ⟨⟨f1, f2⟩, f3⟩
        dsimp only at f1 f2 f3
        rcases h with h | h | ⟨h, h'⟩
        · omega
        · omega
        · have := f3 j (by omega); omega)
      obtain ⟨n1, hn1⟩ : ∃ n, n = CC.length := ⟨_, rfl⟩
      obtain ⟨n2, hn2⟩ : ∃ n, n = PP.length := ⟨_, rfl⟩
      have HNo := Lib.hid (fun j h => HNk.out (HNo.out j n1 n2 hn1 hn2 h))
      rw [← hn1] at d0 HX HBx HC HO
      rw [← hn2] at d1 HX HBx HC HO
      clear hs hC hP hn1 hn2 hb hok
      by_cases c10 : 10 < n1
      · have HK := Lib.hid (HNo.out 0 (.inl c10))
        go_wp2_with fail
        go_ret
        exact ⟨by rw [HK.out]; rfl, HX.out⟩
      by_cases c20 : 10 < n2
      · have HK := Lib.hid (HNo.out 0 (.inr (.inl c20)))
        go_wp2_with fail
        go_ret
        exact ⟨by rw [HK.out]; rfl, HX.out⟩
      have e10 : decide (10 < (n1 : Int)) = false := decide_eq_false (by omega)
      have e20 : decide (10 < (n2 : Int)) = false := decide_eq_false (by omega)
      go_upto_region 6 with fail
      generalize wr.alloc (.cells #[.slice B n1 c1, .slice B' n2 c1'] 50) = W1 at HX HBx HC ⊢
      obtain ⟨x0, x1⟩ := HBx.out.cells
      go_wp2_with fail
      go_loopw [29] (fun v wi => ∃ j : Nat, v = .int .i64 (j : Int) ∧ j ≤ n1 ∧ (∀ i, i < j → (ct CC i).length ≤ 40) ∧ W1 = wi) (fun v _ => n1 - (intOf v).toNat)
      case atStart => exact ⟨0, rfl, Nat.zero_le _, fun i hi => by omega, rfl⟩
      case round =>
        obtain ⟨j, rfl, hj, hokj, rfl⟩ := hrel
        by_cases hgj : j < n1
        · obtain ⟨bd, D, c2, rfl, y0, _⟩ := HC.out.at_ (Below.refl _ _) hgj
          have HSj := Lib.hid (show (ct CC j).length ≤ 40 → ∀ i, i < j + 1 → (ct CC i).length ≤ 40 from all_succ hokj)
          have HNj := Lib.hid (show 40 < (ct CC j).length → decide (FewS SS) = false from fun h => HNo.out j (.inr (.inr ⟨hgj, h⟩)))
          obtain ⟨n, hn⟩ : ∃ n, n = (ct CC j).length := ⟨_, rfl⟩
          rw [← hn] at y0 HSj HNj
          clear hn hokj
          by_cases c40 : 40 < n
          · have HK := Lib.hid (HNj.out c40)
            go_wp2_with fail
            go_ret
            exact ⟨by rw [HK.out]; rfl, HX.out⟩
          · have HK := Lib.hid (HSj.out (by omega))
            go_wp2_with fail
            exact ⟨⟨j + 1, by simp, by omega, HK.out, by trivial⟩, by simp [intOf]; omega⟩
        · obtain rfl : n1 = j := by omega
          have HK := Lib.hid (HSU.out (HO.out n1 (by omega) rfl hokj))
          clear hokj
          go_wp2_with fail
          exact ⟨⟨k + 1, by simp, by omega, HK.out, HX.out⟩, by simp [intOf]; omega⟩
    · obtain rfl : m = k := by omega
      have HK := Lib.hid (HY.out hok)
      clear hok hb
      go_wp2_with fail
      go_ret
      exact ⟨by rw [HK.out]; rfl, HB.out⟩
end Go.Proofs.Ytlfnagfcggmeaaa
