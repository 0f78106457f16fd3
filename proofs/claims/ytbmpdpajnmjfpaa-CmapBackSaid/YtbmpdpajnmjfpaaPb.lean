/- Proved here: whether pairs may be, in the program and in the document. Condition: pairs that lie in memory. -/
import Derived.Test.YtbmpdpajnmjfpaaPa
namespace Go.Proofs.Ytbmpdpajnmjfpaa
open Go.RowKit

theorem glyphs_any (g : Int) (w : World) : Calls Try.prog 22 #[.int .i64 g] w fun e w' => e = .returned (.bool (decide (1 ≤ g ∧ g ≤ 1024))) ∧ w = w' := by
  by_cases h1 : 1 ≤ g
  · by_cases h2 : g ≤ 1024
    · rw [decide_eq_true ⟨h1, h2⟩]
      go_enter Try.func22, Try.ntmps22
      go_wp2_with fail
      go_ret
      exact ⟨rfl, rfl⟩
    · rw [decide_eq_false (fun h => h2 h.2)]
      go_enter Try.func22, Try.ntmps22
      go_wp2_with fail
      go_ret
      exact ⟨rfl, rfl⟩
  · rw [decide_eq_false (fun h => h1 h.1)]
    go_enter Try.func22, Try.ntmps22
    go_wp2_with fail
    go_ret
    exact ⟨rfl, rfl⟩
theorem ok_succ {L : List (Int × Int)} {g : Int} {k : Nat} (h : ∀ i, i < k → okAt L g i) (h1 : okAt L g k) : ∀ i, i < k + 1 → okAt L g i := by
  intro i hi
  rcases Nat.lt_or_ge i k with h2 | h2
  · exact h i h2
  · rw [show i = k by omega]; exact h1
set_option maxHeartbeats 4000000 in
theorem may_any (A : Option Addr) (m c : Nat) (L : List (Int × Int)) (g : Int) (w : World) (hP : Pl w A m L) :
    Calls Try.prog 8 #[.slice A m c, .int .i64 g] w fun e w' => e = .returned (.bool (decide (MayP L g))) ∧ Below w.heap.size w w' := by
  have hlen := hP.len
  have CG := Lib.hid (fun W => glyphs_any g W)
  by_cases hg : 1 ≤ g ∧ g ≤ 1024
  · rw [decide_eq_true hg] at CG
    by_cases hm : 4096 < m
    · rw [decide_eq_false (show ¬ MayP L g from fun h => by have := h.2.1; omega)]
      clear hlen hP hg
      go_enter Try.func8, Try.ntmps8
      go_wp2_with (go_at_call 22; (with_reducible refine (CG.out _).mono ?_); rintro e w1 ⟨rfl, rfl⟩)
      go_ret
      exact ⟨rfl, Below.refl _ _⟩
    · have HY := Lib.hid (show (∀ i, i < m → okAt L g i) → decide (MayP L g) = true from fun h => decide_eq_true ⟨hg, by omega, by rw [hlen]; exact h⟩)
      have HN := Lib.hid (show ∀ k, k < m → ¬ okAt L g k → decide (MayP L g) = false from fun k hk h => decide_eq_false fun h2 => h (h2.2.2 k (by omega)))
      have HI := Lib.hid hP
      have hm2 : m ≤ 4096 := by omega
      clear hlen hP hg hm
      go_enter Try.func8, Try.ntmps8
      go_wp2_with (go_at_call 22; (with_reducible refine (CG.out _).mono ?_); rintro e w1 ⟨rfl, rfl⟩)
      go_loopw [5, 18] (fun x i wr => ∃ k : Nat, i = .int .i64 (k : Int) ∧ k ≤ m ∧ x = .int .i64 (ahd L k) ∧ (∀ i, i < k → okAt L g i) ∧ Below w.heap.size w wr) (fun _ i _ => m - (intOf i).toNat)
      case atStart => exact ⟨0, rfl, Nat.zero_le _, rfl, fun i hi => by omega, Below.refl _ _⟩
      case round =>
        obtain ⟨k, rfl, hk, rfl, hok, hb⟩ := hrel
        have HB := Lib.hid hb
        have HOK := Lib.hid hok
        by_cases hgo : k < m
        · obtain ⟨a, rfl, c0, c1⟩ := HI.out.at_ hb hgo
          have HS := Lib.hid (show okAt L g k → ∀ i, i < k + 1 → okAt L g i from ok_succ hok)
          have HNK := Lib.hid (HN.out k hgo)
          have HAK := Lib.hid (show ahd L (k + 1) = cd L k from rfl)
          have HO := Lib.hid (show okAt L g k ↔ (ahd L k < cd L k ∧ cd L k ≤ 1114111 ∧ 1 ≤ gy L k ∧ gy L k < g) from Iff.rfl)
          obtain ⟨p, hp⟩ : ∃ p, p = ahd L k := ⟨_, rfl⟩
          obtain ⟨x, hx⟩ : ∃ x, x = cd L k := ⟨_, rfl⟩
          obtain ⟨y, hy⟩ : ∃ y, y = gy L k := ⟨_, rfl⟩
          rw [← hx] at c0 HO HAK
          rw [← hy] at c1 HO
          rw [← hp] at HO ⊢
          clear hb hok hp hx hy
          by_cases h0 : x ≤ p
          · have HX := Lib.hid (HNK.out fun h => by have := HO.out.1 h; omega)
            go_wp2_with fail
            go_ret
            refine ⟨by rw [HX.out]; rfl, HB.out.alloc HB.out.size _⟩
          · by_cases h1 : 1114111 < x
            · have HX := Lib.hid (HNK.out fun h => by have := HO.out.1 h; omega)
              go_wp2_with fail
              go_ret
              refine ⟨by rw [HX.out]; rfl, HB.out.alloc HB.out.size _⟩
            · by_cases h2 : y < 1
              · have HX := Lib.hid (HNK.out fun h => by have := HO.out.1 h; omega)
                go_wp2_with fail
                go_ret
                refine ⟨by rw [HX.out]; rfl, HB.out.alloc HB.out.size _⟩
              · by_cases h3 : g ≤ y
                · have HX := Lib.hid (HNK.out fun h => by have := HO.out.1 h; omega)
                  go_wp2_with fail
                  go_ret
                  refine ⟨by rw [HX.out]; rfl, HB.out.alloc HB.out.size _⟩
                · have HX := Lib.hid (HS.out (HO.out.2 (by omega)))
                  go_wp2_with fail
                  exact ⟨⟨k + 1, by simp, by omega, by rw [HAK.out], HX.out, HB.out.alloc HB.out.size _⟩, by simp [intOf]; omega⟩
        · obtain rfl : k = m := by omega
          have HX := Lib.hid (HY.out hok)
          clear hb hok
          go_wp2_with fail
          go_ret
          exact ⟨by rw [HX.out]; rfl, HB.out⟩
  · rw [decide_eq_false hg] at CG
    rw [decide_eq_false (show ¬ MayP L g from fun h => hg h.1)]
    clear hlen hP hg
    go_enter Try.func8, Try.ntmps8
    go_wp2_with (go_at_call 22; (with_reducible refine (CG.out _).mono ?_); rintro e w1 ⟨rfl, rfl⟩)
    go_ret
    exact ⟨rfl, Below.refl _ _⟩
end Go.Proofs.Ytbmpdpajnmjfpaa
