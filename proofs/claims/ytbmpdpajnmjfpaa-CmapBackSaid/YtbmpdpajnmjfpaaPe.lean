/- Proved here: the first pair of a code, in the program. Condition: pairs whose codes rise. -/
import Derived.Test.YtbmpdpajnmjfpaaPd
namespace Go.Proofs.Ytbmpdpajnmjfpaa
open Go.RowKit

theorem rise_le {L : List (Int × Int)} (h : ∀ i, i + 1 < L.length → cd L i < cd L (i + 1)) : ∀ j i, i ≤ j → j < L.length → cd L i ≤ cd L j
  | 0, i, h1, _ => by rw [show i = 0 by omega]; exact Int.le_refl _
  | j + 1, i, h1, h2 => by
    rcases Nat.lt_or_ge i (j + 1) with h3 | h3
    · have := rise_le h j i (by omega) (by omega)
      have := h j h2
      omega
    · rw [show i = j + 1 by omega]; exact Int.le_refl _
theorem MayP.rise {L : List (Int × Int)} {g : Int} (h : MayP L g) : ∀ i, i + 1 < L.length → cd L i < cd L (i + 1) := fun i hi => (h.2.2 (i + 1) hi).1
set_option maxHeartbeats 1000000 in
theorem find_any (A : Option Addr) (m c : Nat) (L : List (Int × Int)) (t : Int) (w : World) (h : Pl w A m L) (hm : m ≤ 1000000) (hr : ∀ i, i + 1 < L.length → cd L i < cd L (i + 1)) :
    Calls Try.prog 10 #[.slice A m c, .int .i64 t] w fun e w' => e = .returned (.int .i64 (fnd L t)) ∧ Below w.heap.size w w' := by
  have hS : FdS ((w.alloc (.cells #[.slice A m c] 22)).alloc (.cells #[.int .i64 t] 3)) w.heap.size (w.heap.size + 1) A m c L t := by
    refine ⟨?_, ?_, h.bel (((Below.refl _ _).alloc (Nat.le_refl _) _).alloc (by simp) _)⟩
    · rw [Below.heap_alloc _ _ _ (by simp)]; exact heap_alloc_new w _
    · have := heap_alloc_new (w.alloc (.cells #[.slice A m c] 22)) (.cells #[.int .i64 t] 3)
      simpa using this
  have hB0 : Below w.heap.size w ((w.alloc (.cells #[.slice A m c] 22)).alloc (.cells #[.int .i64 t] 3)) := ((Below.refl _ _).alloc (Nat.le_refl _) _).alloc (by simp) _
  have hlen := h.len
  have HR := Lib.hid (rise_le hr)
  have HF1 := Lib.hid (fun n (h0 : n < m) (h1 : ∀ k, k < n → cd L k < t) (h2 : cd L n = t) => show fnd L t = gy L n from fnd_hit (by omega) (fun j hj => by have := h1 j hj; omega) h2)
  have HF2 := Lib.hid (fun n (h0 : n ≤ m) (h1 : ∀ k, k < n → cd L k < t) (h2 : n < m → t < cd L n) => show fnd L t = 0 from fnd_none (fun j hj => by
    rcases Nat.lt_or_ge j n with h3 | h3
    · have := h1 j h3; omega
    · have := h2 (by omega); have := HR.out j n h3 hj; omega))
  have HRR := Lib.hid (fun i j (h1 : i ≤ j) (h2 : j < m) => HR.out j i h1 (by omega))
  clear h hr hlen HR
  go_enter Try.func10, Try.ntmps10
  go_upto_region 1 with fail
  obtain ⟨b1, hb1⟩ : ∃ b, b = w.heap.size := ⟨_, rfl⟩
  obtain ⟨b2, hb2⟩ : ∃ b, b = w.heap.size + 1 := ⟨_, rfl⟩
  obtain ⟨W0, hW0⟩ : ∃ W, W = (w.alloc (.cells #[.slice A m c] 22)).alloc (.cells #[.int .i64 t] 3) := ⟨_, rfl⟩
  rw [← hW0] at hS hB0 ⊢
  rw [← hb2] at hS ⊢
  rw [← hb1] at hS ⊢
  have HS := Lib.hid hS
  have HB := Lib.hid hB0
  have c1 := hS.c1
  have c2 := hS.c2
  clear hS hB0 hb1 hb2 hW0
  go_upto_region 2 with (go_at_call 23; (with_reducible refine (search_any b1 b2 m c A L t _ HS.out hm HRR.out).mono ?_); rintro e w1 ⟨n, rfl, hn, h1, h2, hb⟩; have HB1 := Lib.hid (HB.out.trans (hb.mono HB.out.size)); have HS1 := Lib.hid (HS.out.bel hb); have H1 := Lib.hid h1; have H2 := Lib.hid h2; clear hb h1 h2)
  clear c1 c2
  have d1 := HS1.out.c1
  have d2 := HS1.out.c2
  by_cases hnm : n < m
  · obtain ⟨a, rfl, c0, c1⟩ := HS1.out.pl.at_ (Below.refl _ _) hnm
    have HF := Lib.hid (HF1.out n hnm H1.out)
    have HG := Lib.hid (fun h3 => HF2.out n hn H1.out h3)
    have H3 := Lib.hid (H2.out hnm)
    obtain ⟨x, hx⟩ : ∃ x, x = cd L n := ⟨_, rfl⟩
    obtain ⟨y, hy⟩ : ∃ y, y = gy L n := ⟨_, rfl⟩
    rw [← hx] at c0 HF HG H3
    rw [← hy] at c1 HF
    clear hx hy
    have g1 : ((n : Int) == (m : Int)) = false := by simp; omega
    by_cases hxt : x = t
    · have HX := Lib.hid (HF.out hxt)
      have g2 : (x != t) = false := by simp [hxt]
      clear hxt HF HG
      go_quiet (fail)
      all_goals
        go_wp2_with fail
        go_ret
        exact ⟨(by rw [HX.out] <;> rfl), below_drewN HB1.out _⟩
    · have HX := Lib.hid (HG.out (fun _ => by have := H3.out; omega))
      have g2 : (x != t) = true := by simp [hxt]
      clear hxt HF HG
      go_quiet (fail)
      all_goals
        go_wp2_with fail
        go_ret
        exact ⟨(by rw [HX.out] <;> rfl), below_drewN HB1.out _⟩
  · obtain rfl : n = m := by omega
    have HX := Lib.hid (HF2.out n hn H1.out (fun h => absurd h hnm))
    clear hnm
    go_quiet (fail)
    all_goals
      go_wp2_with fail
      go_ret
      exact ⟨(by rw [HX.out] <;> rfl), below_drewN HB1.out _⟩
end Go.Proofs.Ytbmpdpajnmjfpaa
