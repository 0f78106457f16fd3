/- Proved here: whether pairs may be in the document; whether two lists of pairs are the same, and the first pair of a code, in the document. Condition: pairs that lie in memory. -/
import Derived.Test.YtbmpdpajnmjfpaaPb
namespace Go.Proofs.Ytbmpdpajnmjfpaa
open Go.RowKit

set_option maxHeartbeats 4000000 in
theorem rmay_any (A : Option Addr) (m c : Nat) (L : List (Int × Int)) (g : Int) (w : World) (hP : Pl w A m L) :
    Calls Try.prog 9 #[.slice A m c, .int .i64 g] w fun e w' => e = .returned (.bool (decide (MayP L g))) ∧ Below w.heap.size w w' := by
  have hlen := hP.len
  by_cases hg1 : g < 1
  · rw [decide_eq_false (show ¬ MayP L g from fun h => by have := h.1; omega)]
    clear hlen hP
    go_enter Try.func9, Try.ntmps9
    go_wp2_with fail
    go_ret
    exact ⟨rfl, Below.refl _ _⟩
  · by_cases hg2 : 1024 < g
    · rw [decide_eq_false (show ¬ MayP L g from fun h => by have := h.1; omega)]
      clear hlen hP
      go_enter Try.func9, Try.ntmps9
      go_wp2_with fail
      go_ret
      exact ⟨rfl, Below.refl _ _⟩
    · by_cases hm : 4096 < m
      · rw [decide_eq_false (show ¬ MayP L g from fun h => by have := h.2.1; omega)]
        clear hlen hP
        go_enter Try.func9, Try.ntmps9
        go_wp2_with fail
        go_ret
        exact ⟨rfl, Below.refl _ _⟩
      · have HY := Lib.hid (show (∀ i, i < m → okAt L g i) → decide (MayP L g) = true from fun h => decide_eq_true ⟨by omega, by omega, by rw [hlen]; exact h⟩)
        have HN := Lib.hid (show ∀ k, k < m → ¬ okAt L g k → decide (MayP L g) = false from fun k hk h => decide_eq_false fun h2 => h (h2.2.2 k (by omega)))
        have HI := Lib.hid hP
        have hm2 : m ≤ 4096 := by omega
        clear hlen hP
        go_enter Try.func9, Try.ntmps9
        go_wp2_with fail
        go_loopw [5, 6] (fun x i wr => ∃ k : Nat, i = .int .i64 (k : Int) ∧ k ≤ m ∧ x = .int .i64 (ahd L k) ∧ (∀ i, i < k → okAt L g i) ∧ Below w.heap.size w wr) (fun _ i _ => m - (intOf i).toNat)
        case atStart => exact ⟨0, rfl, Nat.zero_le _, rfl, fun i hi => by omega, Below.refl _ _⟩
        case round =>
          obtain ⟨k, rfl, hk, rfl, hok, hb⟩ := hrel
          have HB := Lib.hid hb
          have HOK := Lib.hid hok
          by_cases hgo : k < m
          · obtain ⟨a, rfl, c0, c1⟩ := HI.out.at_ hb hgo
            have HS := Lib.hid (show okAt L g k → ∀ i, i < k + 1 → okAt L g i from ok_succ hok)
            have HNK := Lib.hid (HN.out k hgo)
            have HAK := Lib.hid (show ahd L (k + 1) = cd L k from rfl)
            have HO := Lib.hid (show okAt L g k ↔ (ahd L k < cd L k ∧ cd L k ≤ 1114111 ∧ 1 ≤ gy L k ∧ gy L k < g) from Iff.rfl)
            obtain ⟨p, hp⟩ : ∃ p, p = ahd L k := ⟨_, rfl⟩
            obtain ⟨x, hx⟩ : ∃ x, x = cd L k := ⟨_, rfl⟩
            obtain ⟨y, hy⟩ : ∃ y, y = gy L k := ⟨_, rfl⟩
            rw [← hx] at c0 HO HAK
            rw [← hy] at c1 HO
            rw [← hp] at HO ⊢
            clear hb hok hp hx hy
            by_cases h0 : x ≤ p
            · have HX := Lib.hid (HNK.out fun h => by have := HO.out.1 h; omega)
              go_wp2_with fail
              go_ret
              refine ⟨by rw [HX.out]; rfl, HB.out⟩
            · by_cases h1 : 1114111 < x
              · have HX := Lib.hid (HNK.out fun h => by have := HO.out.1 h; omega)
                go_wp2_with fail
                go_ret
                refine ⟨by rw [HX.out]; rfl, HB.out⟩
              · by_cases h2 : y < 1
                · have HX := Lib.hid (HNK.out fun h => by have := HO.out.1 h; omega)
                  go_wp2_with fail
                  go_ret
                  refine ⟨by rw [HX.out]; rfl, HB.out⟩
                · by_cases h3 : g ≤ y
                  · have HX := Lib.hid (HNK.out fun h => by have := HO.out.1 h; omega)
                    go_wp2_with fail
                    go_ret
                    refine ⟨by rw [HX.out]; rfl, HB.out⟩
                  · have HX := Lib.hid (HS.out (HO.out.2 (by omega)))
                    go_wp2_with fail
                    exact ⟨⟨k + 1, by simp, by omega, by rw [HAK.out], HX.out, HB.out⟩, by simp [intOf]; omega⟩
          · obtain rfl : k = m := by omega
            have HX := Lib.hid (HY.out hok)
            clear hb hok
            go_wp2_with fail
            go_ret
            exact ⟨by rw [HX.out]; rfl, HB.out⟩
set_option maxHeartbeats 4000000 in
theorem same_any (A A' : Option Addr) (m c c' : Nat) (L : List (Int × Int)) (w : World) (h : Pl w A m L) (h' : Pl w A' m L) (hm : m ≤ 1000000) : Calls Try.prog 13 #[.slice A m c, .slice A' m c'] w fun e w' => e = .returned (.bool true) ∧ Below w.heap.size w w' := by
  have HX := Lib.hid h
  have HY := Lib.hid h'
  clear h h'
  go_enter Try.func13, Try.ntmps13
  go_wp2_with fail
  go_loopw [5] (fun i wr => ∃ k : Nat, i = .int .i64 (k : Int) ∧ k ≤ m ∧ Below w.heap.size w wr) (fun i _ => m - (intOf i).toNat)
  case atStart => exact ⟨0, rfl, Nat.zero_le _, Below.refl _ _⟩
  case round =>
    obtain ⟨k, rfl, hk, hb⟩ := hrel
    have HB := Lib.hid hb
    clear hb
    by_cases hgo : k < m
    · obtain ⟨ad, rfl, c0, c1⟩ := HX.out.at_ HB.out hgo
      obtain ⟨ad2, rfl, d0, d1⟩ := HY.out.at_ HB.out hgo
      obtain ⟨x, hx⟩ : ∃ x, x = cd L k := ⟨_, rfl⟩
      obtain ⟨y, hy⟩ : ∃ y, y = gy L k := ⟨_, rfl⟩
      rw [← hx] at c0 d0
      rw [← hy] at c1 d1
      clear hx hy
      go_wp2_with fail
      go_quiet (fail)
      all_goals
        go_wp2_with fail
        exact ⟨⟨k + 1, by simp, by omega, below_drewN HB.out _⟩, by simp [intOf]; omega⟩
    · have hkm : k = m := by omega
      subst hkm
      go_wp2_with fail
      go_ret
      exact ⟨rfl, HB.out⟩
/-- The glyph of the first pair of a code; 0, if there is none. -/
def fnd : List (Int × Int) → Int → Int
  | [], _ => 0
  | e :: l, x => if e.1 = x then e.2 else fnd l x
theorem fnd_hit {x : Int} : ∀ {L : List (Int × Int)} {i : Nat}, i < L.length → (∀ j, j < i → cd L j ≠ x) → cd L i = x → fnd L x = gy L i
  | e :: l, 0, _, _, h2 => by
    have h3 : e.1 = x := h2
    simp only [fnd]; rw [if_pos h3]; rfl
  | e :: l, i + 1, hi, h, h2 => by
    have h0 : e.1 ≠ x := h 0 (by omega)
    simp only [fnd]; rw [if_neg h0]
    exact fnd_hit (L := l) (i := i) (by simp at hi; omega) (fun j hj => h (j + 1) (by omega)) h2
theorem fnd_none {x : Int} : ∀ {L : List (Int × Int)}, (∀ j, j < L.length → cd L j ≠ x) → fnd L x = 0
  | [], _ => rfl
  | e :: l, h => by
    have h0 : e.1 ≠ x := h 0 (by simp)
    simp only [fnd]; rw [if_neg h0]
    exact fnd_none (L := l) fun j hj => h (j + 1) (by simp; omega)
set_option maxHeartbeats 2000000 in
theorem rfind_any (A : Option Addr) (m c : Nat) (L : List (Int × Int)) (t : Int) (w : World) (h : Pl w A m L) (hm : m ≤ 1000000) :
    Calls Try.prog 11 #[.slice A m c, .int .i64 t] w fun e w' => e = .returned (.int .i64 (fnd L t)) ∧ Below w.heap.size w w' := by
  have HX := Lib.hid h
  clear h
  go_enter Try.func11, Try.ntmps11
  go_wp2_with fail
  go_loopw [5] (fun i wr => ∃ k : Nat, i = .int .i64 (k : Int) ∧ k ≤ m ∧ (∀ j, j < k → cd L j ≠ t) ∧ Below w.heap.size w wr) (fun i _ => m - (intOf i).toNat)
  case atStart => exact ⟨0, rfl, Nat.zero_le _, fun j hj => by omega, Below.refl _ _⟩
  case round =>
    obtain ⟨k, rfl, hk, hno, hb⟩ := hrel
    have HB := Lib.hid hb
    have HN := Lib.hid hno
    clear hb hno
    by_cases hgo : k < m
    · obtain ⟨ad, rfl, c0, c1⟩ := HX.out.at_ HB.out hgo
      have HF := Lib.hid (show cd L k = t → fnd L t = gy L k from fnd_hit (by rw [HX.out.len]; exact hgo) HN.out)
      have HN2 := Lib.hid (show cd L k ≠ t → ∀ j, j < k + 1 → cd L j ≠ t from fun h2 j hj => by
          rcases Nat.lt_or_ge j k with h | h
          · exact HN.out j h
          · rw [show j = k by omega]; exact h2)
      obtain ⟨x, hx⟩ : ∃ x, x = cd L k := ⟨_, rfl⟩
      obtain ⟨y, hy⟩ : ∃ y, y = gy L k := ⟨_, rfl⟩
      rw [← hx] at c0 HF HN2
      rw [← hy] at c1 HF
      clear hx hy
      by_cases he : x = t
      · have HF2 := Lib.hid (HF.out he)
        have e1 : (x == t) = true := by simp [he]
        clear he HF HN2
        go_wp2_with fail
        go_ret
        exact ⟨(by rw [HF2.out] <;> rfl), HB.out⟩
      · have HF2 := Lib.hid (HN2.out he)
        have e1 : (x == t) = false := by simp [he]
        clear he HF HN2
        go_wp2_with fail
        exact ⟨⟨k + 1, by simp, by omega, HF2.out, HB.out⟩, by simp [intOf]; omega⟩
    · have HF := Lib.hid (fnd_none (L := L) (x := t) fun j hj => HN.out j (by have := HX.out.len; omega))
      have hkm : k = m := by omega
      subst hkm
      go_wp2_with fail
      go_ret
      exact ⟨(by rw [HF.out] <;> rfl), HB.out⟩
end Go.Proofs.Ytbmpdpajnmjfpaa
