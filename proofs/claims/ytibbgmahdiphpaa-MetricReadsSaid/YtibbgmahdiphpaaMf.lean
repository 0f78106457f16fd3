/- Proved here: what mayWidths and Hmtx answer, in the program. Condition: a list of at most 10^6 numbers. -/
import Derived.Test.YtibbgmahdiphpaaMe
import Derived.Test.YtibbgmahdiphpaaBa
namespace Go.Proofs.Ytibbgmahdiphpaa
open Go.RowKit

/-- The first n widths may be told. -/
def okW (M : Nat) (xs : List Int) (n : Nat) : Prop := ∀ i, i < n → 0 ≤ co xs i ∧ co xs i ≤ 65535 ∧ co xs i = co xs (min i (M - 1))
instance (M : Nat) (xs : List Int) (n : Nat) : Decidable (okW M xs n) := inferInstanceAs (Decidable (∀ i, i < n → _))
def mayW (h : Hd) (xs : List Int) : Prop := (xs.length : Int) = h.gl ∧ okW h.me.toNat xs xs.length
instance (h : Hd) (xs : List Int) : Decidable (mayW h xs) := inferInstanceAs (Decidable (_ ∧ _))
theorem okW_succ {M : Nat} {xs : List Int} {k : Nat} (h : okW M xs k) (h1 : 0 ≤ co xs k ∧ co xs k ≤ 65535 ∧ co xs k = co xs (min k (M - 1))) : okW M xs (k + 1) := fun i hi => by
  rcases Nat.lt_or_ge i k with hk | hk
  · exact h i hk
  · rw [show i = k by omega]; exact h1
theorem mayW_no (em : Int) (lg : Bool) (G M : Nat) (a1 a2 a3 : Int) (A : Option Addr) (m c : Nat) (xs : List Int) (w : World) (hI : Il w A m xs) (hne : ¬ m = G) :
    Calls Try.prog 24 #[.agg #[.int .i64 em, .bool lg, .int .i64 (G : Int), .int .i64 (M : Int), .int .i64 a1, .int .i64 a2, .int .i64 a3], .slice A m c] w fun e w' => e = .returned (.bool (decide (mayW ⟨em, lg, G, M, a1, a2, a3⟩ xs))) ∧ Below w.heap.size w w' := by
  have hE : decide (mayW ⟨em, lg, G, M, a1, a2, a3⟩ xs) = false := decide_eq_false (fun h => hne (by have h1 := h.1; have := hI.len; simp only at h1; omega))
  have S := Lib.hid (MS.start w ⟨em, lg, G, M, a1, a2, a3⟩)
  obtain ⟨f0, f1, f2, f3, f4, f5, f6⟩ := S.out.cells
  rw [hE]
  clear hE hI
  go_enter Try.func24, Try.ntmps24
  go_wp2_with fail
  go_ret
  exact ⟨rfl, S.out.bel⟩
set_option maxHeartbeats 2000000 in
theorem mayW_yes (em : Int) (lg : Bool) (G M : Nat) (a1 a2 a3 : Int) (A : Option Addr) (c : Nat) (xs : List Int) (w : World) (hm : MayP ⟨em, lg, G, M, a1, a2, a3⟩) (hI : Il w A G xs) :
    Calls Try.prog 24 #[.agg #[.int .i64 em, .bool lg, .int .i64 (G : Int), .int .i64 (M : Int), .int .i64 a1, .int .i64 a2, .int .i64 a3], .slice A G c] w fun e w' => e = .returned (.bool (decide (mayW ⟨em, lg, G, M, a1, a2, a3⟩ xs))) ∧ Below w.heap.size w w' := by
  obtain ⟨_, ⟨b1, b2⟩, ⟨b3, b4⟩, _⟩ := id hm
  simp only at b1 b2 b3 b4
  have hG : G ≤ 1024 := by omega
  have hlen := hI.len
  have HY := Lib.hid (show okW M xs G → decide (mayW ⟨em, lg, G, M, a1, a2, a3⟩ xs) = true from fun h => decide_eq_true ⟨by simp only; omega, by rw [hlen]; exact h⟩)
  have HN := Lib.hid (show ∀ k, k < G → ¬ (0 ≤ co xs k ∧ co xs k ≤ 65535 ∧ co xs k = co xs (min k (M - 1))) → decide (mayW ⟨em, lg, G, M, a1, a2, a3⟩ xs) = false from fun k hk h => decide_eq_false (fun h2 => h (h2.2 k (by rw [hlen]; exact hk))))
  have e5 : IntKind.i64.wrap ((M : Int) - 1) = ((M - 1 : Nat) : Int) := by rw [i64_in _ (by omega)]; omega
  obtain ⟨M1, hM1⟩ : ∃ j, j = M - 1 := ⟨_, rfl⟩
  rw [← hM1] at e5 HN
  have HM1 := Lib.hid (show M1 < G by omega)
  have S := Lib.hid (MS.start w ⟨em, lg, G, M, a1, a2, a3⟩)
  have HI := Lib.hid hI
  have HOK0 := Lib.hid (show okW M xs 0 from fun i hi => by omega)
  have HSU := Lib.hid (show ∀ k, okW M xs k → 0 ≤ co xs k ∧ co xs k ≤ 65535 ∧ co xs k = co xs (min k M1) → okW M xs (k + 1) from fun k h h1 => okW_succ h (by rw [← hM1]; exact h1))
  clear hm hI hlen hM1 b1 b2 b3 b4
  go_enter Try.func24, Try.ntmps24
  go_upto_region 1 with fail
  obtain ⟨b, hb⟩ : ∃ b, b = w.heap.size := ⟨_, rfl⟩
  obtain ⟨W0, hW0⟩ : ∃ W, W = w.alloc (.cells #[.int .i64 em, .bool lg, .int .i64 (G : Int), .int .i64 (M : Int), .int .i64 a1, .int .i64 a2, .int .i64 a3] 23) := ⟨_, rfl⟩
  rw [← hW0] at S ⊢
  rw [← hb] at S ⊢
  obtain ⟨f0, f1, f2, f3, f4, f5, f6⟩ := S.out.cells
  clear hb hW0
  go_wp2_with fail
  go_loopw [14] (fun i wr => ∃ k : Nat, i = .int .i64 (k : Int) ∧ k ≤ G ∧ okW M xs k ∧ MS w wr b ⟨em, lg, G, M, a1, a2, a3⟩) (fun i _ => G - (intOf i).toNat)
  case atStart => exact ⟨0, rfl, Nat.zero_le _, HOK0.out, S.out⟩
  case round =>
    obtain ⟨k, rfl, hk, hok, hS⟩ := hrel
    have HS := Lib.hid hS
    have HOK := Lib.hid hok
    by_cases hgo : k < G
    · obtain ⟨f0, f1, f2, f3, f4, f5, f6⟩ := hS.cells
      obtain ⟨a, rfl, c0⟩ := HI.out.at_ hS.bel hgo
      obtain ⟨a', ha', c1⟩ := HI.out.at_ hS.bel HM1.out
      injection ha' with ha'
      subst ha'
      have hM1 := HM1.out
      have HSK := Lib.hid (HSU.out k hok)
      have HNK := Lib.hid (HN.out k hgo)
      have hmin : min k M1 = if M1 < k then M1 else k := by split <;> omega
      rw [hmin] at HSK HNK
      obtain ⟨x, hx⟩ : ∃ x, x = co xs k := ⟨_, rfl⟩
      by_cases hmk : M1 < k
      · rw [if_pos hmk] at HSK HNK
        have hmn : min (k : Int) (M1 : Int) = (M1 : Int) := by omega
        obtain ⟨y, hy⟩ : ∃ y, y = co xs M1 := ⟨_, rfl⟩
        rw [← hx, ← hy] at HSK HNK
        rw [← hx] at c0
        rw [← hy] at c1
        clear hS hok hmin hx hy
        by_cases h0 : x < 0
        · have HX := Lib.hid (HNK.out (by omega))
          go_wp2_with fail
          go_ret
          exact ⟨by rw [HX.out]; rfl, HS.out.bel⟩
        · by_cases h1 : 65535 < x
          · have HX := Lib.hid (HNK.out (by omega))
            go_wp2_with fail
            go_ret
            exact ⟨by rw [HX.out]; rfl, HS.out.bel⟩
          · by_cases h2 : x = y
            · have HX := Lib.hid (HSK.out (by omega))
              subst h2
              go_wp2_with fail
              exact ⟨⟨k + 1, by simp, by omega, HX.out, HS.out⟩, by simp [intOf]; omega⟩
            · have HX := Lib.hid (HNK.out (fun h => h2 h.2.2))
              have h3 : (x != y) = true := by simp [h2]
              go_wp2_with fail
              go_ret
              exact ⟨by rw [HX.out]; rfl, HS.out.bel⟩
      · rw [if_neg hmk, ← hx] at HSK HNK
        have hmn : min (k : Int) (M1 : Int) = (k : Int) := by omega
        rw [← hx] at c0
        clear hS hok hmin hx c1
        by_cases h0 : x < 0
        · have HX := Lib.hid (HNK.out (by omega))
          go_wp2_with fail
          go_ret
          exact ⟨by rw [HX.out]; rfl, HS.out.bel⟩
        · by_cases h1 : 65535 < x
          · have HX := Lib.hid (HNK.out (by omega))
            go_wp2_with fail
            go_ret
            exact ⟨by rw [HX.out]; rfl, HS.out.bel⟩
          · have HX := Lib.hid (HSK.out (by omega))
            go_wp2_with fail
            exact ⟨⟨k + 1, by simp, by omega, HX.out, HS.out⟩, by simp [intOf]; omega⟩
    · obtain rfl : k = G := by omega
      have HX := Lib.hid (HY.out hok)
      clear hS hok
      go_wp2_with fail
      go_ret
      exact ⟨by rw [HX.out]; rfl, HS.out.bel⟩
theorem mayW_any (h : Hd) (A : Option Addr) (m c : Nat) (xs : List Int) (w : World) (hm : MayP h) (hI : Il w A m xs) :
    Calls Try.prog 24 #[.agg #[.int .i64 h.em, .bool h.lg, .int .i64 h.gl, .int .i64 h.me, .int .i64 h.a1, .int .i64 h.a2, .int .i64 h.a3], .slice A m c] w fun e w' => e = .returned (.bool (decide (mayW h xs))) ∧ Below w.heap.size w w' := by
  obtain ⟨G, M, h1, h2, h3, h4, h5, h6⟩ := hm.nat
  obtain ⟨em, lg, gl, me, a1, a2, a3⟩ := h
  simp only at h1 h2
  subst h1 h2
  by_cases he : m = G
  · subst he
    exact mayW_yes em lg m M a1 a2 a3 A c xs w hm hI
  · exact mayW_no em lg G M a1 a2 a3 A m c xs w hI he
end Go.Proofs.Ytibbgmahdiphpaa
