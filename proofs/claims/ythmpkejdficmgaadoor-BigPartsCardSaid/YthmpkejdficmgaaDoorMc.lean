/- Proved here: plain facts on signs, on digits without zeros at the top, and between digits in base 65536 and in base 4294967296. No condition. -/
import Derived.Test.YthmpkejdficmgaaDoorMa
import Derived.Test.YthmpkejdficmgaaDoorMb
namespace Go.Proofs.YthmpkejdficmgaaDoor

/-- A digit, 0 beyond the highest. -/
def dat (xs : List Nat) (i : Nat) : Nat := xs.getD i 0
theorem dat_beyond {xs : List Nat} {i : Nat} (h : xs.length ≤ i) : dat xs i = 0 := by simp [dat, List.getElem?_eq_none h]
theorem dat_take {xs : List Nat} {i n : Nat} (h : i < n) : dat (xs.take n) i = dat xs i := by simp [dat, h]
/-- The highest digit isn't 0. -/
def Top (xs : List Nat) : Prop := xs ≠ [] → dat xs (xs.length - 1) ≠ 0
theorem top_nil : Top [] := fun h => absurd rfl h
/-- From n on all digits are 0, and n is the least such. -/
def Tl (xs : List Nat) (n : Nat) : Prop := n ≤ xs.length ∧ (∀ j, n ≤ j → dat xs j = 0) ∧ (n = 0 ∨ dat xs (n - 1) ≠ 0)
theorem Tl.top {xs : List Nat} {n : Nat} (h : Tl xs n) : Top (xs.take n) := by
  intro hne
  have hl : (xs.take n).length = n := List.length_take_of_le h.1
  have hn : n ≠ 0 := by rintro rfl; simp at hne
  rw [hl, dat_take (by omega)]
  exact h.2.2.resolve_left hn
theorem take_zeros {xs : List Nat} {n : Nat} (h : ∀ j, n ≤ j → dat xs j = 0) (j : Nat) : (xs.take n).getD j 0 = xs.getD j 0 := by
  rcases Nat.lt_or_ge j n with hj | hj
  · exact dat_take hj
  · have := h j hj
    simp only [dat] at this
    rw [this]
    simp [List.getElem?_take, Nat.not_lt.2 hj]
theorem Tl.dv {xs : List Nat} {n : Nat} (h : Tl xs n) : dv (xs.take n) = dv xs := dv_ext (take_zeros h.2.1)
theorem Tl.dw {xs : List Nat} {n : Nat} (h : Tl xs n) : dw (xs.take n) = dw xs := dw_ext (take_zeros h.2.1)

theorem top_ge16 {xs : List Nat} (ht : Top xs) (hne : xs ≠ []) : 65536 ^ (xs.length - 1) ≤ dv xs := by
  have h1 := dv_split xs (xs.length - 1)
  have h2 := dv_take_succ xs (xs.length - 1)
  have hl : xs.length - 1 + 1 = xs.length := by have := List.length_pos_iff.2 hne; omega
  rw [hl, dv_take_all (Nat.le_refl _)] at h2
  have h3 := ht hne
  have h4 : 65536 ^ (xs.length - 1) * 1 ≤ 65536 ^ (xs.length - 1) * xs.getD (xs.length - 1) 0 := Nat.mul_le_mul_left _ (by unfold dat at h3; omega)
  omega
theorem top_ge32 {xs : List Nat} (ht : Top xs) (hne : xs ≠ []) : 4294967296 ^ (xs.length - 1) ≤ dw xs := by
  have h2 := dw_take_succ xs (xs.length - 1)
  have hl : xs.length - 1 + 1 = xs.length := by have := List.length_pos_iff.2 hne; omega
  rw [hl, dw_take_all (Nat.le_refl _)] at h2
  have h3 := ht hne
  have h4 : 4294967296 ^ (xs.length - 1) * 1 ≤ 4294967296 ^ (xs.length - 1) * xs.getD (xs.length - 1) 0 := Nat.mul_le_mul_left _ (by unfold dat at h3; omega)
  omega
theorem top_zero16 {xs : List Nat} (ht : Top xs) : dv xs = 0 ↔ xs = [] := by
  refine ⟨fun h => Decidable.byContradiction fun hne => ?_, fun h => by rw [h]; rfl⟩
  have := top_ge16 ht hne
  have := pw_pos (xs.length - 1)
  omega
theorem top_zero32 {xs : List Nat} (ht : Top xs) : dw xs = 0 ↔ xs = [] := by
  refine ⟨fun h => Decidable.byContradiction fun hne => ?_, fun h => by rw [h]; rfl⟩
  have := top_ge32 ht hne
  have := qw_pos (xs.length - 1)
  omega
theorem top_len16 {xs : List Nat} {n : Nat} (ht : Top xs) (h : dv xs < 65536 ^ n) : xs.length ≤ n := by
  rcases Nat.lt_or_ge n xs.length with hl | hl
  · have h1 := top_ge16 ht (by rintro rfl; simp at hl)
    have h2 : 65536 ^ n ≤ 65536 ^ (xs.length - 1) := Nat.pow_le_pow_right (by decide) (by omega)
    omega
  · exact hl
theorem top_len32 {xs : List Nat} {n : Nat} (ht : Top xs) (h : dw xs < 4294967296 ^ n) : xs.length ≤ n := by
  rcases Nat.lt_or_ge n xs.length with hl | hl
  · have h1 := top_ge32 ht (by rintro rfl; simp at hl)
    have h2 : 4294967296 ^ n ≤ 4294967296 ^ (xs.length - 1) := Nat.pow_le_pow_right (by decide) (by omega)
    omega
  · exact hl
/-- The shorter one of two numbers without zeros at the top is the lesser one. -/
theorem len_lt16 {xs ys : List Nat} (hy : Top ys) (hx : Dg xs) (h : xs.length < ys.length) : dv xs < dv ys := by
  have h1 := dv_lt hx
  have h2 := top_ge16 hy (by rintro rfl; simp at h)
  have h3 : 65536 ^ xs.length ≤ 65536 ^ (ys.length - 1) := Nat.pow_le_pow_right (by decide) (by omega)
  omega
theorem len_lt32 {xs ys : List Nat} (hy : Top ys) (hx : Eg xs) (h : xs.length < ys.length) : dw xs < dw ys := by
  have h1 := dw_lt hx
  have h2 := top_ge32 hy (by rintro rfl; simp at h)
  have h3 : 4294967296 ^ xs.length ≤ 4294967296 ^ (ys.length - 1) := Nat.pow_le_pow_right (by decide) (by omega)
  omega
theorem len_eq32 {xs ys : List Nat} (hx : Eg xs) (hy : Eg ys) (tx : Top xs) (ty : Top ys) (h : dw xs = dw ys) : xs.length = ys.length := by
  rcases Nat.lt_trichotomy xs.length ys.length with h1 | h1 | h1
  · have := len_lt32 ty hx h1; omega
  · exact h1
  · have := len_lt32 tx hy h1; omega
theorem same_digits32 {xs ys : List Nat} (hx : Eg xs) (hy : Eg ys) (h : dw xs = dw ys) (j : Nat) : dat xs j = dat ys j := by
  unfold dat
  rw [← dw_digit hx j, ← dw_digit hy j, h]

/-- The number of a sign and of a size. -/
def sv (n : Bool) (x : Nat) : Int := if n then -(x : Int) else (x : Int)
theorem sv_true (x : Nat) : sv true x = -(x : Int) := rfl
theorem sv_false (x : Nat) : sv false x = (x : Int) := rfl
/-- 0 isn't Neg. -/
def Can (n : Bool) (xs : List Nat) : Prop := Top xs ∧ (xs = [] → n = false)
theorem sv_zero {n : Bool} {x : Nat} : sv n x = 0 ↔ x = 0 := by cases n <;> simp [sv]
theorem sv_same {n m : Bool} {x y : Nat} (h : sv n x = sv m y) (hn : x = 0 → n = false) (hm : y = 0 → m = false) : n = m ∧ x = y := by
  cases n <;> cases m <;> simp [sv] at h hn hm ⊢ <;> omega
theorem can32 {n m : Bool} {xs ys : List Nat} (hn : Can n xs) (hm : Can m ys) (hx : Eg xs) (hy : Eg ys) (h : sv n (dw xs) = sv m (dw ys)) : n = m ∧ xs.length = ys.length ∧ ∀ j, dat xs j = dat ys j := by
  obtain ⟨h1, h2⟩ := sv_same h (fun h0 => hn.2 ((top_zero32 hn.1).1 h0)) (fun h0 => hm.2 ((top_zero32 hm.1).1 h0))
  exact ⟨h1, len_eq32 hx hy hn.1 hm.1 h2, same_digits32 hx hy h2⟩

/-- Each digit in two halves. -/
def halves : List Nat → List Nat
  | [] => []
  | d :: r => d % 65536 :: d / 65536 :: halves r
theorem halves_len (xs : List Nat) : (halves xs).length = 2 * xs.length := by
  induction xs with
  | nil => rfl
  | cons d r ih => simp [halves, ih]; omega
theorem halves_snoc (xs : List Nat) (d : Nat) : halves (xs ++ [d]) = halves xs ++ [d % 65536, d / 65536] := by
  induction xs with
  | nil => rfl
  | cons a r ih => simp [halves, ih]
theorem halves_val (xs : List Nat) : dv (halves xs) = dw xs := by
  induction xs with
  | nil => rfl
  | cons d r ih => simp only [halves, dv, dw, ih]; omega
theorem halves_dg {xs : List Nat} (h : Eg xs) : Dg (halves xs) := by
  induction xs with
  | nil => exact dg_nil
  | cons d r ih =>
    intro j
    have h0 := eg_head h
    have h1 := ih (eg_tail h)
    rcases j with _ | _ | j
    · simp [halves]; omega
    · simp [halves]; omega
    · simpa [halves] using h1 j
/-- Two digits at a time made one. -/
def pairs : List Nat → List Nat
  | [] => []
  | [d] => [d]
  | d :: e :: r => (d + 65536 * e) :: pairs r
theorem pairs_val (xs : List Nat) : dw (pairs xs) = dv xs := by
  fun_induction pairs xs with
  | case1 => rfl
  | case2 d => simp [dw, dv]
  | case3 d e r ih => simp only [dw, dv, ih]; omega
theorem pairs_len (xs : List Nat) : (pairs xs).length = (xs.length + 1) / 2 := by
  fun_induction pairs xs with
  | case1 => rfl
  | case2 d => simp
  | case3 d e r ih => simp [ih]; omega
theorem pairs_dat (xs : List Nat) (j : Nat) : dat (pairs xs) j = dat xs (2 * j) + dat xs (2 * j + 1) * 65536 := by
  fun_induction pairs xs generalizing j with
  | case1 => simp [dat]
  | case2 d => rcases j with _ | j <;> simp [dat]
  | case3 d e r ih =>
    rcases j with _ | j
    · simp [dat]; omega
    · have := ih j
      simp only [dat, List.getD_eq_getElem?_getD, Nat.mul_add] at *
      simpa using this
theorem pairs_eg {xs : List Nat} (h : Dg xs) : Eg (pairs xs) := by
  intro j
  have h1 := h (2 * j)
  have h2 := h (2 * j + 1)
  have h3 := pairs_dat xs j
  simp only [dat] at h3
  omega
theorem pairs_top {xs : List Nat} (ht : Top xs) : Top (pairs xs) := by
  intro hne
  have hx : xs ≠ [] := by rintro rfl; exact hne rfl
  have h := ht hx
  have hl := List.length_pos_iff.2 hx
  rw [pairs_dat, pairs_len]
  rcases Nat.mod_two_eq_zero_or_one xs.length with h2 | h2
  · have : 2 * ((xs.length + 1) / 2 - 1) + 1 = xs.length - 1 := by omega
    rw [this]; omega
  · have : 2 * ((xs.length + 1) / 2 - 1) = xs.length - 1 := by omega
    rw [this]; omega
theorem pairs_nil {xs : List Nat} (h : pairs xs = []) : xs = [] := by
  fun_induction pairs xs with
  | case1 => rfl
  | case2 d => cases h
  | case3 d e r ih => cases h
/-- The digits that are told by pairs up to 2 * k. -/
theorem pairs_take_succ (xs : List Nat) (k : Nat) (h : 2 * k < xs.length) : (pairs xs).take (k + 1) = (pairs xs).take k ++ [dat xs (2 * k) + dat xs (2 * k + 1) * 65536] := by
  have hl : k < (pairs xs).length := by rw [pairs_len]; omega
  rw [List.take_succ_eq_append_getElem hl]
  have := pairs_dat xs k
  simp only [dat, List.getD_eq_getElem?_getD, List.getElem?_eq_getElem hl, Option.getD_some] at this
  rw [this]
  rfl
end Go.Proofs.YthmpkejdficmgaaDoor
