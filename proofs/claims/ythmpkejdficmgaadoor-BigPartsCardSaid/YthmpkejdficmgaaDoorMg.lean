/- Proved here: which texts are numbers' texts, and that a number's text is read as the number again. No condition. -/
import Derived.Test.YthmpkejdficmgaaDoorMf
import Derived.Lib.Strings
namespace Go.Proofs.YthmpkejdficmgaaDoor
open Go.Lib (decDigits nDigits)

/-- The number that decimal digits tell. -/
def dval (t : List UInt8) : Nat := t.foldl (fun x c => x * 10 + (c.toNat - 48)) 0
theorem dval_snoc (t : List UInt8) (c : UInt8) : dval (t ++ [c]) = dval t * 10 + (c.toNat - 48) := by simp [dval]
/-- Decimal digits, as few as may be. -/
def Good (t : List UInt8) : Prop := t ≠ [] ∧ (t.head? = some 48 → t.length = 1) ∧ ∀ c ∈ t, 48 ≤ c.toNat ∧ c.toNat ≤ 57
instance (t : List UInt8) : Decidable (Good t) := by unfold Good; exact inferInstance
theorem one_good : ∀ x, x < 10 → Good [UInt8.ofNat (48 + x)] ∧ dval [UInt8.ofNat (48 + x)] = x ∧ (0 < x → UInt8.ofNat (48 + x) ≠ 48) := by decide
theorem dec_good (x : Nat) : Good (decDigits x) ∧ dval (decDigits x) = x ∧ (0 < x → (decDigits x).head? ≠ some 48) := by
  induction x using Nat.strongRecOn with
  | _ x ih =>
    by_cases h : x < 10
    · rw [Lib.decDigits_one h]
      obtain ⟨h1, h2, h3⟩ := one_good x h
      exact ⟨h1, h2, fun h0 he => h3 h0 (by simpa using he)⟩
    · obtain ⟨g, gv, gh⟩ := ih (x / 10) (by omega)
      have gh := gh (by omega)
      obtain ⟨o1, o2, _⟩ := one_good (x % 10) (by omega)
      rw [dec_big (by omega)]
      have hd : (decDigits (x / 10) ++ [UInt8.ofNat (48 + x % 10)]).head? = (decDigits (x / 10)).head? := by
        cases h5 : decDigits (x / 10) with
        | nil => exact absurd h5 g.1
        | cons a r => simp
      refine ⟨⟨by simp, fun h0 => absurd (by rw [← hd]; exact h0) gh, ?_⟩, ?_, fun _ => by rw [hd]; exact gh⟩
      · intro c hc
        rcases List.mem_append.1 hc with h1 | h1
        · exact g.2.2 c h1
        · exact o1.2.2 c h1
      · rw [dval_snoc, gv]
        have : dval [UInt8.ofNat (48 + x % 10)] = (UInt8.ofNat (48 + x % 10)).toNat - 48 := by simp [dval]
        rw [← this, o2]
        omega
theorem chr_one (c : UInt8) (h1 : 48 ≤ c.toNat) (h2 : c.toNat ≤ 57) : UInt8.ofNat (48 + (c.toNat - 48)) = c := by
  rw [show 48 + (c.toNat - 48) = c.toNat by omega]
  simp
theorem good_dec (n : Nat) : ∀ t : List UInt8, t.length = n → Good t → decDigits (dval t) = t := by
  induction n with
  | zero => intro t h g; exact absurd (List.eq_nil_of_length_eq_zero h) g.1
  | succ n ih =>
    intro t ht g
    obtain ⟨s, c, rfl⟩ : ∃ s c, t = s ++ [c] := ⟨t.dropLast, t.getLast g.1, (List.dropLast_concat_getLast g.1).symm⟩
    have hc := g.2.2 c (by simp)
    rw [dval_snoc]
    cases s with
    | nil =>
      have : dval [] = 0 := rfl
      rw [List.nil_append, this, Nat.zero_mul, Nat.zero_add, Lib.decDigits_one (by omega), chr_one c hc.1 hc.2]
    | cons a r =>
      have hh : (a :: r).head? ≠ some 48 := fun h0 => by
        have := g.2.1 (by simpa using h0)
        simp at this
      have gs : Good (a :: r) := ⟨by simp, fun h0 => absurd h0 hh, fun d hd => g.2.2 d (by simp at hd ⊢; rcases hd with h | h <;> simp [h])⟩
      have hi := ih (a :: r) (by simp at ht ⊢; omega) gs
      have hpos : dval (a :: r) ≠ 0 := fun h0 => by
        rw [h0, Lib.decDigits_one (by omega)] at hi
        apply hh
        rw [← hi]
        rfl
      rw [dec_big (by omega), show (dval (a :: r) * 10 + (c.toNat - 48)) / 10 = dval (a :: r) by omega, show (dval (a :: r) * 10 + (c.toNat - 48)) % 10 = c.toNat - 48 by omega, hi, chr_one c hc.1 hc.2]
/-- A text's sign and the rest. -/
def cutN (l : List UInt8) : List UInt8 := Lib.trimPrefix l [45]
def negN (l : List UInt8) : Bool := Lib.hasPrefix l [45]
/-- What is answered of a text, and the number. -/
def okN (l : List UInt8) : Bool := decide (Good (cutN l) ∧ ¬ (negN l = true ∧ cutN l = [48]))
def pval (l : List UInt8) : Int := sv (negN l) (dval (cutN l))
theorem cut_minus (r : List UInt8) : cutN (45 :: r) = r ∧ negN (45 :: r) = true := by simp [cutN, negN, Lib.trimPrefix, Lib.hasPrefix]
theorem cut_none (l : List UInt8) (h : l.head? ≠ some 45) : cutN l = l ∧ negN l = false := by
  cases l with
  | nil => simp [cutN, negN, Lib.trimPrefix, Lib.hasPrefix]
  | cons a r =>
    have : a ≠ 45 := fun h0 => h (by simp [h0])
    have h2 : ((45 : UInt8) == a) = false := by simpa using Ne.symm this
    have h3 : [(45 : UInt8)].isPrefixOf (a :: r) = false := by rw [List.isPrefixOf, h2]; rfl
    simp [cutN, negN, Lib.trimPrefix, Lib.hasPrefix, h3]
theorem cut_case (l : List UInt8) : (∃ r, l = 45 :: r ∧ cutN l = r ∧ negN l = true) ∨ (l.head? ≠ some 45 ∧ cutN l = l ∧ negN l = false) := by
  by_cases h : l.head? = some 45
  · cases l with
    | nil => simp at h
    | cons a r =>
      simp at h
      subst h
      exact .inl ⟨r, rfl, cut_minus r⟩
  · exact .inr ⟨h, cut_none l h⟩
theorem good_head {t : List UInt8} (h : Good t) : t.head? ≠ some 45 := fun h0 => by
  cases t with
  | nil => simp at h0
  | cons a r =>
    simp at h0
    subst h0
    have := (h.2.2 45 (by simp)).1
    revert this
    decide
theorem good_zero (t : List UInt8) (h : Good t) : dval t = 0 ↔ t = [48] := by
  constructor
  · intro h0
    rw [← good_dec _ t rfl h, h0, Lib.decDigits_one (by omega)]
    rfl
  · intro h0; subst h0; rfl
/-- A number's text is one, and tells the number. -/
theorem txt_back (z : Int) : okN (txt z) = true ∧ pval (txt z) = z := by
  obtain ⟨g, gv, gh⟩ := dec_good z.natAbs
  unfold txt
  split
  · obtain ⟨h1, h2⟩ := cut_minus (decDigits z.natAbs)
    refine ⟨?_, ?_⟩
    · unfold okN
      rw [h1]
      refine decide_eq_true ⟨g, fun ⟨_, h0⟩ => gh (by omega) ?_⟩
      rw [h0]; rfl
    · unfold pval
      rw [h1, h2, gv]
      simp [sv]; omega
  · obtain ⟨h1, h2⟩ := cut_none (decDigits z.natAbs) (good_head g)
    refine ⟨?_, ?_⟩
    · unfold okN
      rw [h1]
      refine decide_eq_true ⟨g, fun ⟨h0, _⟩ => ?_⟩
      rw [h2] at h0; cases h0
    · unfold pval
      rw [h1, h2, gv]
      simp [sv]; omega
/-- A text that is read is told as it was. -/
theorem back_txt (l : List UInt8) (h : okN l = true) : txt (pval l) = l := by
  have h := of_decide_eq_true h
  rcases cut_case l with ⟨r, rfl, h1, h2⟩ | ⟨h0, h1, h2⟩
  · rw [h1, h2] at h
    have hz : dval r ≠ 0 := fun h0 => h.2 ⟨rfl, (good_zero r h.1).1 h0⟩
    unfold txt pval
    rw [h1, h2]
    have : sv true (dval r) < 0 := by simp [sv]; omega
    rw [if_pos this, show (sv true (dval r)).natAbs = dval r by simp [sv], good_dec _ r rfl h.1]
  · rw [h1, h2] at h
    unfold txt pval
    rw [h1, h2]
    have : ¬ sv false (dval l) < 0 := by simp [sv]
    rw [if_neg this, show (sv false (dval l)).natAbs = dval l by simp [sv], good_dec _ l rfl h.1]
theorem dval_lt (t : List UInt8) (h : ∀ c ∈ t, 48 ≤ c.toNat ∧ c.toNat ≤ 57) : dval t < 10 ^ t.length := by
  have : ∀ n (t : List UInt8), t.length = n → (∀ c ∈ t, 48 ≤ c.toNat ∧ c.toNat ≤ 57) → dval t < 10 ^ n := by
    intro n
    induction n with
    | zero => intro t h0 _; rw [List.eq_nil_of_length_eq_zero h0]; decide
    | succ n ih =>
      intro t ht h
      have hne : t ≠ [] := fun h0 => by rw [h0] at ht; simp at ht
      obtain ⟨s, c, rfl⟩ : ∃ s c, t = s ++ [c] := ⟨t.dropLast, t.getLast hne, (List.dropLast_concat_getLast hne).symm⟩
      have h1 := ih s (by simpa using ht) (fun d hd => h d (by simp [hd]))
      have h2 := h c (by simp)
      rw [dval_snoc, Nat.pow_succ]
      omega
  exact this _ t rfl h
end Go.Proofs.YthmpkejdficmgaaDoor
