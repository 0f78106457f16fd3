/- Proved here: plain facts on a numeral in pieces of 19 decimal digits. No condition beyond those named. -/
import Derived.Test.YthmpkejdficmgaaDoorMc
import Derived.Test.YthmpkejdficmgaaDoorMe
namespace Go.Proofs.YthmpkejdficmgaaDoor
open Go.Lib

/-- 10 to the power 19. -/
def ck : Nat := 10000000000000000000
theorem ck_eq : 10 ^ 19 = ck := by decide
theorem ck_pos : 0 < ck := by decide
theorem ck_lt : ck < 18446744073709551616 := by decide
/-- The value of pieces, the lowest first. -/
def pv : List Nat → Nat
  | [] => 0
  | c :: r => c + ck * pv r
theorem pv_snoc (l : List Nat) (d : Nat) : pv (l ++ [d]) = pv l + ck ^ l.length * d := by
  induction l with
  | nil => simp [pv]
  | cons a l ih => simp only [List.cons_append, pv, ih, List.length_cons, Nat.pow_succ]; grind
/-- The text of pieces, the lowest first. -/
def dch : List Nat → List UInt8
  | [] => []
  | c :: r => if r = [] then decDigits c else dch r ++ (repeatL [48] (19 - nDigits c) ++ decDigits c)
theorem dch_one (c : Nat) : dch [c] = decDigits c := by simp [dch]
theorem dch_more (c : Nat) {r : List Nat} (h : r ≠ []) : dch (c :: r) = dch r ++ (repeatL [48] (19 - nDigits c) ++ decDigits c) := by simp [dch, h]
/-- Each piece is one. -/
def Pg (l : List Nat) : Prop := ∀ c ∈ l, c < ck
theorem pg_nd {c : Nat} (h : c < ck) : nDigits c ≤ 19 := (pad_dec 19 c (by rw [ck_eq]; exact h) (by decide)).2
theorem dch_val (l : List Nat) (hl : Pg l) (hne : l ≠ []) (hpos : 0 < l.getLast hne) : dch l = decDigits (pv l) ∧ 0 < pv l := by
  induction l with
  | nil => exact absurd rfl hne
  | cons c r ih =>
    by_cases hr : r = []
    · subst hr
      simp [dch, pv]
      simpa using hpos
    · obtain ⟨i1, i2⟩ := ih (fun d hd => hl d (List.mem_cons_of_mem c hd)) hr (by rw [List.getLast_cons hr] at hpos; exact hpos)
      have hc : c < ck := hl c (List.mem_cons_self ..)
      have hge : ck ≤ pv (c :: r) := by
        have := Nat.mul_le_mul_left ck i2
        simp only [pv]
        omega
      obtain ⟨d1, _⟩ := dec_pieces (m := 19) (x := pv (c :: r)) (by decide) (by rw [ck_eq]; exact hge)
      rw [ck_eq] at d1
      have e1 : pv (c :: r) / ck = pv r := by
        simp only [pv]
        rw [Nat.add_mul_div_left _ _ ck_pos, Nat.div_eq_of_lt hc, Nat.zero_add]
      have e2 : pv (c :: r) % ck = c := by
        simp only [pv]
        rw [Nat.add_mul_mod_self_left, Nat.mod_eq_of_lt hc]
      rw [dch_more c hr, d1, e1, e2, i1]
      exact ⟨rfl, by have := ck_pos; omega⟩
theorem dch_len (l : List Nat) (hl : Pg l) : (dch l).length ≤ 19 * l.length := by
  induction l with
  | nil => simp [dch]
  | cons c r ih =>
    have hc := pg_nd (hl c (List.mem_cons_self ..))
    have h := ih (fun d hd => hl d (List.mem_cons_of_mem c hd))
    by_cases hr : r = []
    · subst hr
      simp [dch, decDigits_length]
      omega
    · rw [dch_more c hr]
      simp only [List.length_append, repeatL_length, decDigits_length, List.length_cons, List.length_nil]
      omega
theorem dch_drop {l : List Nat} {k : Nat} (h : k < l.length) (hk : k + 1 < l.length) : dch (l.drop k) = dch (l.drop (k + 1)) ++ (repeatL [48] (19 - nDigits (dat l k)) ++ decDigits (dat l k)) := by
  rw [List.drop_eq_getElem_cons h, dch_more _ (by intro h0; have := congrArg List.length h0; simp at this; omega)]
  simp [dat, h]
theorem dch_last {l : List Nat} {k : Nat} (h : k + 1 = l.length) : dch (l.drop k) = decDigits (dat l k) := by
  have hk : k < l.length := by omega
  rw [List.drop_eq_getElem_cons hk, List.drop_eq_nil_of_le (by omega), dch_one]
  simp [dat, hk]
/-- A quotient by 10 to the power 19 has fewer digits. -/
theorem quo_shorter {n x : Nat} (h : x < 4294967296 ^ (n + 1)) : x / ck < 4294967296 ^ n := by
  rw [Nat.div_lt_iff_lt_mul ck_pos]
  rw [Nat.pow_succ] at h
  have : 4294967296 ^ n * 4294967296 ≤ 4294967296 ^ n * ck := Nat.mul_le_mul_left _ (by decide)
  omega
/-- The decimal text of a number, with a - ahead of one below 0. -/
def txt (z : Int) : List UInt8 := if z < 0 then 45 :: decDigits z.natAbs else decDigits z.natAbs
end Go.Proofs.YthmpkejdficmgaaDoor
