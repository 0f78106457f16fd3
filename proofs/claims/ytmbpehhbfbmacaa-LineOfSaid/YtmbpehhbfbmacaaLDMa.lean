/- Proved here: plain facts on lists of digits in base 65536 (their value, sums, differences, products, quotients). No condition. -/

import Derived.Test.YtmbpehhbfbmacaaPPBs
namespace Go.Proofs.Ytmbpehhbfbmacaa
/-- The value of digits, the lowest first. -/
def dv : List Nat → Nat
  | [] => 0
  | d :: r => d + 65536 * dv r

/-- Each digit is one. -/
def Dg (l : List Nat) : Prop := ∀ j, l.getD j 0 < 65536

theorem dg_nil : Dg [] := fun _ => by simp
theorem dg_tail {d : Nat} {r : List Nat} (h : Dg (d :: r)) : Dg r := fun j => by simpa using h (j + 1)
theorem dg_head {d : Nat} {r : List Nat} (h : Dg (d :: r)) : d < 65536 := by simpa using h 0
theorem dg_snoc {l : List Nat} {d : Nat} (h : Dg l) (hd : d < 65536) : Dg (l ++ [d]) := fun j => by
  have := h j
  simp only [List.getD_eq_getElem?_getD, List.getElem?_append] at *
  split
  · exact this
  · rcases hj : j - l.length with _ | k <;> simp <;> omega
theorem dg_set {l : List Nat} {d : Nat} (h : Dg l) (i : Nat) (hd : d < 65536) : Dg (l.set i d) := fun j => by
  have := h j
  simp only [List.getD_eq_getElem?_getD, List.getElem?_set] at *
  split
  · split <;> simp <;> omega
  · exact this
theorem dg_zeros (n : Nat) : Dg (List.replicate n 0) := fun j => by
  simp only [List.getD_eq_getElem?_getD, List.getElem?_replicate]
  split <;> simp

theorem dv_zeros (n : Nat) : dv (List.replicate n 0) = 0 := by
  induction n with
  | zero => rfl
  | succ n ih => simp [List.replicate_succ, dv, ih]
theorem dv_split (l : List Nat) (i : Nat) : dv l = dv (l.take i) + 65536 ^ i * dv (l.drop i) := by
  induction i generalizing l with
  | zero => simp [dv]
  | succ i ih =>
    cases l with
    | nil => simp [dv]
    | cons a l => simp only [List.take_succ_cons, List.drop_succ_cons, dv]; rw [ih l]; grind
theorem dv_take_succ (l : List Nat) (i : Nat) : dv (l.take (i + 1)) = dv (l.take i) + 65536 ^ i * l.getD i 0 := by
  induction i generalizing l with
  | zero => cases l <;> simp [dv]
  | succ i ih =>
    cases l with
    | nil => simp [dv]
    | cons a l => simp only [List.take_succ_cons, dv, List.getD_cons_succ]; rw [ih l]; grind
theorem dv_take_all {l : List Nat} {i : Nat} (h : l.length ≤ i) : dv (l.take i) = dv l := by rw [List.take_of_length_le h]
theorem dv_lt {l : List Nat} (h : Dg l) : dv l < 65536 ^ l.length := by
  induction l with
  | nil => simp [dv]
  | cons a l ih =>
    have h1 := ih (dg_tail h)
    have h2 := dg_head h
    simp only [dv, List.length_cons, Nat.pow_succ]
    omega
theorem dg_take {l : List Nat} (h : Dg l) (i : Nat) : Dg (l.take i) := fun j => by
  have := h j
  simp only [List.getD_eq_getElem?_getD, List.getElem?_take] at *
  split
  · exact this
  · simp
theorem dv_take_lt {l : List Nat} (h : Dg l) (i : Nat) : dv (l.take i) < 65536 ^ i := by
  have h1 := dv_lt (dg_take h i)
  have h2 : (l.take i).length ≤ i := List.length_take_le _ _
  exact Nat.lt_of_lt_of_le h1 (Nat.pow_le_pow_right (by decide) h2)
theorem dv_set {l : List Nat} {j : Nat} (x : Nat) (h : j < l.length) : dv (l.set j x) + 65536 ^ j * l.getD j 0 = dv l + 65536 ^ j * x := by
  induction l generalizing j with
  | nil => simp at h
  | cons a l ih =>
    cases j with
    | zero => simp [dv]; omega
    | succ j =>
      have := ih (j := j) (by simpa using h)
      simp only [List.set_cons_succ, dv, List.getD_cons_succ, Nat.pow_succ]
      grind
theorem dv_zero_of {l : List Nat} (h : ∀ j, l.getD j 0 = 0) : dv l = 0 := by
  induction l with
  | nil => rfl
  | cons a l ih =>
    have h0 : a = 0 := by simpa using h 0
    simp only [dv, h0, ih (fun j => by simpa using h (j + 1))]
theorem dv_ext {l m : List Nat} (h : ∀ j, l.getD j 0 = m.getD j 0) : dv l = dv m := by
  induction l generalizing m with
  | nil => exact (dv_zero_of fun j => by rw [← h j]; simp).symm
  | cons a l ih =>
    cases m with
    | nil => exact dv_zero_of fun j => by rw [h j]; simp
    | cons b m =>
      have h0 : a = b := by simpa using h 0
      rw [dv, dv, h0, ih (fun j => by simpa using h (j + 1))]

/-- The first digits from above that part tell which number is less. -/
theorem less_of {xs ys : List Nat} {i : Nat} (hx : Dg xs) (hlt : xs.getD i 0 < ys.getD i 0) (h : ∀ j, i < j → xs.getD j 0 = ys.getD j 0) : dv xs < dv ys := by
  have h1 := dv_split xs (i + 1)
  have h2 := dv_split ys (i + 1)
  have h3 : dv (xs.drop (i + 1)) = dv (ys.drop (i + 1)) := dv_ext fun j => by
    have := h (i + 1 + j) (by omega)
    simpa [List.getD_eq_getElem?_getD, List.getElem?_drop] using this
  have h4 := dv_take_succ xs i
  have h5 := dv_take_succ ys i
  have h6 := dv_take_lt hx i
  have h7 := Nat.mul_le_mul_left (65536 ^ i) hlt
  rw [Nat.mul_succ] at h7
  rw [h3] at h1
  omega
/-- One digit of a product. -/
theorem times_step {xs_ bs os : List Nat} {i k c : Nat} (hj : i + k < os.length)
    (h : dv os + c * 65536 ^ (i + k) = dv (xs_.take i) * dv bs + xs_.getD i 0 * 65536 ^ i * dv (bs.take k)) :
    dv (os.set (i + k) ((os.getD (i + k) 0 + xs_.getD i 0 * bs.getD k 0 + c) % 65536)) + (os.getD (i + k) 0 + xs_.getD i 0 * bs.getD k 0 + c) / 65536 * 65536 ^ (i + (k + 1)) =
      dv (xs_.take i) * dv bs + xs_.getD i 0 * 65536 ^ i * dv (bs.take (k + 1)) := by
  have hs := dv_set (l := os) ((os.getD (i + k) 0 + xs_.getD i 0 * bs.getD k 0 + c) % 65536) hj
  rw [dv_take_succ, show i + (k + 1) = i + k + 1 by omega, Nat.pow_succ, Nat.pow_add] at *
  have hx := Nat.div_add_mod (os.getD (i + k) 0 + xs_.getD i 0 * bs.getD k 0 + c) 65536
  generalize (os.getD (i + k) 0 + xs_.getD i 0 * bs.getD k 0 + c) / 65536 = q at *
  generalize (os.getD (i + k) 0 + xs_.getD i 0 * bs.getD k 0 + c) % 65536 = r at *
  generalize os.getD (i + k) 0 = o at *
  generalize xs_.getD i 0 = a at *
  generalize bs.getD k 0 = b at *
  generalize dv (os.set (i + k) r) = z at *
  generalize 65536 ^ i = P at *
  generalize 65536 ^ k = Q at *
  grind
end Go.Proofs.Ytmbpehhbfbmacaa
