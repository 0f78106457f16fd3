/- Proved here: plain facts on lists of digits in base 4294967296 (their value, sums, differences, products, quotients). No condition. -/
namespace Go.Proofs.YthmpkejdficmgaaDoor

/-- The value of digits, the lowest first. -/
def dw : List Nat → Nat
  | [] => 0
  | d :: r => d + 4294967296 * dw r

/-- Each digit is one. -/
def Eg (l : List Nat) : Prop := ∀ j, l.getD j 0 < 4294967296

theorem qw_pos (i : Nat) : 0 < 4294967296 ^ i := Nat.pow_pos (by decide)
theorem eg_nil : Eg [] := fun _ => by simp
theorem eg_tail {d : Nat} {r : List Nat} (h : Eg (d :: r)) : Eg r := fun j => by simpa using h (j + 1)
theorem eg_head {d : Nat} {r : List Nat} (h : Eg (d :: r)) : d < 4294967296 := by simpa using h 0
theorem eg_snoc {l : List Nat} {d : Nat} (h : Eg l) (hd : d < 4294967296) : Eg (l ++ [d]) := fun j => by
  have := h j
  simp only [List.getD_eq_getElem?_getD, List.getElem?_append] at *
  split
  · exact this
  · rcases hj : j - l.length with _ | k <;> simp <;> omega
theorem eg_set {l : List Nat} {d : Nat} (h : Eg l) (i : Nat) (hd : d < 4294967296) : Eg (l.set i d) := fun j => by
  have := h j
  simp only [List.getD_eq_getElem?_getD, List.getElem?_set] at *
  split
  · split <;> simp <;> omega
  · exact this
theorem eg_zeros (n : Nat) : Eg (List.replicate n 0) := fun j => by
  simp only [List.getD_eq_getElem?_getD, List.getElem?_replicate]
  split <;> simp

theorem dw_zeros (n : Nat) : dw (List.replicate n 0) = 0 := by
  induction n with
  | zero => rfl
  | succ n ih => simp [List.replicate_succ, dw, ih]
theorem dw_snoc (l : List Nat) (d : Nat) : dw (l ++ [d]) = dw l + 4294967296 ^ l.length * d := by
  induction l with
  | nil => simp [dw]
  | cons a l ih => simp only [List.cons_append, dw, ih, List.length_cons, Nat.pow_succ]; grind
theorem dw_split (l : List Nat) (i : Nat) : dw l = dw (l.take i) + 4294967296 ^ i * dw (l.drop i) := by
  induction i generalizing l with
  | zero => simp [dw]
  | succ i ih =>
    cases l with
    | nil => simp [dw]
    | cons a l => simp only [List.take_succ_cons, List.drop_succ_cons, dw]; rw [ih l]; grind
theorem dw_take_succ (l : List Nat) (i : Nat) : dw (l.take (i + 1)) = dw (l.take i) + 4294967296 ^ i * l.getD i 0 := by
  induction i generalizing l with
  | zero => cases l <;> simp [dw]
  | succ i ih =>
    cases l with
    | nil => simp [dw]
    | cons a l => simp only [List.take_succ_cons, dw, List.getD_cons_succ]; rw [ih l]; grind
theorem dw_take_all {l : List Nat} {i : Nat} (h : l.length ≤ i) : dw (l.take i) = dw l := by rw [List.take_of_length_le h]
theorem dw_lt {l : List Nat} (h : Eg l) : dw l < 4294967296 ^ l.length := by
  induction l with
  | nil => simp [dw]
  | cons a l ih =>
    have h1 := ih (eg_tail h)
    have h2 := eg_head h
    simp only [dw, List.length_cons, Nat.pow_succ]
    omega
theorem eg_take {l : List Nat} (h : Eg l) (i : Nat) : Eg (l.take i) := fun j => by
  have := h j
  simp only [List.getD_eq_getElem?_getD, List.getElem?_take] at *
  split
  · exact this
  · simp
theorem eg_drop {l : List Nat} (h : Eg l) (i : Nat) : Eg (l.drop i) := fun j => by
  have := h (i + j)
  simpa [List.getD_eq_getElem?_getD, List.getElem?_drop] using this
theorem dw_take_lt {l : List Nat} (h : Eg l) (i : Nat) : dw (l.take i) < 4294967296 ^ i := by
  have h1 := dw_lt (eg_take h i)
  have h2 : (l.take i).length ≤ i := List.length_take_le _ _
  exact Nat.lt_of_lt_of_le h1 (Nat.pow_le_pow_right (by decide) h2)
theorem dw_take_le (l : List Nat) (i : Nat) : dw (l.take i) ≤ dw l := by
  have := dw_split l i
  omega
theorem dw_digit {l : List Nat} (h : Eg l) (j : Nat) : dw l / 4294967296 ^ j % 4294967296 = l.getD j 0 := by
  have h1 := dw_split l j
  have h2 := dw_take_lt h j
  rw [h1, Nat.add_mul_div_left _ _ (qw_pos j), Nat.div_eq_of_lt h2, Nat.zero_add]
  have h3 := eg_drop h j
  have h4 : l.getD j 0 = (l.drop j).getD 0 0 := by simp [List.getD_eq_getElem?_getD, List.getElem?_drop]
  rw [h4]
  cases hd : l.drop j with
  | nil => simp [dw]
  | cons a r =>
    rw [hd] at h3
    have := eg_head h3
    simp only [dw, List.getD_cons_zero]
    omega
theorem dw_high {l : List Nat} (h : Eg l) {n j : Nat} (hv : dw l < 4294967296 ^ n) (hj : n ≤ j) : l.getD j 0 = 0 := by
  rw [← dw_digit h j, Nat.div_eq_of_lt (Nat.lt_of_lt_of_le hv (Nat.pow_le_pow_right (by decide) hj))]
theorem dw_set {l : List Nat} {j : Nat} (x : Nat) (h : j < l.length) : dw (l.set j x) + 4294967296 ^ j * l.getD j 0 = dw l + 4294967296 ^ j * x := by
  induction l generalizing j with
  | nil => simp at h
  | cons a l ih =>
    cases j with
    | zero => simp [dw]; omega
    | succ j =>
      have := ih (j := j) (by simpa using h)
      simp only [List.set_cons_succ, dw, List.getD_cons_succ, Nat.pow_succ]
      grind
theorem dw_zero_of {l : List Nat} (h : ∀ j, l.getD j 0 = 0) : dw l = 0 := by
  induction l with
  | nil => rfl
  | cons a l ih =>
    have h0 : a = 0 := by simpa using h 0
    simp only [dw, h0, ih (fun j => by simpa using h (j + 1))]
theorem dw_ext {l m : List Nat} (h : ∀ j, l.getD j 0 = m.getD j 0) : dw l = dw m := by
  induction l generalizing m with
  | nil => exact (dw_zero_of fun j => by rw [← h j]; simp).symm
  | cons a l ih =>
    cases m with
    | nil => exact dw_zero_of fun j => by rw [h j]; simp
    | cons b m =>
      have h0 : a = b := by simpa using h 0
      rw [dw, dw, h0, ih (fun j => by simpa using h (j + 1))]

/-- One digit of a sum. -/
theorem plusw_step {xs ys zs : List Nat} {i c : Nat} (hl : zs.length = i) (h : dw zs + c * 4294967296 ^ i = dw (xs.take i) + dw (ys.take i)) :
    dw (zs ++ [(xs.getD i 0 + ys.getD i 0 + c) % 4294967296]) + (xs.getD i 0 + ys.getD i 0 + c) / 4294967296 * 4294967296 ^ (i + 1) = dw (xs.take (i + 1)) + dw (ys.take (i + 1)) := by
  rw [dw_snoc, dw_take_succ, dw_take_succ, hl, Nat.pow_succ]
  have hx := Nat.div_add_mod (xs.getD i 0 + ys.getD i 0 + c) 4294967296
  generalize (xs.getD i 0 + ys.getD i 0 + c) / 4294967296 = q at *
  generalize (xs.getD i 0 + ys.getD i 0 + c) % 4294967296 = r at *
  generalize xs.getD i 0 = x at *
  generalize ys.getD i 0 = y at *
  generalize 4294967296 ^ i = P at *
  grind
/-- One digit of a difference. -/
theorem minusw_step {xs ys zs : List Nat} {i c : Nat} (hl : zs.length = i) (hc : c ≤ 1) (hy : ys.getD i 0 < 4294967296) (hx : xs.getD i 0 < 4294967296) (h : dw zs + dw (ys.take i) = dw (xs.take i) + c * 4294967296 ^ i) :
    dw (zs ++ [(4294967296 + xs.getD i 0 - ys.getD i 0 - c) % 4294967296]) + dw (ys.take (i + 1)) = dw (xs.take (i + 1)) + (1 - (4294967296 + xs.getD i 0 - ys.getD i 0 - c) / 4294967296) * 4294967296 ^ (i + 1) := by
  rw [dw_snoc, dw_take_succ, dw_take_succ, hl, Nat.pow_succ]
  have e := Nat.div_add_mod (4294967296 + xs.getD i 0 - ys.getD i 0 - c) 4294967296
  generalize hx' : xs.getD i 0 = x at *
  generalize hy' : ys.getD i 0 = y at *
  generalize 4294967296 ^ i = P at *
  have hz : 4294967296 + x - y - c = 4294967296 + x - (y + c) := by omega
  rcases Nat.lt_or_ge x (y + c) with hlt | hge
  · have e1 : (4294967296 + x - y - c) / 4294967296 = 0 := by omega
    have e2 : (4294967296 + x - y - c) % 4294967296 = 4294967296 + x - y - c := by omega
    rw [e1, e2]
    obtain ⟨k, hk⟩ : ∃ k, 4294967296 + x - y - c = k := ⟨_, rfl⟩
    have : k + y + c = 4294967296 + x := by omega
    rw [hk]
    grind
  · have e1 : (4294967296 + x - y - c) / 4294967296 = 1 := by omega
    have e2 : (4294967296 + x - y - c) % 4294967296 = x - y - c := by omega
    rw [e1, e2]
    obtain ⟨k, hk⟩ : ∃ k, x - y - c = k := ⟨_, rfl⟩
    have : k + y + c = x := by omega
    rw [hk]
    grind
/-- A difference that isn't below 0 has no borrow left. -/
theorem minusw_end {xs ys zs : List Nat} {c : Nat} (hz : Eg zs) (hx : Eg xs) (_hy : Eg ys) (hl : zs.length = xs.length) (hc : c ≤ 1) (hle : dw ys ≤ dw xs)
    (h : dw zs + dw (ys.take xs.length) = dw (xs.take xs.length) + c * 4294967296 ^ xs.length) : dw zs = dw xs - dw ys := by
  have h1 := dw_lt hz
  have h2 := dw_lt hx
  have h3 := dw_split ys xs.length
  rw [dw_take_all (Nat.le_refl _)] at h
  rw [hl] at h1
  have h4 : dw (ys.drop xs.length) = 0 := by
    rcases Nat.eq_zero_or_pos (dw (ys.drop xs.length)) with h0 | h0
    · exact h0
    · have := Nat.mul_le_mul_left (4294967296 ^ xs.length) h0
      omega
  rw [h4] at h3
  have : c = 0 ∨ c = 1 := by omega
  rcases this with rfl | rfl <;> omega
/-- The first digits from above that part tell which number is less. -/
theorem lessw_of {xs ys : List Nat} {i : Nat} (hx : Eg xs) (hlt : xs.getD i 0 < ys.getD i 0) (h : ∀ j, i < j → xs.getD j 0 = ys.getD j 0) : dw xs < dw ys := by
  have h1 := dw_split xs (i + 1)
  have h2 := dw_split ys (i + 1)
  have h3 : dw (xs.drop (i + 1)) = dw (ys.drop (i + 1)) := dw_ext fun j => by
    have := h (i + 1 + j) (by omega)
    simpa [List.getD_eq_getElem?_getD, List.getElem?_drop] using this
  have h4 := dw_take_succ xs i
  have h5 := dw_take_succ ys i
  have h6 := dw_take_lt hx i
  have h7 := Nat.mul_le_mul_left (4294967296 ^ i) hlt
  rw [Nat.mul_succ] at h7
  rw [h3] at h1
  omega
/-- One digit of a product. -/
theorem timesw_step {as bs os : List Nat} {i k c : Nat} (hj : i + k < os.length)
    (h : dw os + c * 4294967296 ^ (i + k) = dw (as.take i) * dw bs + as.getD i 0 * 4294967296 ^ i * dw (bs.take k)) :
    dw (os.set (i + k) ((os.getD (i + k) 0 + as.getD i 0 * bs.getD k 0 + c) % 4294967296)) + (os.getD (i + k) 0 + as.getD i 0 * bs.getD k 0 + c) / 4294967296 * 4294967296 ^ (i + (k + 1)) =
      dw (as.take i) * dw bs + as.getD i 0 * 4294967296 ^ i * dw (bs.take (k + 1)) := by
  have hs := dw_set (l := os) ((os.getD (i + k) 0 + as.getD i 0 * bs.getD k 0 + c) % 4294967296) hj
  rw [dw_take_succ, show i + (k + 1) = i + k + 1 by omega, Nat.pow_succ, Nat.pow_add] at *
  have hx := Nat.div_add_mod (os.getD (i + k) 0 + as.getD i 0 * bs.getD k 0 + c) 4294967296
  generalize (os.getD (i + k) 0 + as.getD i 0 * bs.getD k 0 + c) / 4294967296 = q at *
  generalize (os.getD (i + k) 0 + as.getD i 0 * bs.getD k 0 + c) % 4294967296 = r at *
  generalize os.getD (i + k) 0 = o at *
  generalize as.getD i 0 = a at *
  generalize bs.getD k 0 = b at *
  generalize dw (os.set (i + k) r) = z at *
  generalize 4294967296 ^ i = P at *
  generalize 4294967296 ^ k = Q at *
  grind
end Go.Proofs.YthmpkejdficmgaaDoor
