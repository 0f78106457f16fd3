/- Proved here: what the document's numbers of any size answer and leave in memory (ported). Conditions stand at each. -/

namespace Go.Proofs.YtpobhegllhhdgaaGreat

/-- The value of digits, the lowest first. -/
def dv : List Nat → Nat
  | [] => 0
  | d :: r => d + 65536 * dv r

/-- Each digit is one. -/
def Dg (l : List Nat) : Prop := ∀ j, l.getD j 0 < 65536

theorem pw_pos (i : Nat) : 0 < 65536 ^ i := Nat.pow_pos (by decide)
theorem dg_nil : Dg [] := fun _ => by simp
theorem dg_tail {d : Nat} {r : List Nat} (h : Dg (d :: r)) : Dg r := fun j => by simpa using h (j + 1)
theorem dg_head {d : Nat} {r : List Nat} (h : Dg (d :: r)) : d < 65536 := by simpa using h 0
theorem dg_snoc {l : List Nat} {d : Nat} (h : Dg l) (hd : d < 65536) : Dg (l ++ [d]) := fun j => by
  have := h j
  simp only [List.getD_eq_getElem?_getD, List.getElem?_append] at *
  split
  · exact this
  · rcases hj : j - l.length with _ | k <;> simp <;> omega
theorem dg_set {l : List Nat} {d : Nat} (h : Dg l) (i : Nat) (hd : d < 65536) : Dg (l.set i d) := fun j => by
  have := h j
  simp only [List.getD_eq_getElem?_getD, List.getElem?_set] at *
  split
  · split <;> simp <;> omega
  · exact this
theorem dg_zeros (n : Nat) : Dg (List.replicate n 0) := fun j => by
  simp only [List.getD_eq_getElem?_getD, List.getElem?_replicate]
  split <;> simp

theorem dv_zeros (n : Nat) : dv (List.replicate n 0) = 0 := by
  induction n with
  | zero => rfl
  | succ n ih => simp [List.replicate_succ, dv, ih]
theorem dv_snoc (l : List Nat) (d : Nat) : dv (l ++ [d]) = dv l + 65536 ^ l.length * d := by
  induction l with
  | nil => simp [dv]
  | cons a l ih => simp only [List.cons_append, dv, ih, List.length_cons, Nat.pow_succ]; grind
theorem dv_split (l : List Nat) (i : Nat) : dv l = dv (l.take i) + 65536 ^ i * dv (l.drop i) := by
  induction i generalizing l with
  | zero => simp [dv]
  | succ i ih =>
    cases l with
    | nil => simp [dv]
    | cons a l => simp only [List.take_succ_cons, List.drop_succ_cons, dv]; rw [ih l]; grind
theorem dv_take_succ (l : List Nat) (i : Nat) : dv (l.take (i + 1)) = dv (l.take i) + 65536 ^ i * l.getD i 0 := by
  induction i generalizing l with
  | zero => cases l <;> simp [dv]
  | succ i ih =>
    cases l with
    | nil => simp [dv]
    | cons a l => simp only [List.take_succ_cons, dv, List.getD_cons_succ]; rw [ih l]; grind
theorem dv_take_all {l : List Nat} {i : Nat} (h : l.length ≤ i) : dv (l.take i) = dv l := by rw [List.take_of_length_le h]
theorem dv_lt {l : List Nat} (h : Dg l) : dv l < 65536 ^ l.length := by
  induction l with
  | nil => simp [dv]
  | cons a l ih =>
    have h1 := ih (dg_tail h)
    have h2 := dg_head h
    simp only [dv, List.length_cons, Nat.pow_succ]
    omega
theorem dg_take {l : List Nat} (h : Dg l) (i : Nat) : Dg (l.take i) := fun j => by
  have := h j
  simp only [List.getD_eq_getElem?_getD, List.getElem?_take] at *
  split
  · exact this
  · simp
theorem dg_drop {l : List Nat} (h : Dg l) (i : Nat) : Dg (l.drop i) := fun j => by
  have := h (i + j)
  simpa [List.getD_eq_getElem?_getD, List.getElem?_drop] using this
theorem dv_take_lt {l : List Nat} (h : Dg l) (i : Nat) : dv (l.take i) < 65536 ^ i := by
  have h1 := dv_lt (dg_take h i)
  have h2 : (l.take i).length ≤ i := List.length_take_le _ _
  exact Nat.lt_of_lt_of_le h1 (Nat.pow_le_pow_right (by decide) h2)
theorem dv_digit {l : List Nat} (h : Dg l) (j : Nat) : dv l / 65536 ^ j % 65536 = l.getD j 0 := by
  have h1 := dv_split l j
  have h2 := dv_take_lt h j
  rw [h1, Nat.add_mul_div_left _ _ (pw_pos j), Nat.div_eq_of_lt h2, Nat.zero_add]
  have h3 := dg_drop h j
  have h4 : l.getD j 0 = (l.drop j).getD 0 0 := by simp [List.getD_eq_getElem?_getD, List.getElem?_drop]
  rw [h4]
  cases hd : l.drop j with
  | nil => simp [dv]
  | cons a r =>
    rw [hd] at h3
    have := dg_head h3
    simp only [dv, List.getD_cons_zero]
    omega
theorem dv_set {l : List Nat} {j : Nat} (x : Nat) (h : j < l.length) : dv (l.set j x) + 65536 ^ j * l.getD j 0 = dv l + 65536 ^ j * x := by
  induction l generalizing j with
  | nil => simp at h
  | cons a l ih =>
    cases j with
    | zero => simp [dv]; omega
    | succ j =>
      have := ih (j := j) (by simpa using h)
      simp only [List.set_cons_succ, dv, List.getD_cons_succ, Nat.pow_succ]
      grind
theorem dv_zero_of {l : List Nat} (h : ∀ j, l.getD j 0 = 0) : dv l = 0 := by
  induction l with
  | nil => rfl
  | cons a l ih =>
    have h0 : a = 0 := by simpa using h 0
    simp only [dv, h0, ih (fun j => by simpa using h (j + 1))]
theorem dv_ext {l m : List Nat} (h : ∀ j, l.getD j 0 = m.getD j 0) : dv l = dv m := by
  induction l generalizing m with
  | nil => exact (dv_zero_of fun j => by rw [← h j]; simp).symm
  | cons a l ih =>
    cases m with
    | nil => exact dv_zero_of fun j => by rw [h j]; simp
    | cons b m =>
      have h0 : a = b := by simpa using h 0
      rw [dv, dv, h0, ih (fun j => by simpa using h (j + 1))]

/-- One digit of a sum. -/
theorem plus_step {xs ys zs : List Nat} {i c : Nat} (hl : zs.length = i) (h : dv zs + c * 65536 ^ i = dv (xs.take i) + dv (ys.take i)) :
    dv (zs ++ [(xs.getD i 0 + ys.getD i 0 + c) % 65536]) + (xs.getD i 0 + ys.getD i 0 + c) / 65536 * 65536 ^ (i + 1) = dv (xs.take (i + 1)) + dv (ys.take (i + 1)) := by
  rw [dv_snoc, dv_take_succ, dv_take_succ, hl, Nat.pow_succ]
  have hx := Nat.div_add_mod (xs.getD i 0 + ys.getD i 0 + c) 65536
  generalize (xs.getD i 0 + ys.getD i 0 + c) / 65536 = q at *
  generalize (xs.getD i 0 + ys.getD i 0 + c) % 65536 = r at *
  generalize xs.getD i 0 = x at *
  generalize ys.getD i 0 = y at *
  generalize 65536 ^ i = P at *
  grind
/-- One digit of a difference. -/
theorem minus_step {xs ys zs : List Nat} {i c : Nat} (hl : zs.length = i) (hc : c ≤ 1) (hy : ys.getD i 0 < 65536) (hx : xs.getD i 0 < 65536) (h : dv zs + dv (ys.take i) = dv (xs.take i) + c * 65536 ^ i) :
    dv (zs ++ [(65536 + xs.getD i 0 - ys.getD i 0 - c) % 65536]) + dv (ys.take (i + 1)) = dv (xs.take (i + 1)) + (1 - (65536 + xs.getD i 0 - ys.getD i 0 - c) / 65536) * 65536 ^ (i + 1) := by
  rw [dv_snoc, dv_take_succ, dv_take_succ, hl, Nat.pow_succ]
  have e := Nat.div_add_mod (65536 + xs.getD i 0 - ys.getD i 0 - c) 65536
  generalize hx' : xs.getD i 0 = x at *
  generalize hy' : ys.getD i 0 = y at *
  generalize 65536 ^ i = P at *
  have hz : 65536 + x - y - c = 65536 + x - (y + c) := by omega
  rcases Nat.lt_or_ge x (y + c) with hlt | hge
  · have e1 : (65536 + x - y - c) / 65536 = 0 := by omega
    have e2 : (65536 + x - y - c) % 65536 = 65536 + x - y - c := by omega
    rw [e1, e2]
    obtain ⟨k, hk⟩ : ∃ k, 65536 + x - y - c = k := ⟨_, rfl⟩
    have : k + y + c = 65536 + x := by omega
    rw [hk]
    grind
  · have e1 : (65536 + x - y - c) / 65536 = 1 := by omega
    have e2 : (65536 + x - y - c) % 65536 = x - y - c := by omega
    rw [e1, e2]
    obtain ⟨k, hk⟩ : ∃ k, x - y - c = k := ⟨_, rfl⟩
    have : k + y + c = x := by omega
    rw [hk]
    grind
/-- A difference that isn't below 0 has no borrow left. -/
theorem minus_end {xs ys zs : List Nat} {c : Nat} (hz : Dg zs) (hx : Dg xs) (_hy : Dg ys) (hl : zs.length = xs.length) (hc : c ≤ 1) (hle : dv ys ≤ dv xs)
    (h : dv zs + dv (ys.take xs.length) = dv (xs.take xs.length) + c * 65536 ^ xs.length) : dv zs = dv xs - dv ys := by
  have h1 := dv_lt hz
  have h2 := dv_lt hx
  have h3 := dv_split ys xs.length
  rw [dv_take_all (Nat.le_refl _)] at h
  rw [hl] at h1
  have h4 : dv (ys.drop xs.length) = 0 := by
    rcases Nat.eq_zero_or_pos (dv (ys.drop xs.length)) with h0 | h0
    · exact h0
    · have := Nat.mul_le_mul_left (65536 ^ xs.length) h0
      omega
  rw [h4] at h3
  have : c = 0 ∨ c = 1 := by omega
  rcases this with rfl | rfl <;> omega
/-- The first digits from above that part tell which number is less. -/
theorem less_of {xs ys : List Nat} {i : Nat} (hx : Dg xs) (hlt : xs.getD i 0 < ys.getD i 0) (h : ∀ j, i < j → xs.getD j 0 = ys.getD j 0) : dv xs < dv ys := by
  have h1 := dv_split xs (i + 1)
  have h2 := dv_split ys (i + 1)
  have h3 : dv (xs.drop (i + 1)) = dv (ys.drop (i + 1)) := dv_ext fun j => by
    have := h (i + 1 + j) (by omega)
    simpa [List.getD_eq_getElem?_getD, List.getElem?_drop] using this
  have h4 := dv_take_succ xs i
  have h5 := dv_take_succ ys i
  have h6 := dv_take_lt hx i
  have h7 := Nat.mul_le_mul_left (65536 ^ i) hlt
  rw [Nat.mul_succ] at h7
  rw [h3] at h1
  omega
/-- One digit of a product. -/
theorem times_step {as bs os : List Nat} {i k c : Nat} (hj : i + k < os.length)
    (h : dv os + c * 65536 ^ (i + k) = dv (as.take i) * dv bs + as.getD i 0 * 65536 ^ i * dv (bs.take k)) :
    dv (os.set (i + k) ((os.getD (i + k) 0 + as.getD i 0 * bs.getD k 0 + c) % 65536)) + (os.getD (i + k) 0 + as.getD i 0 * bs.getD k 0 + c) / 65536 * 65536 ^ (i + (k + 1)) =
      dv (as.take i) * dv bs + as.getD i 0 * 65536 ^ i * dv (bs.take (k + 1)) := by
  have hs := dv_set (l := os) ((os.getD (i + k) 0 + as.getD i 0 * bs.getD k 0 + c) % 65536) hj
  rw [dv_take_succ, show i + (k + 1) = i + k + 1 by omega, Nat.pow_succ, Nat.pow_add] at *
  have hx := Nat.div_add_mod (os.getD (i + k) 0 + as.getD i 0 * bs.getD k 0 + c) 65536
  generalize (os.getD (i + k) 0 + as.getD i 0 * bs.getD k 0 + c) / 65536 = q at *
  generalize (os.getD (i + k) 0 + as.getD i 0 * bs.getD k 0 + c) % 65536 = r at *
  generalize os.getD (i + k) 0 = o at *
  generalize as.getD i 0 = a at *
  generalize bs.getD k 0 = b at *
  generalize dv (os.set (i + k) r) = z at *
  generalize 65536 ^ i = P at *
  generalize 65536 ^ k = Q at *
  grind
end Go.Proofs.YtpobhegllhhdgaaGreat

namespace Go.Proofs.YtpobhegllhhdgaaGreat

/-- The value of digits, the lowest first. -/
def dw : List Nat → Nat
  | [] => 0
  | d :: r => d + 4294967296 * dw r

/-- Each digit is one. -/
def Eg (l : List Nat) : Prop := ∀ j, l.getD j 0 < 4294967296

theorem qw_pos (i : Nat) : 0 < 4294967296 ^ i := Nat.pow_pos (by decide)
theorem eg_nil : Eg [] := fun _ => by simp
theorem eg_tail {d : Nat} {r : List Nat} (h : Eg (d :: r)) : Eg r := fun j => by simpa using h (j + 1)
theorem eg_head {d : Nat} {r : List Nat} (h : Eg (d :: r)) : d < 4294967296 := by simpa using h 0
theorem eg_set {l : List Nat} {d : Nat} (h : Eg l) (i : Nat) (hd : d < 4294967296) : Eg (l.set i d) := fun j => by
  have := h j
  simp only [List.getD_eq_getElem?_getD, List.getElem?_set] at *
  split
  · split <;> simp <;> omega
  · exact this
theorem eg_zeros (n : Nat) : Eg (List.replicate n 0) := fun j => by
  simp only [List.getD_eq_getElem?_getD, List.getElem?_replicate]
  split <;> simp

theorem dw_zeros (n : Nat) : dw (List.replicate n 0) = 0 := by
  induction n with
  | zero => rfl
  | succ n ih => simp [List.replicate_succ, dw, ih]
theorem dw_split (l : List Nat) (i : Nat) : dw l = dw (l.take i) + 4294967296 ^ i * dw (l.drop i) := by
  induction i generalizing l with
  | zero => simp [dw]
  | succ i ih =>
    cases l with
    | nil => simp [dw]
    | cons a l => simp only [List.take_succ_cons, List.drop_succ_cons, dw]; rw [ih l]; grind
theorem dw_take_succ (l : List Nat) (i : Nat) : dw (l.take (i + 1)) = dw (l.take i) + 4294967296 ^ i * l.getD i 0 := by
  induction i generalizing l with
  | zero => cases l <;> simp [dw]
  | succ i ih =>
    cases l with
    | nil => simp [dw]
    | cons a l => simp only [List.take_succ_cons, dw, List.getD_cons_succ]; rw [ih l]; grind
theorem dw_take_all {l : List Nat} {i : Nat} (h : l.length ≤ i) : dw (l.take i) = dw l := by rw [List.take_of_length_le h]
theorem dw_lt {l : List Nat} (h : Eg l) : dw l < 4294967296 ^ l.length := by
  induction l with
  | nil => simp [dw]
  | cons a l ih =>
    have h1 := ih (eg_tail h)
    have h2 := eg_head h
    simp only [dw, List.length_cons, Nat.pow_succ]
    omega
theorem eg_take {l : List Nat} (h : Eg l) (i : Nat) : Eg (l.take i) := fun j => by
  have := h j
  simp only [List.getD_eq_getElem?_getD, List.getElem?_take] at *
  split
  · exact this
  · simp
theorem eg_drop {l : List Nat} (h : Eg l) (i : Nat) : Eg (l.drop i) := fun j => by
  have := h (i + j)
  simpa [List.getD_eq_getElem?_getD, List.getElem?_drop] using this
theorem dw_take_lt {l : List Nat} (h : Eg l) (i : Nat) : dw (l.take i) < 4294967296 ^ i := by
  have h1 := dw_lt (eg_take h i)
  have h2 : (l.take i).length ≤ i := List.length_take_le _ _
  exact Nat.lt_of_lt_of_le h1 (Nat.pow_le_pow_right (by decide) h2)
theorem dw_digit {l : List Nat} (h : Eg l) (j : Nat) : dw l / 4294967296 ^ j % 4294967296 = l.getD j 0 := by
  have h1 := dw_split l j
  have h2 := dw_take_lt h j
  rw [h1, Nat.add_mul_div_left _ _ (qw_pos j), Nat.div_eq_of_lt h2, Nat.zero_add]
  have h3 := eg_drop h j
  have h4 : l.getD j 0 = (l.drop j).getD 0 0 := by simp [List.getD_eq_getElem?_getD, List.getElem?_drop]
  rw [h4]
  cases hd : l.drop j with
  | nil => simp [dw]
  | cons a r =>
    rw [hd] at h3
    have := eg_head h3
    simp only [dw, List.getD_cons_zero]
    omega
theorem dw_set {l : List Nat} {j : Nat} (x : Nat) (h : j < l.length) : dw (l.set j x) + 4294967296 ^ j * l.getD j 0 = dw l + 4294967296 ^ j * x := by
  induction l generalizing j with
  | nil => simp at h
  | cons a l ih =>
    cases j with
    | zero => simp [dw]; omega
    | succ j =>
      have := ih (j := j) (by simpa using h)
      simp only [List.set_cons_succ, dw, List.getD_cons_succ, Nat.pow_succ]
      grind
theorem dw_zero_of {l : List Nat} (h : ∀ j, l.getD j 0 = 0) : dw l = 0 := by
  induction l with
  | nil => rfl
  | cons a l ih =>
    have h0 : a = 0 := by simpa using h 0
    simp only [dw, h0, ih (fun j => by simpa using h (j + 1))]
theorem dw_ext {l m : List Nat} (h : ∀ j, l.getD j 0 = m.getD j 0) : dw l = dw m := by
  induction l generalizing m with
  | nil => exact (dw_zero_of fun j => by rw [← h j]; simp).symm
  | cons a l ih =>
    cases m with
    | nil => exact dw_zero_of fun j => by rw [h j]; simp
    | cons b m =>
      have h0 : a = b := by simpa using h 0
      rw [dw, dw, h0, ih (fun j => by simpa using h (j + 1))]

/-- A difference that isn't below 0 has no borrow left. -/
theorem minusw_end {xs ys zs : List Nat} {c : Nat} (hz : Eg zs) (hx : Eg xs) (_hy : Eg ys) (hl : zs.length = xs.length) (hc : c ≤ 1) (hle : dw ys ≤ dw xs)
    (h : dw zs + dw (ys.take xs.length) = dw (xs.take xs.length) + c * 4294967296 ^ xs.length) : dw zs = dw xs - dw ys := by
  have h1 := dw_lt hz
  have h2 := dw_lt hx
  have h3 := dw_split ys xs.length
  rw [dw_take_all (Nat.le_refl _)] at h
  rw [hl] at h1
  have h4 : dw (ys.drop xs.length) = 0 := by
    rcases Nat.eq_zero_or_pos (dw (ys.drop xs.length)) with h0 | h0
    · exact h0
    · have := Nat.mul_le_mul_left (4294967296 ^ xs.length) h0
      omega
  rw [h4] at h3
  have : c = 0 ∨ c = 1 := by omega
  rcases this with rfl | rfl <;> omega
/-- The first digits from above that part tell which number is less. -/
theorem lessw_of {xs ys : List Nat} {i : Nat} (hx : Eg xs) (hlt : xs.getD i 0 < ys.getD i 0) (h : ∀ j, i < j → xs.getD j 0 = ys.getD j 0) : dw xs < dw ys := by
  have h1 := dw_split xs (i + 1)
  have h2 := dw_split ys (i + 1)
  have h3 : dw (xs.drop (i + 1)) = dw (ys.drop (i + 1)) := dw_ext fun j => by
    have := h (i + 1 + j) (by omega)
    simpa [List.getD_eq_getElem?_getD, List.getElem?_drop] using this
  have h4 := dw_take_succ xs i
  have h5 := dw_take_succ ys i
  have h6 := dw_take_lt hx i
  have h7 := Nat.mul_le_mul_left (4294967296 ^ i) hlt
  rw [Nat.mul_succ] at h7
  rw [h3] at h1
  omega
/-- One digit of a product. -/
theorem timesw_step {as bs os : List Nat} {i k c : Nat} (hj : i + k < os.length)
    (h : dw os + c * 4294967296 ^ (i + k) = dw (as.take i) * dw bs + as.getD i 0 * 4294967296 ^ i * dw (bs.take k)) :
    dw (os.set (i + k) ((os.getD (i + k) 0 + as.getD i 0 * bs.getD k 0 + c) % 4294967296)) + (os.getD (i + k) 0 + as.getD i 0 * bs.getD k 0 + c) / 4294967296 * 4294967296 ^ (i + (k + 1)) =
      dw (as.take i) * dw bs + as.getD i 0 * 4294967296 ^ i * dw (bs.take (k + 1)) := by
  have hs := dw_set (l := os) ((os.getD (i + k) 0 + as.getD i 0 * bs.getD k 0 + c) % 4294967296) hj
  rw [dw_take_succ, show i + (k + 1) = i + k + 1 by omega, Nat.pow_succ, Nat.pow_add] at *
  have hx := Nat.div_add_mod (os.getD (i + k) 0 + as.getD i 0 * bs.getD k 0 + c) 4294967296
  generalize (os.getD (i + k) 0 + as.getD i 0 * bs.getD k 0 + c) / 4294967296 = q at *
  generalize (os.getD (i + k) 0 + as.getD i 0 * bs.getD k 0 + c) % 4294967296 = r at *
  generalize os.getD (i + k) 0 = o at *
  generalize as.getD i 0 = a at *
  generalize bs.getD k 0 = b at *
  generalize dw (os.set (i + k) r) = z at *
  generalize 4294967296 ^ i = P at *
  generalize 4294967296 ^ k = Q at *
  grind
end Go.Proofs.YtpobhegllhhdgaaGreat

namespace Go.Proofs.YtpobhegllhhdgaaGreat

/-- A digit, 0 beyond the highest. -/
def dat (xs : List Nat) (i : Nat) : Nat := xs.getD i 0
theorem dat_beyond {xs : List Nat} {i : Nat} (h : xs.length ≤ i) : dat xs i = 0 := by simp [dat, List.getElem?_eq_none h]
theorem dat_take {xs : List Nat} {i n : Nat} (h : i < n) : dat (xs.take n) i = dat xs i := by simp [dat, h]
/-- The highest digit isn't 0. -/
def Top (xs : List Nat) : Prop := xs ≠ [] → dat xs (xs.length - 1) ≠ 0
theorem top_nil : Top [] := fun h => absurd rfl h
/-- From n on all digits are 0, and n is the least such. -/
def Tl (xs : List Nat) (n : Nat) : Prop := n ≤ xs.length ∧ (∀ j, n ≤ j → dat xs j = 0) ∧ (n = 0 ∨ dat xs (n - 1) ≠ 0)
theorem Tl.top {xs : List Nat} {n : Nat} (h : Tl xs n) : Top (xs.take n) := by
  intro hne
  have hl : (xs.take n).length = n := List.length_take_of_le h.1
  have hn : n ≠ 0 := by rintro rfl; simp at hne
  rw [hl, dat_take (by omega)]
  exact h.2.2.resolve_left hn
theorem take_zeros {xs : List Nat} {n : Nat} (h : ∀ j, n ≤ j → dat xs j = 0) (j : Nat) : (xs.take n).getD j 0 = xs.getD j 0 := by
  rcases Nat.lt_or_ge j n with hj | hj
  · exact dat_take hj
  · have := h j hj
    simp only [dat] at this
    rw [this]
    simp [List.getElem?_take, Nat.not_lt.2 hj]
theorem Tl.dv {xs : List Nat} {n : Nat} (h : Tl xs n) : dv (xs.take n) = dv xs := dv_ext (take_zeros h.2.1)
theorem Tl.dw {xs : List Nat} {n : Nat} (h : Tl xs n) : dw (xs.take n) = dw xs := dw_ext (take_zeros h.2.1)

theorem top_ge16 {xs : List Nat} (ht : Top xs) (hne : xs ≠ []) : 65536 ^ (xs.length - 1) ≤ dv xs := by
  have h1 := dv_split xs (xs.length - 1)
  have h2 := dv_take_succ xs (xs.length - 1)
  have hl : xs.length - 1 + 1 = xs.length := by have := List.length_pos_iff.2 hne; omega
  rw [hl, dv_take_all (Nat.le_refl _)] at h2
  have h3 := ht hne
  have h4 : 65536 ^ (xs.length - 1) * 1 ≤ 65536 ^ (xs.length - 1) * xs.getD (xs.length - 1) 0 := Nat.mul_le_mul_left _ (by unfold dat at h3; omega)
  omega
theorem top_ge32 {xs : List Nat} (ht : Top xs) (hne : xs ≠ []) : 4294967296 ^ (xs.length - 1) ≤ dw xs := by
  have h2 := dw_take_succ xs (xs.length - 1)
  have hl : xs.length - 1 + 1 = xs.length := by have := List.length_pos_iff.2 hne; omega
  rw [hl, dw_take_all (Nat.le_refl _)] at h2
  have h3 := ht hne
  have h4 : 4294967296 ^ (xs.length - 1) * 1 ≤ 4294967296 ^ (xs.length - 1) * xs.getD (xs.length - 1) 0 := Nat.mul_le_mul_left _ (by unfold dat at h3; omega)
  omega
theorem top_zero16 {xs : List Nat} (ht : Top xs) : dv xs = 0 ↔ xs = [] := by
  refine ⟨fun h => Decidable.byContradiction fun hne => ?_, fun h => by rw [h]; rfl⟩
  have := top_ge16 ht hne
  have := pw_pos (xs.length - 1)
  omega
theorem top_zero32 {xs : List Nat} (ht : Top xs) : dw xs = 0 ↔ xs = [] := by
  refine ⟨fun h => Decidable.byContradiction fun hne => ?_, fun h => by rw [h]; rfl⟩
  have := top_ge32 ht hne
  have := qw_pos (xs.length - 1)
  omega
theorem top_len16 {xs : List Nat} {n : Nat} (ht : Top xs) (h : dv xs < 65536 ^ n) : xs.length ≤ n := by
  rcases Nat.lt_or_ge n xs.length with hl | hl
  · have h1 := top_ge16 ht (by rintro rfl; simp at hl)
    have h2 : 65536 ^ n ≤ 65536 ^ (xs.length - 1) := Nat.pow_le_pow_right (by decide) (by omega)
    omega
  · exact hl
/-- The shorter one of two numbers without zeros at the top is the lesser one. -/
theorem len_lt16 {xs ys : List Nat} (hy : Top ys) (hx : Dg xs) (h : xs.length < ys.length) : dv xs < dv ys := by
  have h1 := dv_lt hx
  have h2 := top_ge16 hy (by rintro rfl; simp at h)
  have h3 : 65536 ^ xs.length ≤ 65536 ^ (ys.length - 1) := Nat.pow_le_pow_right (by decide) (by omega)
  omega
theorem len_lt32 {xs ys : List Nat} (hy : Top ys) (hx : Eg xs) (h : xs.length < ys.length) : dw xs < dw ys := by
  have h1 := dw_lt hx
  have h2 := top_ge32 hy (by rintro rfl; simp at h)
  have h3 : 4294967296 ^ xs.length ≤ 4294967296 ^ (ys.length - 1) := Nat.pow_le_pow_right (by decide) (by omega)
  omega
theorem len_eq32 {xs ys : List Nat} (hx : Eg xs) (hy : Eg ys) (tx : Top xs) (ty : Top ys) (h : dw xs = dw ys) : xs.length = ys.length := by
  rcases Nat.lt_trichotomy xs.length ys.length with h1 | h1 | h1
  · have := len_lt32 ty hx h1; omega
  · exact h1
  · have := len_lt32 tx hy h1; omega
theorem same_digits32 {xs ys : List Nat} (hx : Eg xs) (hy : Eg ys) (h : dw xs = dw ys) (j : Nat) : dat xs j = dat ys j := by
  unfold dat
  rw [← dw_digit hx j, ← dw_digit hy j, h]

/-- The number of a sign and of a size. -/
def sv (n : Bool) (x : Nat) : Int := if n then -(x : Int) else (x : Int)
theorem sv_true (x : Nat) : sv true x = -(x : Int) := rfl
theorem sv_false (x : Nat) : sv false x = (x : Int) := rfl
/-- 0 isn't Neg. -/
def Can (n : Bool) (xs : List Nat) : Prop := Top xs ∧ (xs = [] → n = false)
theorem sv_same {n m : Bool} {x y : Nat} (h : sv n x = sv m y) (hn : x = 0 → n = false) (hm : y = 0 → m = false) : n = m ∧ x = y := by
  cases n <;> cases m <;> simp [sv] at h hn hm ⊢ <;> omega
theorem can32 {n m : Bool} {xs ys : List Nat} (hn : Can n xs) (hm : Can m ys) (hx : Eg xs) (hy : Eg ys) (h : sv n (dw xs) = sv m (dw ys)) : n = m ∧ xs.length = ys.length ∧ ∀ j, dat xs j = dat ys j := by
  obtain ⟨h1, h2⟩ := sv_same h (fun h0 => hn.2 ((top_zero32 hn.1).1 h0)) (fun h0 => hm.2 ((top_zero32 hm.1).1 h0))
  exact ⟨h1, len_eq32 hx hy hn.1 hm.1 h2, same_digits32 hx hy h2⟩

/-- Each digit in two halves. -/
def halves : List Nat → List Nat
  | [] => []
  | d :: r => d % 65536 :: d / 65536 :: halves r
theorem halves_len (xs : List Nat) : (halves xs).length = 2 * xs.length := by
  induction xs with
  | nil => rfl
  | cons d r ih => simp [halves, ih]; omega
theorem halves_snoc (xs : List Nat) (d : Nat) : halves (xs ++ [d]) = halves xs ++ [d % 65536, d / 65536] := by
  induction xs with
  | nil => rfl
  | cons a r ih => simp [halves, ih]
theorem halves_val (xs : List Nat) : dv (halves xs) = dw xs := by
  induction xs with
  | nil => rfl
  | cons d r ih => simp only [halves, dv, dw, ih]; omega
theorem halves_dg {xs : List Nat} (h : Eg xs) : Dg (halves xs) := by
  induction xs with
  | nil => exact dg_nil
  | cons d r ih =>
    intro j
    have h0 := eg_head h
    have h1 := ih (eg_tail h)
    rcases j with _ | _ | j
    · simp [halves]; omega
    · simp [halves]; omega
    · simpa [halves] using h1 j
/-- Two digits at a time made one. -/
def pairs : List Nat → List Nat
  | [] => []
  | [d] => [d]
  | d :: e :: r => (d + 65536 * e) :: pairs r
theorem pairs_val (xs : List Nat) : dw (pairs xs) = dv xs := by
  fun_induction pairs xs with
  | case1 => rfl
  | case2 d => simp [dw, dv]
  | case3 d e r ih => simp only [dw, dv, ih]; omega
theorem pairs_len (xs : List Nat) : (pairs xs).length = (xs.length + 1) / 2 := by
  fun_induction pairs xs with
  | case1 => rfl
  | case2 d => simp
  | case3 d e r ih => simp [ih]; omega
theorem pairs_dat (xs : List Nat) (j : Nat) : dat (pairs xs) j = dat xs (2 * j) + dat xs (2 * j + 1) * 65536 := by
  fun_induction pairs xs generalizing j with
  | case1 => simp [dat]
  | case2 d => rcases j with _ | j <;> simp [dat]
  | case3 d e r ih =>
    rcases j with _ | j
    · simp [dat]; omega
    · have := ih j
      simp only [dat, List.getD_eq_getElem?_getD, Nat.mul_add] at *
      simpa using this
theorem pairs_eg {xs : List Nat} (h : Dg xs) : Eg (pairs xs) := by
  intro j
  have h1 := h (2 * j)
  have h2 := h (2 * j + 1)
  have h3 := pairs_dat xs j
  simp only [dat] at h3
  omega
theorem pairs_top {xs : List Nat} (ht : Top xs) : Top (pairs xs) := by
  intro hne
  have hx : xs ≠ [] := by rintro rfl; exact hne rfl
  have h := ht hx
  have hl := List.length_pos_iff.2 hx
  rw [pairs_dat, pairs_len]
  rcases Nat.mod_two_eq_zero_or_one xs.length with h2 | h2
  · have : 2 * ((xs.length + 1) / 2 - 1) + 1 = xs.length - 1 := by omega
    rw [this]; omega
  · have : 2 * ((xs.length + 1) / 2 - 1) = xs.length - 1 := by omega
    rw [this]; omega
theorem pairs_nil {xs : List Nat} (h : pairs xs = []) : xs = [] := by
  fun_induction pairs xs with
  | case1 => rfl
  | case2 d => cases h
  | case3 d e r ih => cases h
/-- The digits that are told by pairs up to 2 * k. -/
theorem pairs_take_succ (xs : List Nat) (k : Nat) (h : 2 * k < xs.length) : (pairs xs).take (k + 1) = (pairs xs).take k ++ [dat xs (2 * k) + dat xs (2 * k + 1) * 65536] := by
  have hl : k < (pairs xs).length := by rw [pairs_len]; omega
  rw [List.take_succ_eq_append_getElem hl]
  have := pairs_dat xs k
  simp only [dat, List.getD_eq_getElem?_getD, List.getElem?_eq_getElem hl, Option.getD_some] at this
  rw [this]
  rfl
end Go.Proofs.YtpobhegllhhdgaaGreat

namespace Go.Proofs.YtpobhegllhhdgaaGreat

/-- One digit of the division: q isn't less than the true one, and what is left over is known. -/
structure KnuthR (u y1 y0 d q r : Nat) : Prop where
  ge : (u * 4294967296 + d) / (y1 * 4294967296 + y0) ≤ q
  eq : q * y1 + r = u
  le : q ≤ 4294967297
  rl : r < 4294967296
theorem knuth_start {u y1 y0 d : Nat} (h1 : 2147483648 ≤ y1) (h1' : y1 < 4294967296) (h0 : y0 < 4294967296) (hd : d < 4294967296) (hu : u < y1 * 4294967296 + y0) :
    KnuthR u y1 y0 d (u / y1) (u % y1) := by
  have hm := Nat.div_add_mod u y1
  have hr := Nat.mod_lt u (show 0 < y1 by omega)
  refine ⟨?_, Nat.div_add_mod' u y1, ?_, Nat.lt_trans hr h1'⟩
  · rw [Nat.le_div_iff_mul_le (by omega)]
    have h2 := Nat.div_mul_le_self (u * 4294967296 + d) (y1 * 4294967296 + y0)
    generalize (u * 4294967296 + d) / (y1 * 4294967296 + y0) = Q at *
    have h3 : Q * (y1 * 4294967296 + y0) = Q * y1 * 4294967296 + Q * y0 := by grind
    rw [h3] at h2
    have h5 : Q * y1 * 4294967296 ≤ u * 4294967296 + d := Nat.le_trans (Nat.le_add_right _ _) h2
    generalize Q * y1 = T at h5 ⊢
    clear h2 h3
    omega
  · have : u / y1 < 4294967298 := by
      rw [Nat.div_lt_iff_lt_mul (by omega)]
      omega
    omega
/-- The true digit is below 2^32. -/
theorem knuth_small {u y d : Nat} (hd : d < 4294967296) (hu : u < y) : (u * 4294967296 + d) / y < 4294967296 := by
  rw [Nat.div_lt_iff_lt_mul (by omega)]
  omega
/-- The digit that is too great is lowered. -/
theorem knuth_step {u y1 y0 d q r : Nat} (hd : d < 4294967296) (hu : u < y1 * 4294967296 + y0) (h : KnuthR u y1 y0 d q r) (hc : 4294967296 ≤ q ∨ 4294967296 * r + d < q * y0) :
    1 ≤ q ∧ (u * 4294967296 + d) / (y1 * 4294967296 + y0) ≤ q - 1 ∧ (q - 1) * y1 + (r + y1) = u ∧ q - 1 ≤ 4294967296 := by
  obtain ⟨h1, h2, h3, h4⟩ := h
  have hs := knuth_small hd hu
  have hq : 1 ≤ q := by
    rcases hc with hc | hc
    · omega
    · rcases Nat.eq_zero_or_pos q with h0 | h0
      · subst h0; omega
      · exact h0
  obtain ⟨p, rfl⟩ : ∃ p, q = p + 1 := ⟨q - 1, by omega⟩
  refine ⟨hq, ?_, ?_, by omega⟩
  · show _ ≤ p
    rcases hc with hc | hc
    · omega
    · have h5 : (u * 4294967296 + d) / (y1 * 4294967296 + y0) < p + 1 := by
        rw [Nat.div_lt_iff_lt_mul (by omega)]
        have h6 : (p + 1) * (y1 * 4294967296 + y0) = (p + 1) * y1 * 4294967296 + (p + 1) * y0 := by grind
        rw [h6]
        omega
      omega
  · have h6 : (p + 1) * y1 = p * y1 + y1 := by grind
    show p * y1 + (r + y1) = u
    omega
/-- A digit that isn't too great is the true one. -/
theorem knuth_end {u y1 y0 d q r : Nat} (hy : 0 < y1) (h1 : (u * 4294967296 + d) / (y1 * 4294967296 + y0) ≤ q) (h2 : q * y1 + r = u) (hc : q * y0 ≤ 4294967296 * r + d) :
    q = (u * 4294967296 + d) / (y1 * 4294967296 + y0) := by
  refine Nat.le_antisymm ?_ h1
  rw [Nat.le_div_iff_mul_le (by omega)]
  have h6 : q * (y1 * 4294967296 + y0) = q * y1 * 4294967296 + q * y0 := by grind
  rw [h6]
  omega
/-- What is left over is so great that the digit isn't too great. -/
theorem knuth_break {y0 d q r : Nat} (h0 : y0 < 4294967296) (hq : q ≤ 4294967296) (hr : 4294967296 ≤ r) : q * y0 ≤ 4294967296 * r + d := by
  have h1 := Nat.mul_le_mul hq (show y0 ≤ 4294967295 by omega)
  omega
theorem knuth_one {A y d0 : Nat} (hy : 0 < y) :
    (A * 4294967296 + d0) / y = A / y * 4294967296 + (A % y * 4294967296 + d0) / y ∧ (A * 4294967296 + d0) % y = (A % y * 4294967296 + d0) % y := by
  have hA := Nat.div_add_mod A y
  have e2 : A * 4294967296 + d0 = A % y * 4294967296 + d0 + y * (A / y * 4294967296) := by
    generalize A / y = Q at *
    generalize A % y = R at *
    subst hA
    grind
  constructor
  · have h := Nat.add_mul_div_left (A % y * 4294967296 + d0) (A / y * 4294967296) hy
    rw [← e2] at h
    rw [h, Nat.add_comm]
  · have h := Nat.add_mul_mod_self_left (A % y * 4294967296 + d0) y (A / y * 4294967296)
    rw [← e2] at h
    exact h
/-- Two digits make the quotient. -/
theorem knuth_two {u y d1 d0 : Nat} (hy : 0 < y) :
    (u * 18446744073709551616 + (d1 * 4294967296 + d0)) / y = (u * 4294967296 + d1) / y * 4294967296 + ((u * 4294967296 + d1) % y * 4294967296 + d0) / y ∧
    (u * 18446744073709551616 + (d1 * 4294967296 + d0)) % y = ((u * 4294967296 + d1) % y * 4294967296 + d0) % y := by
  have e : u * 18446744073709551616 + (d1 * 4294967296 + d0) = (u * 4294967296 + d1) * 4294967296 + d0 := by omega
  rw [e]
  exact knuth_one hy
/-- What is left over, reckoned in 64 bits that go round. -/
theorem knuth_rest {u y d q : Nat} (hy : 0 < y) (hy' : y < 18446744073709551616) (hq : q = (u * 4294967296 + d) / y) :
    (((u : Int) * 4294967296 + d - q * y) % 18446744073709551616) = (((u * 4294967296 + d) % y : Nat) : Int) := by
  have h := Nat.div_add_mod (u * 4294967296 + d) y
  have hlt := Nat.mod_lt (u * 4294967296 + d) hy
  rw [← hq] at h
  have e : (u : Int) * 4294967296 + d - q * y = (((u * 4294967296 + d) % y : Nat) : Int) := by
    have h' : ((y * q + (u * 4294967296 + d) % y : Nat) : Int) = ((u * 4294967296 + d : Nat) : Int) := by rw [h]
    simp only [Int.natCast_add, Int.natCast_mul] at h'
    have hc : (q : Int) * y = y * q := Int.mul_comm _ _
    rw [hc]
    have h4 : ((4294967296 : Nat) : Int) = 4294967296 := rfl
    omega
  rw [e]
  omega
end Go.Proofs.YtpobhegllhhdgaaGreat

