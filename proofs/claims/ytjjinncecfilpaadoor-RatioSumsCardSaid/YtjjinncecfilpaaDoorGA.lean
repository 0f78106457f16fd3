/- Proved here: plain facts on lists of digits in base 65536 (their value, sums, differences, products, quotients). No condition. · plain facts on lists of digits in base 4294967296 (their value, sums, differences, products, quotients). No condition. · plain facts on signs, on digits without zeros at the top, and between digits in base 65536 and in base 4294967296. No condition. · plain facts on the division of a number of 128 bits by one of 64 bits, as math/bits does it. No condition beyond those named. · plain facts on numerals in base ten, and how they part into pieces. No condition. · plain facts on a numeral in pieces of 19 decimal digits. No condition beyond those named. · which texts are numbers' texts, and that a number's text is read as the number again. No condition. -/
import Derived.Lib.ItoaNum
import Derived.Lib.Repeat
import Derived.Lib.Strings
namespace Go.Proofs.YtjjinncecfilpaaDoor

/-- The value of digits, the lowest first. -/
def dv : List Nat → Nat
  | [] => 0
  | d :: r => d + 65536 * dv r

/-- Each digit is one. -/
def Dg (l : List Nat) : Prop := ∀ j, l.getD j 0 < 65536

theorem pw_pos (i : Nat) : 0 < 65536 ^ i := Nat.pow_pos (by decide)
theorem dg_nil : Dg [] := fun _ => by simp
theorem dg_tail {d : Nat} {r : List Nat} (h : Dg (d :: r)) : Dg r := fun j => by simpa using h (j + 1)
theorem dg_head {d : Nat} {r : List Nat} (h : Dg (d :: r)) : d < 65536 := by simpa using h 0
theorem dg_snoc {l : List Nat} {d : Nat} (h : Dg l) (hd : d < 65536) : Dg (l ++ [d]) := fun j => by
  have := h j
  simp only [List.getD_eq_getElem?_getD, List.getElem?_append] at *
  split
  · exact this
  · rcases hj : j - l.length with _ | k <;> simp <;> omega
theorem dg_set {l : List Nat} {d : Nat} (h : Dg l) (i : Nat) (hd : d < 65536) : Dg (l.set i d) := fun j => by
  have := h j
  simp only [List.getD_eq_getElem?_getD, List.getElem?_set] at *
  split
  · split <;> simp <;> omega
  · exact this
theorem dg_zeros (n : Nat) : Dg (List.replicate n 0) := fun j => by
  simp only [List.getD_eq_getElem?_getD, List.getElem?_replicate]
  split <;> simp

theorem dv_zeros (n : Nat) : dv (List.replicate n 0) = 0 := by
  induction n with
  | zero => rfl
  | succ n ih => simp [List.replicate_succ, dv, ih]
theorem dv_snoc (l : List Nat) (d : Nat) : dv (l ++ [d]) = dv l + 65536 ^ l.length * d := by
  induction l with
  | nil => simp [dv]
  | cons a l ih => simp only [List.cons_append, dv, ih, List.length_cons, Nat.pow_succ]; grind
theorem dv_split (l : List Nat) (i : Nat) : dv l = dv (l.take i) + 65536 ^ i * dv (l.drop i) := by
  induction i generalizing l with
  | zero => simp [dv]
  | succ i ih =>
    cases l with
    | nil => simp [dv]
    | cons a l => simp only [List.take_succ_cons, List.drop_succ_cons, dv]; rw [ih l]; grind
theorem dv_take_succ (l : List Nat) (i : Nat) : dv (l.take (i + 1)) = dv (l.take i) + 65536 ^ i * l.getD i 0 := by
  induction i generalizing l with
  | zero => cases l <;> simp [dv]
  | succ i ih =>
    cases l with
    | nil => simp [dv]
    | cons a l => simp only [List.take_succ_cons, dv, List.getD_cons_succ]; rw [ih l]; grind
theorem dv_take_all {l : List Nat} {i : Nat} (h : l.length ≤ i) : dv (l.take i) = dv l := by rw [List.take_of_length_le h]
theorem dv_lt {l : List Nat} (h : Dg l) : dv l < 65536 ^ l.length := by
  induction l with
  | nil => simp [dv]
  | cons a l ih =>
    have h1 := ih (dg_tail h)
    have h2 := dg_head h
    simp only [dv, List.length_cons, Nat.pow_succ]
    omega
theorem dg_take {l : List Nat} (h : Dg l) (i : Nat) : Dg (l.take i) := fun j => by
  have := h j
  simp only [List.getD_eq_getElem?_getD, List.getElem?_take] at *
  split
  · exact this
  · simp
theorem dg_drop {l : List Nat} (h : Dg l) (i : Nat) : Dg (l.drop i) := fun j => by
  have := h (i + j)
  simpa [List.getD_eq_getElem?_getD, List.getElem?_drop] using this
theorem dv_take_lt {l : List Nat} (h : Dg l) (i : Nat) : dv (l.take i) < 65536 ^ i := by
  have h1 := dv_lt (dg_take h i)
  have h2 : (l.take i).length ≤ i := List.length_take_le _ _
  exact Nat.lt_of_lt_of_le h1 (Nat.pow_le_pow_right (by decide) h2)
theorem dv_take_le (l : List Nat) (i : Nat) : dv (l.take i) ≤ dv l := by
  have := dv_split l i
  omega
theorem dv_digit {l : List Nat} (h : Dg l) (j : Nat) : dv l / 65536 ^ j % 65536 = l.getD j 0 := by
  have h1 := dv_split l j
  have h2 := dv_take_lt h j
  rw [h1, Nat.add_mul_div_left _ _ (pw_pos j), Nat.div_eq_of_lt h2, Nat.zero_add]
  have h3 := dg_drop h j
  have h4 : l.getD j 0 = (l.drop j).getD 0 0 := by simp [List.getD_eq_getElem?_getD, List.getElem?_drop]
  rw [h4]
  cases hd : l.drop j with
  | nil => simp [dv]
  | cons a r =>
    rw [hd] at h3
    have := dg_head h3
    simp only [dv, List.getD_cons_zero]
    omega
theorem dv_high {l : List Nat} (h : Dg l) {n j : Nat} (hv : dv l < 65536 ^ n) (hj : n ≤ j) : l.getD j 0 = 0 := by
  rw [← dv_digit h j, Nat.div_eq_of_lt (Nat.lt_of_lt_of_le hv (Nat.pow_le_pow_right (by decide) hj))]
theorem dv_set {l : List Nat} {j : Nat} (x : Nat) (h : j < l.length) : dv (l.set j x) + 65536 ^ j * l.getD j 0 = dv l + 65536 ^ j * x := by
  induction l generalizing j with
  | nil => simp at h
  | cons a l ih =>
    cases j with
    | zero => simp [dv]; omega
    | succ j =>
      have := ih (j := j) (by simpa using h)
      simp only [List.set_cons_succ, dv, List.getD_cons_succ, Nat.pow_succ]
      grind
theorem dv_zero_of {l : List Nat} (h : ∀ j, l.getD j 0 = 0) : dv l = 0 := by
  induction l with
  | nil => rfl
  | cons a l ih =>
    have h0 : a = 0 := by simpa using h 0
    simp only [dv, h0, ih (fun j => by simpa using h (j + 1))]
theorem dv_ext {l m : List Nat} (h : ∀ j, l.getD j 0 = m.getD j 0) : dv l = dv m := by
  induction l generalizing m with
  | nil => exact (dv_zero_of fun j => by rw [← h j]; simp).symm
  | cons a l ih =>
    cases m with
    | nil => exact dv_zero_of fun j => by rw [h j]; simp
    | cons b m =>
      have h0 : a = b := by simpa using h 0
      rw [dv, dv, h0, ih (fun j => by simpa using h (j + 1))]

/-- One digit of a sum. -/
theorem plus_step {xs ys zs : List Nat} {i c : Nat} (hl : zs.length = i) (h : dv zs + c * 65536 ^ i = dv (xs.take i) + dv (ys.take i)) :
    dv (zs ++ [(xs.getD i 0 + ys.getD i 0 + c) % 65536]) + (xs.getD i 0 + ys.getD i 0 + c) / 65536 * 65536 ^ (i + 1) = dv (xs.take (i + 1)) + dv (ys.take (i + 1)) := by
  rw [dv_snoc, dv_take_succ, dv_take_succ, hl, Nat.pow_succ]
  have hx := Nat.div_add_mod (xs.getD i 0 + ys.getD i 0 + c) 65536
  generalize (xs.getD i 0 + ys.getD i 0 + c) / 65536 = q at *
  generalize (xs.getD i 0 + ys.getD i 0 + c) % 65536 = r at *
  generalize xs.getD i 0 = x at *
  generalize ys.getD i 0 = y at *
  generalize 65536 ^ i = P at *
  grind
/-- One digit of a difference. -/
theorem minus_step {xs ys zs : List Nat} {i c : Nat} (hl : zs.length = i) (hc : c ≤ 1) (hy : ys.getD i 0 < 65536) (hx : xs.getD i 0 < 65536) (h : dv zs + dv (ys.take i) = dv (xs.take i) + c * 65536 ^ i) :
    dv (zs ++ [(65536 + xs.getD i 0 - ys.getD i 0 - c) % 65536]) + dv (ys.take (i + 1)) = dv (xs.take (i + 1)) + (1 - (65536 + xs.getD i 0 - ys.getD i 0 - c) / 65536) * 65536 ^ (i + 1) := by
  rw [dv_snoc, dv_take_succ, dv_take_succ, hl, Nat.pow_succ]
  have e := Nat.div_add_mod (65536 + xs.getD i 0 - ys.getD i 0 - c) 65536
  generalize hx' : xs.getD i 0 = x at *
  generalize hy' : ys.getD i 0 = y at *
  generalize 65536 ^ i = P at *
  have hz : 65536 + x - y - c = 65536 + x - (y + c) := by omega
  rcases Nat.lt_or_ge x (y + c) with hlt | hge
  · have e1 : (65536 + x - y - c) / 65536 = 0 := by omega
    have e2 : (65536 + x - y - c) % 65536 = 65536 + x - y - c := by omega
    rw [e1, e2]
    obtain ⟨k, hk⟩ : ∃ k, 65536 + x - y - c = k := ⟨_, rfl⟩
    have : k + y + c = 65536 + x := by omega
    rw [hk]
    grind
  · have e1 : (65536 + x - y - c) / 65536 = 1 := by omega
    have e2 : (65536 + x - y - c) % 65536 = x - y - c := by omega
    rw [e1, e2]
    obtain ⟨k, hk⟩ : ∃ k, x - y - c = k := ⟨_, rfl⟩
    have : k + y + c = x := by omega
    rw [hk]
    grind
/-- A difference that isn't below 0 has no borrow left. -/
theorem minus_end {xs ys zs : List Nat} {c : Nat} (hz : Dg zs) (hx : Dg xs) (_hy : Dg ys) (hl : zs.length = xs.length) (hc : c ≤ 1) (hle : dv ys ≤ dv xs)
    (h : dv zs + dv (ys.take xs.length) = dv (xs.take xs.length) + c * 65536 ^ xs.length) : dv zs = dv xs - dv ys := by
  have h1 := dv_lt hz
  have h2 := dv_lt hx
  have h3 := dv_split ys xs.length
  rw [dv_take_all (Nat.le_refl _)] at h
  rw [hl] at h1
  have h4 : dv (ys.drop xs.length) = 0 := by
    rcases Nat.eq_zero_or_pos (dv (ys.drop xs.length)) with h0 | h0
    · exact h0
    · have := Nat.mul_le_mul_left (65536 ^ xs.length) h0
      omega
  rw [h4] at h3
  have : c = 0 ∨ c = 1 := by omega
  rcases this with rfl | rfl <;> omega
/-- The first digits from above that part tell which number is less. -/
theorem less_of {xs ys : List Nat} {i : Nat} (hx : Dg xs) (hlt : xs.getD i 0 < ys.getD i 0) (h : ∀ j, i < j → xs.getD j 0 = ys.getD j 0) : dv xs < dv ys := by
  have h1 := dv_split xs (i + 1)
  have h2 := dv_split ys (i + 1)
  have h3 : dv (xs.drop (i + 1)) = dv (ys.drop (i + 1)) := dv_ext fun j => by
    have := h (i + 1 + j) (by omega)
    simpa [List.getD_eq_getElem?_getD, List.getElem?_drop] using this
  have h4 := dv_take_succ xs i
  have h5 := dv_take_succ ys i
  have h6 := dv_take_lt hx i
  have h7 := Nat.mul_le_mul_left (65536 ^ i) hlt
  rw [Nat.mul_succ] at h7
  rw [h3] at h1
  omega
/-- One digit of a product. -/
theorem times_step {as bs os : List Nat} {i k c : Nat} (hj : i + k < os.length)
    (h : dv os + c * 65536 ^ (i + k) = dv (as.take i) * dv bs + as.getD i 0 * 65536 ^ i * dv (bs.take k)) :
    dv (os.set (i + k) ((os.getD (i + k) 0 + as.getD i 0 * bs.getD k 0 + c) % 65536)) + (os.getD (i + k) 0 + as.getD i 0 * bs.getD k 0 + c) / 65536 * 65536 ^ (i + (k + 1)) =
      dv (as.take i) * dv bs + as.getD i 0 * 65536 ^ i * dv (bs.take (k + 1)) := by
  have hs := dv_set (l := os) ((os.getD (i + k) 0 + as.getD i 0 * bs.getD k 0 + c) % 65536) hj
  rw [dv_take_succ, show i + (k + 1) = i + k + 1 by omega, Nat.pow_succ, Nat.pow_add] at *
  have hx := Nat.div_add_mod (os.getD (i + k) 0 + as.getD i 0 * bs.getD k 0 + c) 65536
  generalize (os.getD (i + k) 0 + as.getD i 0 * bs.getD k 0 + c) / 65536 = q at *
  generalize (os.getD (i + k) 0 + as.getD i 0 * bs.getD k 0 + c) % 65536 = r at *
  generalize os.getD (i + k) 0 = o at *
  generalize as.getD i 0 = a at *
  generalize bs.getD k 0 = b at *
  generalize dv (os.set (i + k) r) = z at *
  generalize 65536 ^ i = P at *
  generalize 65536 ^ k = Q at *
  grind
end Go.Proofs.YtjjinncecfilpaaDoor
namespace Go.Proofs.YtjjinncecfilpaaDoor

/-- The value of digits, the lowest first. -/
def dw : List Nat → Nat
  | [] => 0
  | d :: r => d + 4294967296 * dw r

/-- Each digit is one. -/
def Eg (l : List Nat) : Prop := ∀ j, l.getD j 0 < 4294967296

theorem qw_pos (i : Nat) : 0 < 4294967296 ^ i := Nat.pow_pos (by decide)
theorem eg_nil : Eg [] := fun _ => by simp
theorem eg_tail {d : Nat} {r : List Nat} (h : Eg (d :: r)) : Eg r := fun j => by simpa using h (j + 1)
theorem eg_head {d : Nat} {r : List Nat} (h : Eg (d :: r)) : d < 4294967296 := by simpa using h 0
theorem eg_snoc {l : List Nat} {d : Nat} (h : Eg l) (hd : d < 4294967296) : Eg (l ++ [d]) := fun j => by
  have := h j
  simp only [List.getD_eq_getElem?_getD, List.getElem?_append] at *
  split
  · exact this
  · rcases hj : j - l.length with _ | k <;> simp <;> omega
theorem eg_set {l : List Nat} {d : Nat} (h : Eg l) (i : Nat) (hd : d < 4294967296) : Eg (l.set i d) := fun j => by
  have := h j
  simp only [List.getD_eq_getElem?_getD, List.getElem?_set] at *
  split
  · split <;> simp <;> omega
  · exact this
theorem eg_zeros (n : Nat) : Eg (List.replicate n 0) := fun j => by
  simp only [List.getD_eq_getElem?_getD, List.getElem?_replicate]
  split <;> simp

theorem dw_zeros (n : Nat) : dw (List.replicate n 0) = 0 := by
  induction n with
  | zero => rfl
  | succ n ih => simp [List.replicate_succ, dw, ih]
theorem dw_snoc (l : List Nat) (d : Nat) : dw (l ++ [d]) = dw l + 4294967296 ^ l.length * d := by
  induction l with
  | nil => simp [dw]
  | cons a l ih => simp only [List.cons_append, dw, ih, List.length_cons, Nat.pow_succ]; grind
theorem dw_split (l : List Nat) (i : Nat) : dw l = dw (l.take i) + 4294967296 ^ i * dw (l.drop i) := by
  induction i generalizing l with
  | zero => simp [dw]
  | succ i ih =>
    cases l with
    | nil => simp [dw]
    | cons a l => simp only [List.take_succ_cons, List.drop_succ_cons, dw]; rw [ih l]; grind
theorem dw_take_succ (l : List Nat) (i : Nat) : dw (l.take (i + 1)) = dw (l.take i) + 4294967296 ^ i * l.getD i 0 := by
  induction i generalizing l with
  | zero => cases l <;> simp [dw]
  | succ i ih =>
    cases l with
    | nil => simp [dw]
    | cons a l => simp only [List.take_succ_cons, dw, List.getD_cons_succ]; rw [ih l]; grind
theorem dw_take_all {l : List Nat} {i : Nat} (h : l.length ≤ i) : dw (l.take i) = dw l := by rw [List.take_of_length_le h]
theorem dw_lt {l : List Nat} (h : Eg l) : dw l < 4294967296 ^ l.length := by
  induction l with
  | nil => simp [dw]
  | cons a l ih =>
    have h1 := ih (eg_tail h)
    have h2 := eg_head h
    simp only [dw, List.length_cons, Nat.pow_succ]
    omega
theorem eg_take {l : List Nat} (h : Eg l) (i : Nat) : Eg (l.take i) := fun j => by
  have := h j
  simp only [List.getD_eq_getElem?_getD, List.getElem?_take] at *
  split
  · exact this
  · simp
theorem eg_drop {l : List Nat} (h : Eg l) (i : Nat) : Eg (l.drop i) := fun j => by
  have := h (i + j)
  simpa [List.getD_eq_getElem?_getD, List.getElem?_drop] using this
theorem dw_take_lt {l : List Nat} (h : Eg l) (i : Nat) : dw (l.take i) < 4294967296 ^ i := by
  have h1 := dw_lt (eg_take h i)
  have h2 : (l.take i).length ≤ i := List.length_take_le _ _
  exact Nat.lt_of_lt_of_le h1 (Nat.pow_le_pow_right (by decide) h2)
theorem dw_take_le (l : List Nat) (i : Nat) : dw (l.take i) ≤ dw l := by
  have := dw_split l i
  omega
theorem dw_digit {l : List Nat} (h : Eg l) (j : Nat) : dw l / 4294967296 ^ j % 4294967296 = l.getD j 0 := by
  have h1 := dw_split l j
  have h2 := dw_take_lt h j
  rw [h1, Nat.add_mul_div_left _ _ (qw_pos j), Nat.div_eq_of_lt h2, Nat.zero_add]
  have h3 := eg_drop h j
  have h4 : l.getD j 0 = (l.drop j).getD 0 0 := by simp [List.getD_eq_getElem?_getD, List.getElem?_drop]
  rw [h4]
  cases hd : l.drop j with
  | nil => simp [dw]
  | cons a r =>
    rw [hd] at h3
    have := eg_head h3
    simp only [dw, List.getD_cons_zero]
    omega
theorem dw_high {l : List Nat} (h : Eg l) {n j : Nat} (hv : dw l < 4294967296 ^ n) (hj : n ≤ j) : l.getD j 0 = 0 := by
  rw [← dw_digit h j, Nat.div_eq_of_lt (Nat.lt_of_lt_of_le hv (Nat.pow_le_pow_right (by decide) hj))]
theorem dw_set {l : List Nat} {j : Nat} (x : Nat) (h : j < l.length) : dw (l.set j x) + 4294967296 ^ j * l.getD j 0 = dw l + 4294967296 ^ j * x := by
  induction l generalizing j with
  | nil => simp at h
  | cons a l ih =>
    cases j with
    | zero => simp [dw]; omega
    | succ j =>
      have := ih (j := j) (by simpa using h)
      simp only [List.set_cons_succ, dw, List.getD_cons_succ, Nat.pow_succ]
      grind
theorem dw_zero_of {l : List Nat} (h : ∀ j, l.getD j 0 = 0) : dw l = 0 := by
  induction l with
  | nil => rfl
  | cons a l ih =>
    have h0 : a = 0 := by simpa using h 0
    simp only [dw, h0, ih (fun j => by simpa using h (j + 1))]
theorem dw_ext {l m : List Nat} (h : ∀ j, l.getD j 0 = m.getD j 0) : dw l = dw m := by
  induction l generalizing m with
  | nil => exact (dw_zero_of fun j => by rw [← h j]; simp).symm
  | cons a l ih =>
    cases m with
    | nil => exact dw_zero_of fun j => by rw [h j]; simp
    | cons b m =>
      have h0 : a = b := by simpa using h 0
      rw [dw, dw, h0, ih (fun j => by simpa using h (j + 1))]

/-- One digit of a sum. -/
theorem plusw_step {xs ys zs : List Nat} {i c : Nat} (hl : zs.length = i) (h : dw zs + c * 4294967296 ^ i = dw (xs.take i) + dw (ys.take i)) :
    dw (zs ++ [(xs.getD i 0 + ys.getD i 0 + c) % 4294967296]) + (xs.getD i 0 + ys.getD i 0 + c) / 4294967296 * 4294967296 ^ (i + 1) = dw (xs.take (i + 1)) + dw (ys.take (i + 1)) := by
  rw [dw_snoc, dw_take_succ, dw_take_succ, hl, Nat.pow_succ]
  have hx := Nat.div_add_mod (xs.getD i 0 + ys.getD i 0 + c) 4294967296
  generalize (xs.getD i 0 + ys.getD i 0 + c) / 4294967296 = q at *
  generalize (xs.getD i 0 + ys.getD i 0 + c) % 4294967296 = r at *
  generalize xs.getD i 0 = x at *
  generalize ys.getD i 0 = y at *
  generalize 4294967296 ^ i = P at *
  grind
/-- One digit of a difference. -/
theorem minusw_step {xs ys zs : List Nat} {i c : Nat} (hl : zs.length = i) (hc : c ≤ 1) (hy : ys.getD i 0 < 4294967296) (hx : xs.getD i 0 < 4294967296) (h : dw zs + dw (ys.take i) = dw (xs.take i) + c * 4294967296 ^ i) :
    dw (zs ++ [(4294967296 + xs.getD i 0 - ys.getD i 0 - c) % 4294967296]) + dw (ys.take (i + 1)) = dw (xs.take (i + 1)) + (1 - (4294967296 + xs.getD i 0 - ys.getD i 0 - c) / 4294967296) * 4294967296 ^ (i + 1) := by
  rw [dw_snoc, dw_take_succ, dw_take_succ, hl, Nat.pow_succ]
  have e := Nat.div_add_mod (4294967296 + xs.getD i 0 - ys.getD i 0 - c) 4294967296
  generalize hx' : xs.getD i 0 = x at *
  generalize hy' : ys.getD i 0 = y at *
  generalize 4294967296 ^ i = P at *
  have hz : 4294967296 + x - y - c = 4294967296 + x - (y + c) := by omega
  rcases Nat.lt_or_ge x (y + c) with hlt | hge
  · have e1 : (4294967296 + x - y - c) / 4294967296 = 0 := by omega
    have e2 : (4294967296 + x - y - c) % 4294967296 = 4294967296 + x - y - c := by omega
    rw [e1, e2]
    obtain ⟨k, hk⟩ : ∃ k, 4294967296 + x - y - c = k := ⟨_, rfl⟩
    have : k + y + c = 4294967296 + x := by omega
    rw [hk]
    grind
  · have e1 : (4294967296 + x - y - c) / 4294967296 = 1 := by omega
    have e2 : (4294967296 + x - y - c) % 4294967296 = x - y - c := by omega
    rw [e1, e2]
    obtain ⟨k, hk⟩ : ∃ k, x - y - c = k := ⟨_, rfl⟩
    have : k + y + c = x := by omega
    rw [hk]
    grind
/-- A difference that isn't below 0 has no borrow left. -/
theorem minusw_end {xs ys zs : List Nat} {c : Nat} (hz : Eg zs) (hx : Eg xs) (_hy : Eg ys) (hl : zs.length = xs.length) (hc : c ≤ 1) (hle : dw ys ≤ dw xs)
    (h : dw zs + dw (ys.take xs.length) = dw (xs.take xs.length) + c * 4294967296 ^ xs.length) : dw zs = dw xs - dw ys := by
  have h1 := dw_lt hz
  have h2 := dw_lt hx
  have h3 := dw_split ys xs.length
  rw [dw_take_all (Nat.le_refl _)] at h
  rw [hl] at h1
  have h4 : dw (ys.drop xs.length) = 0 := by
    rcases Nat.eq_zero_or_pos (dw (ys.drop xs.length)) with h0 | h0
    · exact h0
    · have := Nat.mul_le_mul_left (4294967296 ^ xs.length) h0
      omega
  rw [h4] at h3
  have : c = 0 ∨ c = 1 := by omega
  rcases this with rfl | rfl <;> omega
/-- The first digits from above that part tell which number is less. -/
theorem lessw_of {xs ys : List Nat} {i : Nat} (hx : Eg xs) (hlt : xs.getD i 0 < ys.getD i 0) (h : ∀ j, i < j → xs.getD j 0 = ys.getD j 0) : dw xs < dw ys := by
  have h1 := dw_split xs (i + 1)
  have h2 := dw_split ys (i + 1)
  have h3 : dw (xs.drop (i + 1)) = dw (ys.drop (i + 1)) := dw_ext fun j => by
    have := h (i + 1 + j) (by omega)
    simpa [List.getD_eq_getElem?_getD, List.getElem?_drop] using this
  have h4 := dw_take_succ xs i
  have h5 := dw_take_succ ys i
  have h6 := dw_take_lt hx i
  have h7 := Nat.mul_le_mul_left (4294967296 ^ i) hlt
  rw [Nat.mul_succ] at h7
  rw [h3] at h1
  omega
/-- One digit of a product. -/
theorem timesw_step {as bs os : List Nat} {i k c : Nat} (hj : i + k < os.length)
    (h : dw os + c * 4294967296 ^ (i + k) = dw (as.take i) * dw bs + as.getD i 0 * 4294967296 ^ i * dw (bs.take k)) :
    dw (os.set (i + k) ((os.getD (i + k) 0 + as.getD i 0 * bs.getD k 0 + c) % 4294967296)) + (os.getD (i + k) 0 + as.getD i 0 * bs.getD k 0 + c) / 4294967296 * 4294967296 ^ (i + (k + 1)) =
      dw (as.take i) * dw bs + as.getD i 0 * 4294967296 ^ i * dw (bs.take (k + 1)) := by
  have hs := dw_set (l := os) ((os.getD (i + k) 0 + as.getD i 0 * bs.getD k 0 + c) % 4294967296) hj
  rw [dw_take_succ, show i + (k + 1) = i + k + 1 by omega, Nat.pow_succ, Nat.pow_add] at *
  have hx := Nat.div_add_mod (os.getD (i + k) 0 + as.getD i 0 * bs.getD k 0 + c) 4294967296
  generalize (os.getD (i + k) 0 + as.getD i 0 * bs.getD k 0 + c) / 4294967296 = q at *
  generalize (os.getD (i + k) 0 + as.getD i 0 * bs.getD k 0 + c) % 4294967296 = r at *
  generalize os.getD (i + k) 0 = o at *
  generalize as.getD i 0 = a at *
  generalize bs.getD k 0 = b at *
  generalize dw (os.set (i + k) r) = z at *
  generalize 4294967296 ^ i = P at *
  generalize 4294967296 ^ k = Q at *
  grind
end Go.Proofs.YtjjinncecfilpaaDoor
namespace Go.Proofs.YtjjinncecfilpaaDoor

/-- A digit, 0 beyond the highest. -/
def dat (xs : List Nat) (i : Nat) : Nat := xs.getD i 0
theorem dat_beyond {xs : List Nat} {i : Nat} (h : xs.length ≤ i) : dat xs i = 0 := by simp [dat, List.getElem?_eq_none h]
theorem dat_take {xs : List Nat} {i n : Nat} (h : i < n) : dat (xs.take n) i = dat xs i := by simp [dat, h]
/-- The highest digit isn't 0. -/
def Top (xs : List Nat) : Prop := xs ≠ [] → dat xs (xs.length - 1) ≠ 0
theorem top_nil : Top [] := fun h => absurd rfl h
/-- From n on all digits are 0, and n is the least such. -/
def Tl (xs : List Nat) (n : Nat) : Prop := n ≤ xs.length ∧ (∀ j, n ≤ j → dat xs j = 0) ∧ (n = 0 ∨ dat xs (n - 1) ≠ 0)
theorem Tl.top {xs : List Nat} {n : Nat} (h : Tl xs n) : Top (xs.take n) := by
  intro hne
  have hl : (xs.take n).length = n := List.length_take_of_le h.1
  have hn : n ≠ 0 := by rintro rfl; simp at hne
  rw [hl, dat_take (by omega)]
  exact h.2.2.resolve_left hn
theorem take_zeros {xs : List Nat} {n : Nat} (h : ∀ j, n ≤ j → dat xs j = 0) (j : Nat) : (xs.take n).getD j 0 = xs.getD j 0 := by
  rcases Nat.lt_or_ge j n with hj | hj
  · exact dat_take hj
  · have := h j hj
    simp only [dat] at this
    rw [this]
    simp [List.getElem?_take, Nat.not_lt.2 hj]
theorem Tl.dv {xs : List Nat} {n : Nat} (h : Tl xs n) : dv (xs.take n) = dv xs := dv_ext (take_zeros h.2.1)
theorem Tl.dw {xs : List Nat} {n : Nat} (h : Tl xs n) : dw (xs.take n) = dw xs := dw_ext (take_zeros h.2.1)

theorem top_ge16 {xs : List Nat} (ht : Top xs) (hne : xs ≠ []) : 65536 ^ (xs.length - 1) ≤ dv xs := by
  have h1 := dv_split xs (xs.length - 1)
  have h2 := dv_take_succ xs (xs.length - 1)
  have hl : xs.length - 1 + 1 = xs.length := by have := List.length_pos_iff.2 hne; omega
  rw [hl, dv_take_all (Nat.le_refl _)] at h2
  have h3 := ht hne
  have h4 : 65536 ^ (xs.length - 1) * 1 ≤ 65536 ^ (xs.length - 1) * xs.getD (xs.length - 1) 0 := Nat.mul_le_mul_left _ (by unfold dat at h3; omega)
  omega
theorem top_ge32 {xs : List Nat} (ht : Top xs) (hne : xs ≠ []) : 4294967296 ^ (xs.length - 1) ≤ dw xs := by
  have h2 := dw_take_succ xs (xs.length - 1)
  have hl : xs.length - 1 + 1 = xs.length := by have := List.length_pos_iff.2 hne; omega
  rw [hl, dw_take_all (Nat.le_refl _)] at h2
  have h3 := ht hne
  have h4 : 4294967296 ^ (xs.length - 1) * 1 ≤ 4294967296 ^ (xs.length - 1) * xs.getD (xs.length - 1) 0 := Nat.mul_le_mul_left _ (by unfold dat at h3; omega)
  omega
theorem top_zero16 {xs : List Nat} (ht : Top xs) : dv xs = 0 ↔ xs = [] := by
  refine ⟨fun h => Decidable.byContradiction fun hne => ?_, fun h => by rw [h]; rfl⟩
  have := top_ge16 ht hne
  have := pw_pos (xs.length - 1)
  omega
theorem top_zero32 {xs : List Nat} (ht : Top xs) : dw xs = 0 ↔ xs = [] := by
  refine ⟨fun h => Decidable.byContradiction fun hne => ?_, fun h => by rw [h]; rfl⟩
  have := top_ge32 ht hne
  have := qw_pos (xs.length - 1)
  omega
theorem top_len16 {xs : List Nat} {n : Nat} (ht : Top xs) (h : dv xs < 65536 ^ n) : xs.length ≤ n := by
  rcases Nat.lt_or_ge n xs.length with hl | hl
  · have h1 := top_ge16 ht (by rintro rfl; simp at hl)
    have h2 : 65536 ^ n ≤ 65536 ^ (xs.length - 1) := Nat.pow_le_pow_right (by decide) (by omega)
    omega
  · exact hl
theorem top_len32 {xs : List Nat} {n : Nat} (ht : Top xs) (h : dw xs < 4294967296 ^ n) : xs.length ≤ n := by
  rcases Nat.lt_or_ge n xs.length with hl | hl
  · have h1 := top_ge32 ht (by rintro rfl; simp at hl)
    have h2 : 4294967296 ^ n ≤ 4294967296 ^ (xs.length - 1) := Nat.pow_le_pow_right (by decide) (by omega)
    omega
  · exact hl
/-- The shorter one of two numbers without zeros at the top is the lesser one. -/
theorem len_lt16 {xs ys : List Nat} (hy : Top ys) (hx : Dg xs) (h : xs.length < ys.length) : dv xs < dv ys := by
  have h1 := dv_lt hx
  have h2 := top_ge16 hy (by rintro rfl; simp at h)
  have h3 : 65536 ^ xs.length ≤ 65536 ^ (ys.length - 1) := Nat.pow_le_pow_right (by decide) (by omega)
  omega
theorem len_lt32 {xs ys : List Nat} (hy : Top ys) (hx : Eg xs) (h : xs.length < ys.length) : dw xs < dw ys := by
  have h1 := dw_lt hx
  have h2 := top_ge32 hy (by rintro rfl; simp at h)
  have h3 : 4294967296 ^ xs.length ≤ 4294967296 ^ (ys.length - 1) := Nat.pow_le_pow_right (by decide) (by omega)
  omega
theorem len_eq32 {xs ys : List Nat} (hx : Eg xs) (hy : Eg ys) (tx : Top xs) (ty : Top ys) (h : dw xs = dw ys) : xs.length = ys.length := by
  rcases Nat.lt_trichotomy xs.length ys.length with h1 | h1 | h1
  · have := len_lt32 ty hx h1; omega
  · exact h1
  · have := len_lt32 tx hy h1; omega
theorem same_digits32 {xs ys : List Nat} (hx : Eg xs) (hy : Eg ys) (h : dw xs = dw ys) (j : Nat) : dat xs j = dat ys j := by
  unfold dat
  rw [← dw_digit hx j, ← dw_digit hy j, h]

/-- The number of a sign and of a size. -/
def sv (n : Bool) (x : Nat) : Int := if n then -(x : Int) else (x : Int)
theorem sv_true (x : Nat) : sv true x = -(x : Int) := rfl
theorem sv_false (x : Nat) : sv false x = (x : Int) := rfl
/-- 0 isn't Neg. -/
def Can (n : Bool) (xs : List Nat) : Prop := Top xs ∧ (xs = [] → n = false)
theorem sv_zero {n : Bool} {x : Nat} : sv n x = 0 ↔ x = 0 := by cases n <;> simp [sv]
theorem sv_same {n m : Bool} {x y : Nat} (h : sv n x = sv m y) (hn : x = 0 → n = false) (hm : y = 0 → m = false) : n = m ∧ x = y := by
  cases n <;> cases m <;> simp [sv] at h hn hm ⊢ <;> omega
theorem can32 {n m : Bool} {xs ys : List Nat} (hn : Can n xs) (hm : Can m ys) (hx : Eg xs) (hy : Eg ys) (h : sv n (dw xs) = sv m (dw ys)) : n = m ∧ xs.length = ys.length ∧ ∀ j, dat xs j = dat ys j := by
  obtain ⟨h1, h2⟩ := sv_same h (fun h0 => hn.2 ((top_zero32 hn.1).1 h0)) (fun h0 => hm.2 ((top_zero32 hm.1).1 h0))
  exact ⟨h1, len_eq32 hx hy hn.1 hm.1 h2, same_digits32 hx hy h2⟩

/-- Each digit in two halves. -/
def halves : List Nat → List Nat
  | [] => []
  | d :: r => d % 65536 :: d / 65536 :: halves r
theorem halves_len (xs : List Nat) : (halves xs).length = 2 * xs.length := by
  induction xs with
  | nil => rfl
  | cons d r ih => simp [halves, ih]; omega
theorem halves_snoc (xs : List Nat) (d : Nat) : halves (xs ++ [d]) = halves xs ++ [d % 65536, d / 65536] := by
  induction xs with
  | nil => rfl
  | cons a r ih => simp [halves, ih]
theorem halves_val (xs : List Nat) : dv (halves xs) = dw xs := by
  induction xs with
  | nil => rfl
  | cons d r ih => simp only [halves, dv, dw, ih]; omega
theorem halves_dg {xs : List Nat} (h : Eg xs) : Dg (halves xs) := by
  induction xs with
  | nil => exact dg_nil
  | cons d r ih =>
    intro j
    have h0 := eg_head h
    have h1 := ih (eg_tail h)
    rcases j with _ | _ | j
    · simp [halves]; omega
    · simp [halves]; omega
    · simpa [halves] using h1 j
/-- Two digits at a time made one. -/
def pairs : List Nat → List Nat
  | [] => []
  | [d] => [d]
  | d :: e :: r => (d + 65536 * e) :: pairs r
theorem pairs_val (xs : List Nat) : dw (pairs xs) = dv xs := by
  fun_induction pairs xs with
  | case1 => rfl
  | case2 d => simp [dw, dv]
  | case3 d e r ih => simp only [dw, dv, ih]; omega
theorem pairs_len (xs : List Nat) : (pairs xs).length = (xs.length + 1) / 2 := by
  fun_induction pairs xs with
  | case1 => rfl
  | case2 d => simp
  | case3 d e r ih => simp [ih]; omega
theorem pairs_dat (xs : List Nat) (j : Nat) : dat (pairs xs) j = dat xs (2 * j) + dat xs (2 * j + 1) * 65536 := by
  fun_induction pairs xs generalizing j with
  | case1 => simp [dat]
  | case2 d => rcases j with _ | j <;> simp [dat]
  | case3 d e r ih =>
    rcases j with _ | j
    · simp [dat]; omega
    · have := ih j
      simp only [dat, List.getD_eq_getElem?_getD, Nat.mul_add] at *
      simpa using this
theorem pairs_eg {xs : List Nat} (h : Dg xs) : Eg (pairs xs) := by
  intro j
  have h1 := h (2 * j)
  have h2 := h (2 * j + 1)
  have h3 := pairs_dat xs j
  simp only [dat] at h3
  omega
theorem pairs_top {xs : List Nat} (ht : Top xs) : Top (pairs xs) := by
  intro hne
  have hx : xs ≠ [] := by rintro rfl; exact hne rfl
  have h := ht hx
  have hl := List.length_pos_iff.2 hx
  rw [pairs_dat, pairs_len]
  rcases Nat.mod_two_eq_zero_or_one xs.length with h2 | h2
  · have : 2 * ((xs.length + 1) / 2 - 1) + 1 = xs.length - 1 := by omega
    rw [this]; omega
  · have : 2 * ((xs.length + 1) / 2 - 1) = xs.length - 1 := by omega
    rw [this]; omega
theorem pairs_nil {xs : List Nat} (h : pairs xs = []) : xs = [] := by
  fun_induction pairs xs with
  | case1 => rfl
  | case2 d => cases h
  | case3 d e r ih => cases h
/-- The digits that are told by pairs up to 2 * k. -/
theorem pairs_take_succ (xs : List Nat) (k : Nat) (h : 2 * k < xs.length) : (pairs xs).take (k + 1) = (pairs xs).take k ++ [dat xs (2 * k) + dat xs (2 * k + 1) * 65536] := by
  have hl : k < (pairs xs).length := by rw [pairs_len]; omega
  rw [List.take_succ_eq_append_getElem hl]
  have := pairs_dat xs k
  simp only [dat, List.getD_eq_getElem?_getD, List.getElem?_eq_getElem hl, Option.getD_some] at this
  rw [this]
  rfl
end Go.Proofs.YtjjinncecfilpaaDoor
namespace Go.Proofs.YtjjinncecfilpaaDoor

/-- One digit of the division: q isn't less than the true one, and what is left over is known. -/
structure KnuthR (u y1 y0 d q r : Nat) : Prop where
  ge : (u * 4294967296 + d) / (y1 * 4294967296 + y0) ≤ q
  eq : q * y1 + r = u
  le : q ≤ 4294967297
  rl : r < 4294967296
theorem knuth_start {u y1 y0 d : Nat} (h1 : 2147483648 ≤ y1) (h1' : y1 < 4294967296) (h0 : y0 < 4294967296) (hd : d < 4294967296) (hu : u < y1 * 4294967296 + y0) :
    KnuthR u y1 y0 d (u / y1) (u % y1) := by
  have hm := Nat.div_add_mod u y1
  have hr := Nat.mod_lt u (show 0 < y1 by omega)
  refine ⟨?_, Nat.div_add_mod' u y1, ?_, Nat.lt_trans hr h1'⟩
  · rw [Nat.le_div_iff_mul_le (by omega)]
    have h2 := Nat.div_mul_le_self (u * 4294967296 + d) (y1 * 4294967296 + y0)
    generalize (u * 4294967296 + d) / (y1 * 4294967296 + y0) = Q at *
    have h3 : Q * (y1 * 4294967296 + y0) = Q * y1 * 4294967296 + Q * y0 := by grind
    rw [h3] at h2
    have h5 : Q * y1 * 4294967296 ≤ u * 4294967296 + d := Nat.le_trans (Nat.le_add_right _ _) h2
    generalize Q * y1 = T at h5 ⊢
    clear h2 h3
    omega
  · have : u / y1 < 4294967298 := by
      rw [Nat.div_lt_iff_lt_mul (by omega)]
      omega
    omega
/-- The true digit is below 2^32. -/
theorem knuth_small {u y d : Nat} (hd : d < 4294967296) (hu : u < y) : (u * 4294967296 + d) / y < 4294967296 := by
  rw [Nat.div_lt_iff_lt_mul (by omega)]
  omega
/-- The digit that is too great is lowered. -/
theorem knuth_step {u y1 y0 d q r : Nat} (hd : d < 4294967296) (hu : u < y1 * 4294967296 + y0) (h : KnuthR u y1 y0 d q r) (hc : 4294967296 ≤ q ∨ 4294967296 * r + d < q * y0) :
    1 ≤ q ∧ (u * 4294967296 + d) / (y1 * 4294967296 + y0) ≤ q - 1 ∧ (q - 1) * y1 + (r + y1) = u ∧ q - 1 ≤ 4294967296 := by
  obtain ⟨h1, h2, h3, h4⟩ := h
  have hs := knuth_small hd hu
  have hq : 1 ≤ q := by
    rcases hc with hc | hc
    · omega
    · rcases Nat.eq_zero_or_pos q with h0 | h0
      · subst h0; omega
      · exact h0
  obtain ⟨p, rfl⟩ : ∃ p, q = p + 1 := ⟨q - 1, by omega⟩
  refine ⟨hq, ?_, ?_, by omega⟩
  · show _ ≤ p
    rcases hc with hc | hc
    · omega
    · have h5 : (u * 4294967296 + d) / (y1 * 4294967296 + y0) < p + 1 := by
        rw [Nat.div_lt_iff_lt_mul (by omega)]
        have h6 : (p + 1) * (y1 * 4294967296 + y0) = (p + 1) * y1 * 4294967296 + (p + 1) * y0 := by grind
        rw [h6]
        omega
      omega
  · have h6 : (p + 1) * y1 = p * y1 + y1 := by grind
    show p * y1 + (r + y1) = u
    omega
/-- A digit that isn't too great is the true one. -/
theorem knuth_end {u y1 y0 d q r : Nat} (hy : 0 < y1) (h1 : (u * 4294967296 + d) / (y1 * 4294967296 + y0) ≤ q) (h2 : q * y1 + r = u) (hc : q * y0 ≤ 4294967296 * r + d) :
    q = (u * 4294967296 + d) / (y1 * 4294967296 + y0) := by
  refine Nat.le_antisymm ?_ h1
  rw [Nat.le_div_iff_mul_le (by omega)]
  have h6 : q * (y1 * 4294967296 + y0) = q * y1 * 4294967296 + q * y0 := by grind
  rw [h6]
  omega
/-- What is left over is so great that the digit isn't too great. -/
theorem knuth_break {y0 d q r : Nat} (h0 : y0 < 4294967296) (hq : q ≤ 4294967296) (hr : 4294967296 ≤ r) : q * y0 ≤ 4294967296 * r + d := by
  have h1 := Nat.mul_le_mul hq (show y0 ≤ 4294967295 by omega)
  omega
theorem knuth_one {A y d0 : Nat} (hy : 0 < y) :
    (A * 4294967296 + d0) / y = A / y * 4294967296 + (A % y * 4294967296 + d0) / y ∧ (A * 4294967296 + d0) % y = (A % y * 4294967296 + d0) % y := by
  have hA := Nat.div_add_mod A y
  have e2 : A * 4294967296 + d0 = A % y * 4294967296 + d0 + y * (A / y * 4294967296) := by
    generalize A / y = Q at *
    generalize A % y = R at *
    subst hA
    grind
  constructor
  · have h := Nat.add_mul_div_left (A % y * 4294967296 + d0) (A / y * 4294967296) hy
    rw [← e2] at h
    rw [h, Nat.add_comm]
  · have h := Nat.add_mul_mod_self_left (A % y * 4294967296 + d0) y (A / y * 4294967296)
    rw [← e2] at h
    exact h
/-- Two digits make the quotient. -/
theorem knuth_two {u y d1 d0 : Nat} (hy : 0 < y) :
    (u * 18446744073709551616 + (d1 * 4294967296 + d0)) / y = (u * 4294967296 + d1) / y * 4294967296 + ((u * 4294967296 + d1) % y * 4294967296 + d0) / y ∧
    (u * 18446744073709551616 + (d1 * 4294967296 + d0)) % y = ((u * 4294967296 + d1) % y * 4294967296 + d0) % y := by
  have e : u * 18446744073709551616 + (d1 * 4294967296 + d0) = (u * 4294967296 + d1) * 4294967296 + d0 := by omega
  rw [e]
  exact knuth_one hy
/-- What is left over, reckoned in 64 bits that go round. -/
theorem knuth_rest {u y d q : Nat} (hy : 0 < y) (hy' : y < 18446744073709551616) (hq : q = (u * 4294967296 + d) / y) :
    (((u : Int) * 4294967296 + d - q * y) % 18446744073709551616) = (((u * 4294967296 + d) % y : Nat) : Int) := by
  have h := Nat.div_add_mod (u * 4294967296 + d) y
  have hlt := Nat.mod_lt (u * 4294967296 + d) hy
  rw [← hq] at h
  have e : (u : Int) * 4294967296 + d - q * y = (((u * 4294967296 + d) % y : Nat) : Int) := by
    have h' : ((y * q + (u * 4294967296 + d) % y : Nat) : Int) = ((u * 4294967296 + d : Nat) : Int) := by rw [h]
    simp only [Int.natCast_add, Int.natCast_mul] at h'
    have hc : (q : Int) * y = y * q := Int.mul_comm _ _
    rw [hc]
    have h4 : ((4294967296 : Nat) : Int) = 4294967296 := rfl
    omega
  rw [e]
  omega
end Go.Proofs.YtjjinncecfilpaaDoor
namespace Go.Proofs.YtjjinncecfilpaaDoor
open Go.Lib

/-- The low m decimal digits. -/
def padL : Nat → Nat → List UInt8
  | 0, _ => []
  | m + 1, x => padL m (x / 10) ++ [UInt8.ofNat (48 + x % 10)]
theorem dec_big {x : Nat} (h : 10 ≤ x) : decDigits x = decDigits (x / 10) ++ [UInt8.ofNat (48 + x % 10)] := by rw [decDigits, dif_neg (by omega)]
theorem nd_big {x : Nat} (h : 10 ≤ x) : nDigits x = nDigits (x / 10) + 1 := by rw [nDigits, dif_neg (by omega)]
theorem nd_one {x : Nat} (h : x < 10) : nDigits x = 1 := by rw [nDigits, dif_pos h]
theorem dec_part (m : Nat) : ∀ x, 10 ^ m ≤ x → decDigits x = decDigits (x / 10 ^ m) ++ padL m x := by
  induction m with
  | zero => intro x _; simp [padL]
  | succ m ih =>
    intro x hx
    have hp : 10 ^ (m + 1) = 10 ^ m * 10 := Nat.pow_succ ..
    have h1 : 1 ≤ 10 ^ m := Nat.pos_of_ne_zero (by simp)
    have h2 : 10 ^ m ≤ x / 10 := by rw [Nat.le_div_iff_mul_le (by decide)]; omega
    rw [dec_big (by omega), ih (x / 10) h2, padL, List.append_assoc, Nat.div_div_eq_div_mul, hp, Nat.mul_comm 10]
theorem padL_mod (m : Nat) : ∀ x, padL m (x % 10 ^ m) = padL m x := by
  induction m with
  | zero => intro x; rfl
  | succ m ih =>
    intro x
    have hp : 10 ^ (m + 1) = 10 * 10 ^ m := by rw [Nat.pow_succ, Nat.mul_comm]
    have h1 : x % 10 ^ (m + 1) / 10 = x / 10 % 10 ^ m := by rw [hp, Nat.mod_mul_right_div_self]
    have h2 : x % 10 ^ (m + 1) % 10 = x % 10 := Nat.mod_mod_of_dvd _ (by rw [hp]; exact Nat.dvd_mul_right _ _)
    rw [padL, padL, h1, h2, ih]
theorem padL_zero (m : Nat) : padL m 0 = repeatL [48] m := by
  have hs : ∀ m, repeatL [48] m ++ [(48 : UInt8)] = repeatL [48] (m + 1) := by
    intro m
    induction m with
    | zero => rfl
    | succ m ih =>
      show (48 :: repeatL [48] m) ++ [48] = 48 :: repeatL [48] (m + 1)
      rw [List.cons_append, ih]
  induction m with
  | zero => rfl
  | succ m ih =>
    rw [padL, Nat.zero_div, ih, ← hs]
    rfl
theorem pad_dec (m : Nat) : ∀ r, r < 10 ^ m → 0 < m → repeatL [48] (m - nDigits r) ++ decDigits r = padL m r ∧ nDigits r ≤ m := by
  induction m with
  | zero => intro r _ h; omega
  | succ m ih =>
    intro r hr _
    rcases Nat.lt_or_ge r 10 with h | h
    · rw [nd_one h, decDigits_one h, padL, Nat.div_eq_of_lt h, padL_zero, Nat.mod_eq_of_lt h]
      exact ⟨rfl, by omega⟩
    · have hp : 10 ^ (m + 1) = 10 ^ m * 10 := Nat.pow_succ ..
      have hm : 0 < m := by
        rcases Nat.eq_zero_or_pos m with h0 | h0
        · subst h0; simp at hr; omega
        · exact h0
      obtain ⟨i1, i2⟩ := ih (r / 10) (by omega) hm
      rw [nd_big h, dec_big h, padL, ← i1, List.append_assoc]
      exact ⟨by rw [Nat.add_sub_add_right], by omega⟩
/-- A numeral in two pieces. -/
theorem dec_pieces {m x : Nat} (hm : 0 < m) (hx : 10 ^ m ≤ x) : decDigits x = decDigits (x / 10 ^ m) ++ (repeatL [48] (m - nDigits (x % 10 ^ m)) ++ decDigits (x % 10 ^ m)) ∧ nDigits (x % 10 ^ m) ≤ m := by
  obtain ⟨h1, h2⟩ := pad_dec m (x % 10 ^ m) (Nat.mod_lt _ (Nat.pos_of_ne_zero (by simp))) hm
  rw [h1, padL_mod]
  exact ⟨dec_part m x hx, h2⟩
end Go.Proofs.YtjjinncecfilpaaDoor
namespace Go.Proofs.YtjjinncecfilpaaDoor
open Go.Lib

/-- 10 to the power 19. -/
def ck : Nat := 10000000000000000000
theorem ck_eq : 10 ^ 19 = ck := by decide
theorem ck_pos : 0 < ck := by decide
theorem ck_lt : ck < 18446744073709551616 := by decide
/-- The value of pieces, the lowest first. -/
def pv : List Nat → Nat
  | [] => 0
  | c :: r => c + ck * pv r
theorem pv_snoc (l : List Nat) (d : Nat) : pv (l ++ [d]) = pv l + ck ^ l.length * d := by
  induction l with
  | nil => simp [pv]
  | cons a l ih => simp only [List.cons_append, pv, ih, List.length_cons, Nat.pow_succ]; grind
/-- The text of pieces, the lowest first. -/
def dch : List Nat → List UInt8
  | [] => []
  | c :: r => if r = [] then decDigits c else dch r ++ (repeatL [48] (19 - nDigits c) ++ decDigits c)
theorem dch_one (c : Nat) : dch [c] = decDigits c := by simp [dch]
theorem dch_more (c : Nat) {r : List Nat} (h : r ≠ []) : dch (c :: r) = dch r ++ (repeatL [48] (19 - nDigits c) ++ decDigits c) := by simp [dch, h]
/-- Each piece is one. -/
def Pg (l : List Nat) : Prop := ∀ c ∈ l, c < ck
theorem pg_nd {c : Nat} (h : c < ck) : nDigits c ≤ 19 := (pad_dec 19 c (by rw [ck_eq]; exact h) (by decide)).2
theorem dch_val (l : List Nat) (hl : Pg l) (hne : l ≠ []) (hpos : 0 < l.getLast hne) : dch l = decDigits (pv l) ∧ 0 < pv l := by
  induction l with
  | nil => exact absurd rfl hne
  | cons c r ih =>
    by_cases hr : r = []
    · subst hr
      simp [dch, pv]
      simpa using hpos
    · obtain ⟨i1, i2⟩ := ih (fun d hd => hl d (List.mem_cons_of_mem c hd)) hr (by rw [List.getLast_cons hr] at hpos; exact hpos)
      have hc : c < ck := hl c (List.mem_cons_self ..)
      have hge : ck ≤ pv (c :: r) := by
        have := Nat.mul_le_mul_left ck i2
        simp only [pv]
        omega
      obtain ⟨d1, _⟩ := dec_pieces (m := 19) (x := pv (c :: r)) (by decide) (by rw [ck_eq]; exact hge)
      rw [ck_eq] at d1
      have e1 : pv (c :: r) / ck = pv r := by
        simp only [pv]
        rw [Nat.add_mul_div_left _ _ ck_pos, Nat.div_eq_of_lt hc, Nat.zero_add]
      have e2 : pv (c :: r) % ck = c := by
        simp only [pv]
        rw [Nat.add_mul_mod_self_left, Nat.mod_eq_of_lt hc]
      rw [dch_more c hr, d1, e1, e2, i1]
      exact ⟨rfl, by have := ck_pos; omega⟩
theorem dch_len (l : List Nat) (hl : Pg l) : (dch l).length ≤ 19 * l.length := by
  induction l with
  | nil => simp [dch]
  | cons c r ih =>
    have hc := pg_nd (hl c (List.mem_cons_self ..))
    have h := ih (fun d hd => hl d (List.mem_cons_of_mem c hd))
    by_cases hr : r = []
    · subst hr
      simp [dch, decDigits_length]
      omega
    · rw [dch_more c hr]
      simp only [List.length_append, repeatL_length, decDigits_length, List.length_cons, List.length_nil]
      omega
theorem dch_drop {l : List Nat} {k : Nat} (h : k < l.length) (hk : k + 1 < l.length) : dch (l.drop k) = dch (l.drop (k + 1)) ++ (repeatL [48] (19 - nDigits (dat l k)) ++ decDigits (dat l k)) := by
  rw [List.drop_eq_getElem_cons h, dch_more _ (by intro h0; have := congrArg List.length h0; simp at this; omega)]
  simp [dat, h]
theorem dch_last {l : List Nat} {k : Nat} (h : k + 1 = l.length) : dch (l.drop k) = decDigits (dat l k) := by
  have hk : k < l.length := by omega
  rw [List.drop_eq_getElem_cons hk, List.drop_eq_nil_of_le (by omega), dch_one]
  simp [dat, hk]
/-- A quotient by 10 to the power 19 has fewer digits. -/
theorem quo_shorter {n x : Nat} (h : x < 4294967296 ^ (n + 1)) : x / ck < 4294967296 ^ n := by
  rw [Nat.div_lt_iff_lt_mul ck_pos]
  rw [Nat.pow_succ] at h
  have : 4294967296 ^ n * 4294967296 ≤ 4294967296 ^ n * ck := Nat.mul_le_mul_left _ (by decide)
  omega
/-- The decimal text of a number, with a - ahead of one below 0. -/
def txt (z : Int) : List UInt8 := if z < 0 then 45 :: decDigits z.natAbs else decDigits z.natAbs
end Go.Proofs.YtjjinncecfilpaaDoor
namespace Go.Proofs.YtjjinncecfilpaaDoor
open Go.Lib (decDigits nDigits)

/-- The number that decimal digits tell. -/
def dval (t : List UInt8) : Nat := t.foldl (fun x c => x * 10 + (c.toNat - 48)) 0
theorem dval_snoc (t : List UInt8) (c : UInt8) : dval (t ++ [c]) = dval t * 10 + (c.toNat - 48) := by simp [dval]
/-- Decimal digits, as few as may be. -/
def Good (t : List UInt8) : Prop := t ≠ [] ∧ (t.head? = some 48 → t.length = 1) ∧ ∀ c ∈ t, 48 ≤ c.toNat ∧ c.toNat ≤ 57
instance (t : List UInt8) : Decidable (Good t) := by unfold Good; exact inferInstance
theorem one_good : ∀ x, x < 10 → Good [UInt8.ofNat (48 + x)] ∧ dval [UInt8.ofNat (48 + x)] = x ∧ (0 < x → UInt8.ofNat (48 + x) ≠ 48) := by decide
theorem dec_good (x : Nat) : Good (decDigits x) ∧ dval (decDigits x) = x ∧ (0 < x → (decDigits x).head? ≠ some 48) := by
  induction x using Nat.strongRecOn with
  | _ x ih =>
    by_cases h : x < 10
    · rw [Lib.decDigits_one h]
      obtain ⟨h1, h2, h3⟩ := one_good x h
      exact ⟨h1, h2, fun h0 he => h3 h0 (by simpa using he)⟩
    · obtain ⟨g, gv, gh⟩ := ih (x / 10) (by omega)
      have gh := gh (by omega)
      obtain ⟨o1, o2, _⟩ := one_good (x % 10) (by omega)
      rw [dec_big (by omega)]
      have hd : (decDigits (x / 10) ++ [UInt8.ofNat (48 + x % 10)]).head? = (decDigits (x / 10)).head? := by
        cases h5 : decDigits (x / 10) with
        | nil => exact absurd h5 g.1
        | cons a r => simp
      refine ⟨⟨by simp, fun h0 => absurd (by rw [← hd]; exact h0) gh, ?_⟩, ?_, fun _ => by rw [hd]; exact gh⟩
      · intro c hc
        rcases List.mem_append.1 hc with h1 | h1
        · exact g.2.2 c h1
        · exact o1.2.2 c h1
      · rw [dval_snoc, gv]
        have : dval [UInt8.ofNat (48 + x % 10)] = (UInt8.ofNat (48 + x % 10)).toNat - 48 := by simp [dval]
        rw [← this, o2]
        omega
theorem chr_one (c : UInt8) (h1 : 48 ≤ c.toNat) (h2 : c.toNat ≤ 57) : UInt8.ofNat (48 + (c.toNat - 48)) = c := by
  rw [show 48 + (c.toNat - 48) = c.toNat by omega]
  simp
theorem good_dec (n : Nat) : ∀ t : List UInt8, t.length = n → Good t → decDigits (dval t) = t := by
  induction n with
  | zero => intro t h g; exact absurd (List.eq_nil_of_length_eq_zero h) g.1
  | succ n ih =>
    intro t ht g
    obtain ⟨s, c, rfl⟩ : ∃ s c, t = s ++ [c] := ⟨t.dropLast, t.getLast g.1, (List.dropLast_concat_getLast g.1).symm⟩
    have hc := g.2.2 c (by simp)
    rw [dval_snoc]
    cases s with
    | nil =>
      have : dval [] = 0 := rfl
      rw [List.nil_append, this, Nat.zero_mul, Nat.zero_add, Lib.decDigits_one (by omega), chr_one c hc.1 hc.2]
    | cons a r =>
      have hh : (a :: r).head? ≠ some 48 := fun h0 => by
        have := g.2.1 (by simpa using h0)
        simp at this
      have gs : Good (a :: r) := ⟨by simp, fun h0 => absurd h0 hh, fun d hd => g.2.2 d (by simp at hd ⊢; rcases hd with h | h <;> simp [h])⟩
      have hi := ih (a :: r) (by simp at ht ⊢; omega) gs
      have hpos : dval (a :: r) ≠ 0 := fun h0 => by
        rw [h0, Lib.decDigits_one (by omega)] at hi
        apply hh
        rw [← hi]
        rfl
      rw [dec_big (by omega), show (dval (a :: r) * 10 + (c.toNat - 48)) / 10 = dval (a :: r) by omega, show (dval (a :: r) * 10 + (c.toNat - 48)) % 10 = c.toNat - 48 by omega, hi, chr_one c hc.1 hc.2]
/-- A text's sign and the rest. -/
def cutN (l : List UInt8) : List UInt8 := Lib.trimPrefix l [45]
def negN (l : List UInt8) : Bool := Lib.hasPrefix l [45]
/-- What is answered of a text, and the number. -/
def okN (l : List UInt8) : Bool := decide (Good (cutN l) ∧ ¬ (negN l = true ∧ cutN l = [48]))
def pval (l : List UInt8) : Int := sv (negN l) (dval (cutN l))
theorem cut_minus (r : List UInt8) : cutN (45 :: r) = r ∧ negN (45 :: r) = true := by simp [cutN, negN, Lib.trimPrefix, Lib.hasPrefix]
theorem cut_none (l : List UInt8) (h : l.head? ≠ some 45) : cutN l = l ∧ negN l = false := by
  cases l with
  | nil => simp [cutN, negN, Lib.trimPrefix, Lib.hasPrefix]
  | cons a r =>
    have : a ≠ 45 := fun h0 => h (by simp [h0])
    have h2 : ((45 : UInt8) == a) = false := by simpa using Ne.symm this
    have h3 : [(45 : UInt8)].isPrefixOf (a :: r) = false := by rw [List.isPrefixOf, h2]; rfl
    simp [cutN, negN, Lib.trimPrefix, Lib.hasPrefix, h3]
theorem cut_case (l : List UInt8) : (∃ r, l = 45 :: r ∧ cutN l = r ∧ negN l = true) ∨ (l.head? ≠ some 45 ∧ cutN l = l ∧ negN l = false) := by
  by_cases h : l.head? = some 45
  · cases l with
    | nil => simp at h
    | cons a r =>
      simp at h
      subst h
      exact .inl ⟨r, rfl, cut_minus r⟩
  · exact .inr ⟨h, cut_none l h⟩
theorem good_head {t : List UInt8} (h : Good t) : t.head? ≠ some 45 := fun h0 => by
  cases t with
  | nil => simp at h0
  | cons a r =>
    simp at h0
    subst h0
    have := (h.2.2 45 (by simp)).1
    revert this
    decide
theorem good_zero (t : List UInt8) (h : Good t) : dval t = 0 ↔ t = [48] := by
  constructor
  · intro h0
    rw [← good_dec _ t rfl h, h0, Lib.decDigits_one (by omega)]
    rfl
  · intro h0; subst h0; rfl
/-- A number's text is one, and tells the number. -/
theorem txt_back (z : Int) : okN (txt z) = true ∧ pval (txt z) = z := by
  obtain ⟨g, gv, gh⟩ := dec_good z.natAbs
  unfold txt
  split
  · obtain ⟨h1, h2⟩ := cut_minus (decDigits z.natAbs)
    refine ⟨?_, ?_⟩
    · unfold okN
      rw [h1]
      refine decide_eq_true ⟨g, fun ⟨_, h0⟩ => gh (by omega) ?_⟩
      rw [h0]; rfl
    · unfold pval
      rw [h1, h2, gv]
      simp [sv]; omega
  · obtain ⟨h1, h2⟩ := cut_none (decDigits z.natAbs) (good_head g)
    refine ⟨?_, ?_⟩
    · unfold okN
      rw [h1]
      refine decide_eq_true ⟨g, fun ⟨h0, _⟩ => ?_⟩
      rw [h2] at h0; cases h0
    · unfold pval
      rw [h1, h2, gv]
      simp [sv]; omega
/-- A text that is read is told as it was. -/
theorem back_txt (l : List UInt8) (h : okN l = true) : txt (pval l) = l := by
  have h := of_decide_eq_true h
  rcases cut_case l with ⟨r, rfl, h1, h2⟩ | ⟨h0, h1, h2⟩
  · rw [h1, h2] at h
    have hz : dval r ≠ 0 := fun h0 => h.2 ⟨rfl, (good_zero r h.1).1 h0⟩
    unfold txt pval
    rw [h1, h2]
    have : sv true (dval r) < 0 := by simp [sv]; omega
    rw [if_pos this, show (sv true (dval r)).natAbs = dval r by simp [sv], good_dec _ r rfl h.1]
  · rw [h1, h2] at h
    unfold txt pval
    rw [h1, h2]
    have : ¬ sv false (dval l) < 0 := by simp [sv]
    rw [if_neg this, show (sv false (dval l)).natAbs = dval l by simp [sv], good_dec _ l rfl h.1]
theorem dval_lt (t : List UInt8) (h : ∀ c ∈ t, 48 ≤ c.toNat ∧ c.toNat ≤ 57) : dval t < 10 ^ t.length := by
  have : ∀ n (t : List UInt8), t.length = n → (∀ c ∈ t, 48 ≤ c.toNat ∧ c.toNat ≤ 57) → dval t < 10 ^ n := by
    intro n
    induction n with
    | zero => intro t h0 _; rw [List.eq_nil_of_length_eq_zero h0]; decide
    | succ n ih =>
      intro t ht h
      have hne : t ≠ [] := fun h0 => by rw [h0] at ht; simp at ht
      obtain ⟨s, c, rfl⟩ : ∃ s c, t = s ++ [c] := ⟨t.dropLast, t.getLast hne, (List.dropLast_concat_getLast hne).symm⟩
      have h1 := ih s (by simpa using ht) (fun d hd => h d (by simp [hd]))
      have h2 := h c (by simp)
      rw [dval_snoc, Nat.pow_succ]
      omega
  exact this _ t rfl h
end Go.Proofs.YtjjinncecfilpaaDoor
