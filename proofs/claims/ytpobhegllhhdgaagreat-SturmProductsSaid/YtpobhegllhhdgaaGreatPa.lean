/- Proved here: polynomials as lists of whole numbers: their one form, sums, differences, products, derivatives, values, rests, and what they are without a root. No condition but those that stand at each. -/
import Derived.Test.YtpobhegllhhdgaaGreatGA
namespace Go.Proofs.YtpobhegllhhdgaaGreat

/-- A coefficient. -/
def co (L : List Int) (i : Nat) : Int := L.getD i 0
/-- How long a list is without the zeros at its end. -/
def pl : List Int → Nat
  | [] => 0
  | x :: xs => if pl xs = 0 ∧ x = 0 then 0 else pl xs + 1
/-- Without the zeros at its end. -/
def trz (L : List Int) : List Int := L.take (pl L)
/-- A list of n values. -/
def gen (n : Nat) (f : Nat → Int) : List Int := (List.range n).map f
theorem co_nil (i : Nat) : co [] i = 0 := by simp [co]
theorem co_cons0 (x : Int) (xs : List Int) : co (x :: xs) 0 = x := by simp [co]
theorem co_cons (x : Int) (xs : List Int) (i : Nat) : co (x :: xs) (i + 1) = co xs i := by simp [co]
theorem co_beyond {L : List Int} {i : Nat} (h : L.length ≤ i) : co L i = 0 := by
  unfold co; rw [List.getD_eq_getElem?_getD, List.getElem?_eq_none h]; rfl
theorem co_gen (n : Nat) (f : Nat → Int) (i : Nat) : co (gen n f) i = if i < n then f i else 0 := by
  unfold co gen
  rw [List.getD_eq_getElem?_getD, List.getElem?_map]
  by_cases h : i < n
  · rw [if_pos h, List.getElem?_eq_getElem (by simpa using h)]; simp
  · rw [if_neg h, List.getElem?_eq_none (by simpa using h)]; rfl
theorem gen_len (n : Nat) (f : Nat → Int) : (gen n f).length = n := by simp [gen]
theorem gen_snoc (n : Nat) (f : Nat → Int) : gen (n + 1) f = gen n f ++ [f n] := by simp [gen, List.range_succ]
theorem gen_congr {n : Nat} {f g : Nat → Int} (h : ∀ i, i < n → f i = g i) : gen n f = gen n g := by
  unfold gen
  apply List.map_congr_left
  intro i hi
  exact h i (by simpa using hi)
theorem co_take {L : List Int} {n i : Nat} : co (L.take n) i = if i < n then co L i else 0 := by
  unfold co
  rw [List.getD_eq_getElem?_getD, List.getD_eq_getElem?_getD, List.getElem?_take]
  split <;> rfl
theorem co_drop (L : List Int) (n i : Nat) : co (L.drop n) i = co L (n + i) := by
  unfold co
  rw [List.getD_eq_getElem?_getD, List.getD_eq_getElem?_getD, List.getElem?_drop]
theorem co_set (L : List Int) (j : Nat) (x : Int) (i : Nat) (hj : j < L.length) : co (L.set j x) i = if i = j then x else co L i := by
  unfold co
  rw [List.getD_eq_getElem?_getD, List.getD_eq_getElem?_getD, List.getElem?_set]
  by_cases h : j = i
  · subst h; simp [hj]
  · rw [if_neg h, if_neg (by omega)]
theorem pl_le : ∀ L : List Int, pl L ≤ L.length
  | [] => by simp [pl]
  | x :: xs => by have := pl_le xs; unfold pl; split <;> simp <;> omega
theorem pl_zero : ∀ (L : List Int) (j : Nat), pl L ≤ j → co L j = 0
  | [], j, _ => co_nil j
  | x :: xs, j, h => by
    unfold pl at h
    split at h
    · next h' =>
      rcases j with _ | j
      · rw [co_cons0]; exact h'.2
      · rw [co_cons]; exact pl_zero xs j (by omega)
    · rcases j with _ | j
      · omega
      · rw [co_cons]; exact pl_zero xs j (by omega)
theorem pl_top : ∀ L : List Int, pl L = 0 ∨ co L (pl L - 1) ≠ 0
  | [] => .inl (by simp [pl])
  | x :: xs => by
    unfold pl
    split
    · exact .inl rfl
    · next h' =>
      right
      rcases pl_top xs with h | h
      · rw [h, show 0 + 1 - 1 = 0 from rfl, co_cons0]
        intro hx
        exact h' ⟨h, hx⟩
      · rcases hp : pl xs with _ | k
        · rw [show 0 + 1 - 1 = 0 from rfl, co_cons0]
          intro hx
          exact h' ⟨hp, hx⟩
        · rw [hp] at h
          rw [show k + 1 + 1 - 1 = k + 1 from rfl, co_cons]
          exact h
theorem pl_uniq {L : List Int} {n : Nat} (h1 : ∀ j, n ≤ j → co L j = 0) (h2 : n = 0 ∨ co L (n - 1) ≠ 0) : n = pl L := by
  rcases Nat.lt_trichotomy n (pl L) with h | h | h
  · exfalso
    rcases pl_top L with h3 | h3
    · omega
    · exact h3 (h1 _ (by omega))
  · exact h
  · exfalso
    rcases h2 with h3 | h3
    · omega
    · exact h3 (pl_zero L _ (by omega))
theorem trz_len (L : List Int) : (trz L).length = pl L := List.length_take_of_le (pl_le L)
theorem co_trz (L : List Int) (i : Nat) : co (trz L) i = co L i := by
  unfold trz
  rw [co_take]
  split
  · rfl
  · rw [pl_zero L i (by omega)]
theorem pl_ext {L M : List Int} (h : ∀ i, co L i = co M i) : pl L = pl M :=
  pl_uniq (fun j hj => by rw [← h]; exact pl_zero L j hj) (by rcases pl_top L with h1 | h1; exact .inl h1; exact .inr (by rw [← h]; exact h1))
theorem list_ext {L M : List Int} (hl : L.length = M.length) (h : ∀ i, co L i = co M i) : L = M := by
  apply List.ext_getElem hl
  intro i h1 h2
  have := h i
  simpa [co, List.getD_eq_getElem?_getD, h1, h2] using this
theorem trz_ext {L M : List Int} (h : ∀ i, co L i = co M i) : trz L = trz M :=
  list_ext (by rw [trz_len, trz_len, pl_ext h]) fun i => by rw [co_trz, co_trz, h]
/-- In its one form. -/
def Cf (L : List Int) : Prop := L = [] ∨ co L (L.length - 1) ≠ 0
theorem pl_cf {L : List Int} (h : Cf L) : pl L = L.length :=
  (pl_uniq (fun _ hj => co_beyond hj) (by rcases h with h | h; exact .inl (by rw [h]; rfl); exact .inr h)).symm
theorem trz_cf {L : List Int} (h : Cf L) : trz L = L := by unfold trz; rw [pl_cf h, List.take_length]
theorem cf_trz (L : List Int) : Cf (trz L) := by
  unfold Cf
  rw [trz_len, co_trz]
  rcases pl_top L with h | h
  · exact .inl (List.eq_nil_of_length_eq_zero (by rw [trz_len, h]))
  · exact .inr h
theorem cf_top {L : List Int} (h : Cf L) (h0 : 0 < L.length) : co L (L.length - 1) ≠ 0 := by
  rcases h with h | h
  · subst h; simp at h0
  · exact h
theorem pl_trz (L : List Int) : pl (trz L) = pl L := by rw [pl_cf (cf_trz L), trz_len]
theorem pl_gen_le (n : Nat) (f : Nat → Int) : pl (gen n f) ≤ n := by have := pl_le (gen n f); rwa [gen_len] at this

def addP (L M : List Int) : List Int := trz (gen (max L.length M.length) fun i => co L i + co M i)
def subP (L M : List Int) : List Int := trz (gen (max L.length M.length) fun i => co L i - co M i)
/-- The product's coefficient of the power k, as far as L's first m coefficients make it. -/
def conv (L M : List Int) (k : Nat) : Nat → Int
  | 0 => 0
  | m + 1 => conv L M k m + (if m ≤ k then co L m * co M (k - m) else 0)
def mulP (L M : List Int) : List Int := trz (gen (L.length + M.length) fun k => conv L M k (k + 1))
def derP (L : List Int) : List Int := gen (pl L - 1) fun i => co L (i + 1) * ((i + 1 : Nat) : Int)
theorem co_addP (L M : List Int) (i : Nat) : co (addP L M) i = co L i + co M i := by
  unfold addP
  rw [co_trz, co_gen]
  split
  · rfl
  · rw [co_beyond (L := L) (by omega), co_beyond (L := M) (by omega)]; rfl
theorem co_subP (L M : List Int) (i : Nat) : co (subP L M) i = co L i - co M i := by
  unfold subP
  rw [co_trz, co_gen]
  split
  · rfl
  · rw [co_beyond (L := L) (by omega), co_beyond (L := M) (by omega)]; rfl
theorem addP_trz (L M : List Int) : addP (trz L) (trz M) = addP L M := by
  rw [← trz_cf (show Cf (addP (trz L) (trz M)) from cf_trz _), ← trz_cf (show Cf (addP L M) from cf_trz _)]
  exact trz_ext fun i => by
    rw [co_addP, co_addP, co_trz, co_trz]
theorem subP_trz (L M : List Int) : subP (trz L) (trz M) = subP L M := by
  rw [← trz_cf (show Cf (subP (trz L) (trz M)) from cf_trz _), ← trz_cf (show Cf (subP L M) from cf_trz _)]
  exact trz_ext fun i => by
    rw [co_subP, co_subP, co_trz, co_trz]
/-- 0 less each. -/
def negP (L : List Int) : List Int := gen L.length fun i => -co L i
theorem co_negP (L : List Int) (i : Nat) : co (negP L) i = -co L i := by
  unfold negP
  rw [co_gen]
  split
  · rfl
  · rw [co_beyond (L := L) (by omega)]; rfl
theorem sub_neg (L M : List Int) : addP L (negP M) = subP L M := by
  rw [← trz_cf (show Cf (addP L (negP M)) from cf_trz _), ← trz_cf (show Cf (subP L M) from cf_trz _)]
  exact trz_ext fun i => by rw [co_addP, co_subP, co_negP]; omega
theorem add_nil (L : List Int) : addP L [] = trz L := by
  rw [← trz_cf (show Cf (addP L []) from cf_trz _)]
  exact trz_ext fun i => by rw [co_addP, co_nil]; omega
theorem conv_congr {L M L' M' : List Int} (h1 : ∀ i, co L i = co L' i) (h2 : ∀ i, co M i = co M' i) (k : Nat) : ∀ m, conv L M k m = conv L' M' k m
  | 0 => rfl
  | m + 1 => by simp only [conv]; rw [conv_congr h1 h2 k m, h1, h2]
theorem conv_still {L M : List Int} {k m : Nat} (h : ∀ j, m ≤ j → j ≤ k → co L j * co M (k - j) = 0) : ∀ d, conv L M k (m + d) = conv L M k m
  | 0 => rfl
  | d + 1 => by
    rw [← Nat.add_assoc]
    simp only [conv]
    rw [conv_still h d]
    by_cases hk : m + d ≤ k
    · rw [if_pos hk, h _ (by omega) hk]; omega
    · rw [if_neg hk]; omega
theorem conv_all {L M : List Int} {k m : Nat} (h : L.length ≤ m) : conv L M k m = conv L M k (k + 1) := by
  have h1 : conv L M k m = conv L M k (m + (k + 1)) := (conv_still (fun j hj _ => by rw [co_beyond (L := L) (by omega)]; omega) _).symm
  have h2 : conv L M k (k + 1) = conv L M k (k + 1 + m) := (conv_still (fun j hj hk => by omega) _).symm
  rw [h1, h2, Nat.add_comm]
theorem conv_far {L M : List Int} {k : Nat} (h : L.length + M.length ≤ k) : ∀ m, conv L M k m = 0
  | 0 => rfl
  | m + 1 => by
    simp only [conv]
    rw [conv_far h m]
    split
    · rcases Nat.lt_or_ge m L.length with h1 | h1
      · rw [co_beyond (L := M) (by omega)]; omega
      · rw [co_beyond (L := L) h1]; omega
    · rfl
theorem co_mulP (L M : List Int) (k : Nat) : co (mulP L M) k = conv L M k (k + 1) := by
  unfold mulP
  rw [co_trz, co_gen]
  split
  · rfl
  · rw [conv_far (by omega)]
theorem mulP_trz (L M : List Int) : mulP (trz L) (trz M) = mulP L M := by
  rw [← trz_cf (show Cf (mulP (trz L) (trz M)) from cf_trz _), ← trz_cf (show Cf (mulP L M) from cf_trz _)]
  exact trz_ext fun i => by
    rw [co_mulP, co_mulP]
    exact conv_congr (co_trz L) (co_trz M) _ _
theorem derP_cf (L : List Int) : Cf (derP L) := by
  unfold Cf derP
  rw [gen_len, co_gen]
  rcases Nat.eq_zero_or_pos (pl L - 1) with h | h
  · left; rw [h]; rfl
  · right
    rw [if_pos (by omega), show pl L - 1 - 1 + 1 = pl L - 1 by omega]
    rcases pl_top L with h1 | h1
    · omega
    · exact Int.mul_ne_zero h1 (by omega)
theorem derP_trz (L : List Int) : derP (trz L) = derP L := by
  unfold derP
  rw [pl_trz]
  exact gen_congr fun i _ => by rw [co_trz]

/-- A value at n by d, times d to the power of the degree. -/
def hor (n d : Int) : List Int → Int
  | [] => 0
  | c :: cs => hor n d cs * n + c * d ^ cs.length
theorem drop_cons {T : List Int} {k : Nat} (h : k < T.length) : T.drop k = co T k :: T.drop (k + 1) := by
  rw [List.drop_eq_getElem_cons h]
  congr 1
  simp [co, h]
theorem hor_drop (n d : Int) {T : List Int} {k : Nat} (h : k < T.length) : hor n d (T.drop k) = hor n d (T.drop (k + 1)) * n + co T k * d ^ (T.length - (k + 1)) := by
  rw [drop_cons h]
  simp only [hor, List.length_drop]

/-- The absolute value, and a number with the sign of another one. -/
def absI (s : Int) : Int := if s < 0 then -s else s
def sgI (s t : Int) : Int := if s < 0 then -t else t
/-- A step of a rest. -/
def stepR (p q : List Int) : List Int :=
  trz (gen (p.length - 1) fun i => co p i * absI (co q (q.length - 1)) - (if p.length - q.length ≤ i then co q (i - (p.length - q.length)) * sgI (co q (q.length - 1)) (co p (p.length - 1)) else 0))
theorem stepR_len (p q : List Int) : (stepR p q).length ≤ p.length - 1 := by unfold stepR; rw [trz_len]; exact pl_gen_le _ _
def restF : Nat → List Int → List Int → List Int
  | 0, p, _ => p
  | k + 1, p, q => if p.length < q.length then p else restF k (stepR p q) q
def restP (p q : List Int) : List Int := restF p.length p q
theorem restF_stop {p q : List Int} (h : p.length < q.length) : ∀ k, restF k p q = p
  | 0 => rfl
  | k + 1 => by simp [restF, h]
theorem restF_enough {q : List Int} (hq : 0 < q.length) : ∀ (k : Nat) (p : List Int), p.length ≤ k → restF k p q = restF p.length p q
  | 0, p, h => by rw [show p.length = 0 by omega]
  | k + 1, p, h => by
    by_cases hl : p.length < q.length
    · rw [restF_stop hl, restF_stop hl]
    · obtain ⟨m, hm⟩ : ∃ m, p.length = m + 1 := ⟨p.length - 1, by omega⟩
      have hs := stepR_len p q
      rw [hm]
      simp only [restF]
      rw [if_neg hl, if_neg hl, restF_enough hq k _ (by omega), restF_enough hq m _ (by omega)]
theorem restP_step {p q : List Int} (hq : 0 < q.length) (h : ¬ p.length < q.length) : restP p q = restP (stepR p q) q := by
  unfold restP
  obtain ⟨m, hm⟩ : ∃ m, p.length = m + 1 := ⟨p.length - 1, by omega⟩
  have hs := stepR_len p q
  rw [hm]
  simp only [restF]
  rw [if_neg h, restF_enough hq m _ (by omega)]
theorem restP_stop {p q : List Int} (h : p.length < q.length) : restP p q = p := restF_stop h _
/-- The same step, as the document has it. -/
theorem stepR_doc {p q : List Int} (h : ¬ p.length < q.length) (hq : 0 < q.length) :
    trz (gen p.length fun i => co p i * absI (co q (q.length - 1)) - sgI (co q (q.length - 1)) ((if p.length ≤ i + q.length then co q (i + q.length - p.length) else 0) * co p (p.length - 1))) = stepR p q := by
  unfold stepR
  refine trz_ext fun i => ?_
  rw [co_gen, co_gen]
  have e : ∀ s t u : Int, sgI s (t * u) = t * sgI s u := fun s t u => by unfold sgI; split; rw [Int.mul_neg]; rfl
  rcases Nat.lt_trichotomy i (p.length - 1) with h1 | h1 | h1
  · rw [if_pos (by omega), if_pos h1, e]
    by_cases h2 : p.length ≤ i + q.length
    · rw [if_pos h2, if_pos (by omega), show i + q.length - p.length = i - (p.length - q.length) by omega]
    · rw [if_neg h2, if_neg (by omega)]; simp
  · have hp : 0 < p.length := by omega
    rw [if_pos (show i < p.length by omega), if_neg (show ¬ i < p.length - 1 by omega), e, if_pos (show p.length ≤ i + q.length by omega), show i + q.length - p.length = q.length - 1 by omega, ← h1]
    unfold absI sgI
    have := Int.mul_comm (co p i) (co q (q.length - 1))
    split
    · rw [Int.mul_neg, Int.mul_neg, this]; omega
    · rw [this]; omega
  · rw [if_neg (by omega), if_neg (by omega)]

/-- The first one, or 0. -/
def hd0 (L : List Int) : Int := co L 0
theorem hd0_nil : hd0 [] = 0 := rfl
theorem hd0_cons (c : Int) (cs : List Int) : hd0 (c :: cs) = c := rfl
/-- Divided by d x - n, from the top down. -/
def syn (n d : Int) : List Int → List Int
  | [] => []
  | c :: cs => (c + hd0 (syn n d cs) * n).tdiv d :: syn n d cs
theorem syn_len (n d : Int) : ∀ L : List Int, (syn n d L).length = L.length
  | [] => rfl
  | _ :: cs => by simp [syn, syn_len n d cs]
theorem syn_drop (n d : Int) : ∀ (L : List Int) (k : Nat), (syn n d L).drop k = syn n d (L.drop k)
  | [], k => by simp [syn]
  | _ :: _, 0 => rfl
  | _ :: cs, k + 1 => by simp [syn, syn_drop n d cs k]
theorem hd0_drop (L : List Int) (k : Nat) : hd0 (L.drop k) = co L k := by
  unfold hd0
  rw [co_drop]; rfl
/-- Each division goes without rest. -/
def exq (n d : Int) : List Int → Prop
  | [] => True
  | c :: cs => exq n d cs ∧ d ∣ c + hd0 (syn n d cs) * n
theorem hor_exact {n d : Int} : ∀ L : List Int, exq n d L → hor n d L = hd0 (syn n d L) * d ^ L.length
  | [], _ => by simp [hor, syn, hd0_nil]
  | c :: cs, h => by
    obtain ⟨h1, h2⟩ := h
    have e := Int.mul_tdiv_cancel' h2
    simp only [hor, syn, hd0_cons, List.length_cons, Int.pow_succ]
    rw [hor_exact cs h1]
    rw [show (c + hd0 (syn n d cs) * n).tdiv d * (d ^ cs.length * d) = (d * (c + hd0 (syn n d cs) * n).tdiv d) * d ^ cs.length by
      rw [Int.mul_comm d, Int.mul_assoc, Int.mul_comm d]]
    rw [e, Int.add_mul, Int.mul_right_comm, Int.add_comm]
theorem exact_of {n d : Int} (hd : 0 < d) (hg : n.natAbs.gcd d.natAbs = 1) : ∀ L : List Int, d ^ L.length ∣ hor n d L → exq n d L
  | [], _ => trivial
  | c :: cs, h => by
    have hp : d ^ cs.length ∣ d ^ (c :: cs).length := by simp only [List.length_cons, Int.pow_succ]; exact Int.dvd_mul_right _ _
    have h1 : d ^ cs.length ∣ hor n d cs * n := by
      have h3 := Int.dvd_trans hp h
      simp only [hor] at h3
      exact (Int.dvd_add_left (Int.dvd_mul_left _ _)).1 h3
    have h2 : d ^ cs.length ∣ hor n d cs := by
      rw [← Int.natAbs_dvd_natAbs, Int.natAbs_mul, Int.natAbs_pow] at h1
      rw [← Int.natAbs_dvd_natAbs, Int.natAbs_pow]
      exact (Nat.Coprime.pow_left _ (Nat.Coprime.symm hg)).dvd_of_dvd_mul_right h1
    have h3 := exact_of hd hg cs h2
    refine ⟨h3, ?_⟩
    have h4 := hor_exact cs h3
    simp only [hor, List.length_cons, Int.pow_succ, h4] at h
    rw [show hd0 (syn n d cs) * d ^ cs.length * n + c * d ^ cs.length = d ^ cs.length * (c + hd0 (syn n d cs) * n) by
      rw [Int.mul_add, Int.mul_right_comm, Int.mul_comm (d ^ cs.length), Int.mul_comm (d ^ cs.length)]; omega] at h
    exact Int.dvd_of_mul_dvd_mul_left (Int.pow_ne_zero (by omega)) h
theorem root_iff {n d : Int} (hd : 0 < d) (hg : n.natAbs.gcd d.natAbs = 1) (c : Int) (cs : List Int) : hor n d (c :: cs) = 0 ↔ exq n d cs ∧ c + hd0 (syn n d cs) * n = 0 := by
  have hp : d ^ cs.length ≠ 0 := Int.pow_ne_zero (by omega)
  have e : ∀ h : exq n d cs, hor n d (c :: cs) = (c + hd0 (syn n d cs) * n) * d ^ cs.length := fun h => by
    simp only [hor, hor_exact cs h]
    rw [Int.add_mul, Int.mul_right_comm]; omega
  constructor
  · intro h
    have h1 : exq n d cs := by
      refine exact_of hd hg cs ?_
      have h2 : d ^ cs.length ∣ hor n d cs * n := by
        simp only [hor] at h
        exact ⟨-c, by rw [Int.mul_neg, Int.mul_comm (d ^ cs.length)]; omega⟩
      rw [← Int.natAbs_dvd_natAbs, Int.natAbs_mul, Int.natAbs_pow] at h2
      rw [← Int.natAbs_dvd_natAbs, Int.natAbs_pow]
      exact (Nat.Coprime.pow_left _ (Nat.Coprime.symm hg)).dvd_of_dvd_mul_right h2
    rw [e h1] at h
    exact ⟨h1, (Int.mul_eq_zero.1 h).resolve_right hp⟩
  · rintro ⟨h1, h2⟩
    rw [e h1, h2, Int.zero_mul]
theorem exq_drop {n d : Int} : ∀ (L : List Int) (k : Nat), exq n d L → exq n d (L.drop k)
  | [], k, _ => by simp [exq]
  | _ :: _, 0, h => h
  | _ :: cs, k + 1, h => by simpa using exq_drop cs k h.1
theorem syn_cf {n d : Int} {L : List Int} (h : exq n d L) (hc : Cf L) : Cf (syn n d L) := by
  rcases hc with hc | hc
  · left; rw [hc]; rfl
  · rcases Nat.eq_zero_or_pos L.length with h0 | h0
    · left
      rw [List.eq_nil_of_length_eq_zero h0]; rfl
    · right
      rw [syn_len, ← hd0_drop, syn_drop, drop_cons (by omega)]
      have h1 := exq_drop L (L.length - 1) h
      rw [drop_cons (by omega)] at h1
      rw [show L.length - 1 + 1 = L.length by omega, List.drop_length] at h1 ⊢
      simp only [syn, hd0_cons, hd0_nil, exq, true_and] at h1 ⊢
      rw [Int.zero_mul, Int.add_zero] at h1 ⊢
      intro h2
      have := Int.mul_tdiv_cancel' h1
      rw [h2] at this
      exact hc (by omega)
/-- Without a root, and how often. -/
def woF (n d : Int) : Nat → List Int → List Int × Nat
  | 0, p => (p, 0)
  | k + 1, p => if hor n d p = 0 ∧ 1 < p.length then ((woF n d k (syn n d (p.drop 1))).1, (woF n d k (syn n d (p.drop 1))).2 + 1) else (p, 0)
def woP (n d : Int) (p : List Int) : List Int × Nat := woF n d p.length p
theorem woF_enough (n d : Int) : ∀ (k : Nat) (p : List Int), p.length ≤ k → woF n d k p = woF n d p.length p
  | 0, p, h => by rw [show p.length = 0 by omega]
  | k + 1, p, h => by
    rcases p with _ | ⟨c, cs⟩
    · simp [woF]
    · simp only [List.length_cons] at h
      simp only [List.length_cons, woF, List.drop_succ_cons, List.drop_zero]
      rw [woF_enough n d k (syn n d cs) (by rw [syn_len]; omega), woF_enough n d cs.length (syn n d cs) (by rw [syn_len]; omega)]
theorem woP_step {n d : Int} {p : List Int} (h : hor n d p = 0) (hl : 1 < p.length) : woP n d p = ((woP n d (syn n d (p.drop 1))).1, (woP n d (syn n d (p.drop 1))).2 + 1) := by
  rcases p with _ | ⟨c, cs⟩
  · simp at hl
  · unfold woP
    simp only [List.length_cons, List.drop_succ_cons, List.drop_zero, woF]
    rw [if_pos ⟨h, by simpa using hl⟩, woF_enough n d cs.length (syn n d cs) (by rw [syn_len]; omega)]
theorem woP_stop {n d : Int} {p : List Int} (h : ¬ (hor n d p = 0 ∧ 1 < p.length)) : woP n d p = (p, 0) := by
  unfold woP
  rcases p.length with _ | k
  · rfl
  · simp only [woF, if_neg h]
theorem hor_one {n d c : Int} (h : c ≠ 0) : hor n d [c] ≠ 0 := by simp [hor, h]
end Go.Proofs.YtpobhegllhhdgaaGreat
