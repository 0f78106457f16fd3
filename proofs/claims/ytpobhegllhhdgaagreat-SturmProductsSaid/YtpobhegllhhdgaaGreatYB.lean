/- Proved here: a polynomial's rest as a function, and a chain as one number times a chain of functions. No condition but those that stand at each. · a polynomial's signs just below and just above a fraction. Condition: a polynomial in its one form that isn't 0, a fraction that may be. · how often a polynomial's chain changes its signs at places that are no root of any of it, and near a fraction. Condition: a polynomial in its one form that isn't 0. · how often a polynomial's chain changes its signs, and how often the polynomial goes through 0, between places that are no root of any of it. Condition: a polynomial in its one form that isn't 0. · the walk through the chains of chains, beside fractions. Condition: a polynomial in its one form that isn't 0. · what a product of x - r, each some times, answers to how often it is 0, and how often it goes through 0. Condition: all of these r lie between the ends. · what Count and Negative answer of a product of x - r, each some times. Condition: all of these r lie between the ends. · the product of D x - N of a list of fractions: how long it is, how great its numbers are, and where it is 0. Condition: fractions in lowest terms, the numbers from -20 to 20 and 1 to 4 where sizes are told. -/
import Derived.Test.YtpobhegllhhdgaaGreatYA
import Derived.Test.YtpobhegllhhdgaaGreatJC
import Derived.Test.YtpobhegllhhdgaaGreatJB
import Derived.Test.YtpobhegllhhdgaaGreatPc
namespace Go.Proofs.YtpobhegllhhdgaaGreat.TH

theorem ev_step {p q : List Int} (hq : 0 < q.length) (h : q.length ≤ p.length) (x : Rat) :
    ev (stepR p q) x = ((absI (co q (q.length - 1)) : Int) : Rat) * ev p x - ((sgI (co q (q.length - 1)) (co p (p.length - 1)) : Int) : Rat) * (pw x (p.length - q.length) * ev q x) := by
  obtain ⟨sh, hsh⟩ : ∃ sh, sh = p.length - q.length := ⟨_, rfl⟩
  obtain ⟨l, hl⟩ : ∃ l, l = co q (q.length - 1) := ⟨_, rfl⟩
  obtain ⟨t, ht⟩ : ∃ t, t = co p (p.length - 1) := ⟨_, rfl⟩
  have hco : ∀ i, co (stepR p q) i = absI l * co p i + (-(sgI l t)) * (if sh ≤ i then co q (i - sh) else 0) := by
    intro i
    unfold stepR
    rw [co_trz, co_gen, ← hsh, ← hl, ← ht]
    by_cases hi : i < p.length - 1
    · rw [if_pos hi]
      by_cases h2 : sh ≤ i
      · rw [if_pos h2, if_pos h2]; grind
      · rw [if_neg h2, if_neg h2]; grind
    · rw [if_neg hi]
      by_cases h3 : i = p.length - 1
      · rw [if_pos (by omega), h3, ← ht, show p.length - 1 - sh = q.length - 1 by omega, ← hl]
        unfold absI sgI
        split <;> grind
      · rw [co_beyond (L := p) (by omega), if_pos (by omega), co_beyond (L := q) (by omega)]
        simp
  have hn : (stepR p q).length ≤ q.length + sh := by have := stepR_len p q; omega
  rw [ev_hv hn, hv_congr _ x (fun i _ => hco i), hv_lin, hv_shift, ← ev_hv (by omega)]
  unfold ev
  rw [Rat.intCast_neg]
  grind
theorem absI_pos {l : Int} (h : l ≠ 0) : 0 < absI l := by unfold absI; split <;> omega
theorem int_pos {l : Int} (h : 0 < l) : (0 : Rat) < (l : Rat) := by
  have := (Rat.intCast_le_intCast (a := 1) (b := l)).2 (by omega)
  have e1 : ((1 : Int) : Rat) = 1 := by decide +kernel
  grind
theorem ev_restF {q : List Int} (hq : 0 < q.length) (hc : Cf q) : ∀ (k : Nat) (p : List Int), ∃ (c : Rat) (Q Q' : Rat → Rat), 0 < c ∧ PF Q Q' ∧ ∀ x, ev (restF k p q) x = c * ev p x - Q x * ev q x
  | 0, p => ⟨1, _, _, by grind, PF.const 0, fun x => by simp only [restF]; grind⟩
  | k + 1, p => by
    by_cases h : p.length < q.length
    · refine ⟨1, _, _, by grind, PF.const 0, fun x => ?_⟩
      simp only [restF]
      rw [if_pos h]
      grind
    · obtain ⟨c, Q, Q', c0, hQ, e⟩ := ev_restF hq hc k (stepR p q)
      have hl : co q (q.length - 1) ≠ 0 := cf_top hc hq
      obtain ⟨f', hf⟩ := pf_pw (p.length - q.length)
      refine ⟨c * ((absI (co q (q.length - 1)) : Int) : Rat), _, _, Rat.mul_pos c0 (int_pos (absI_pos hl)), ((PF.const (c * ((sgI (co q (q.length - 1)) (co p (p.length - 1)) : Int) : Rat))).mul hf).add hQ, fun x => ?_⟩
      simp only [restF]
      rw [if_neg h, e x, ev_step hq (by omega)]
      grind
theorem ev_rest {p q : List Int} (hq : 0 < q.length) (hc : Cf q) : ∃ (c : Rat) (Q Q' : Rat → Rat), 0 < c ∧ PF Q Q' ∧ ∀ x, ev (restP p q) x = c * ev p x - Q x * ev q x := ev_restF hq hc _ p
theorem GC.pf {l : List (Rat → Rat)} (h : GC l) : ∀ u ∈ l, ∃ u', PF u u' := by
  induction h with
  | last c _ => intro u hu; rw [List.mem_singleton] at hu; rw [hu]; exact ⟨_, PF.const c⟩
  | two u u' c hu _ =>
    intro v hv
    rcases List.mem_cons.1 hv with rfl | hv
    · exact ⟨_, hu⟩
    · rw [List.mem_singleton] at hv; rw [hv]; exact ⟨_, PF.const c⟩
  | step u u' v w q q' r e hu _ _ _ _ ih =>
    intro z hz
    rcases List.mem_cons.1 hz with rfl | hz
    · exact ⟨_, hu⟩
    · exact ih z hz
/-- The last one of a chain. -/
def lstP (Ls : List (List Int)) : List Int := pg Ls (Ls.length - 1)
theorem lst_cons (a : List Int) {Ls : List (List Int)} (h : 0 < Ls.length) : lstP (a :: Ls) = lstP Ls := by
  unfold lstP pg
  obtain ⟨j, hj⟩ : ∃ j, Ls.length = j + 1 := ⟨_, (Nat.sub_add_cancel h).symm⟩
  simp [hj]
/-- A chain is one function times a chain of functions. -/
theorem chn_gc : ∀ (n : Nat) (a b : List Int), b.length ≤ n → Cf a → Cf b → ∃ Hs : List (Rat → Rat), GC Hs ∧ Hs.length = (chn a b).length ∧
    ∀ i u, Hs[i]? = some u → ∀ x, ev (pg (chn a b) i) x = ev (lstP (chn a b)) x * u x
  | n, a, b, hn, hca, hcb => by
    rcases Nat.eq_zero_or_pos b.length with h0 | h0
    · refine ⟨[fun _ => 1], GC.last 1 (by decide +kernel), by rw [chn_stop h0]; rfl, fun i u hu x => ?_⟩
      rw [chn_stop h0]
      rcases i with _ | i
      · simp at hu
        subst hu
        show ev a x = ev a x * 1
        grind
      · simp at hu
    · rcases n with _ | n
      · omega
      · have hr := restP_short (p := a) (q := b) h0
        obtain ⟨c, Q, Q', c0, hQ, e⟩ := ev_rest (p := a) h0 hcb
        obtain ⟨r, hrr⟩ : ∃ r, r = negP (restP a b) := ⟨_, rfl⟩
        have hrl : r.length < b.length := by rw [hrr, negP_length]; exact hr
        have hcr : Cf r := hrr ▸ negP_cf (restP_cf hca)
        have hst : chn a b = a :: chn b r := by rw [chn_step h0, hrr]
        have hpos := chn_pos b r
        have her : ∀ x, ev r x = -(c * ev a x - Q x * ev b x) := fun x => by rw [hrr, ev_neg, e]
        obtain ⟨i, hi⟩ : ∃ i, i = 1 / c := ⟨_, rfl⟩
        have hic : i * c = 1 := by rw [hi]; grind
        have i0 : 0 < i := hi ▸ inv_pos c0
        rcases Nat.eq_zero_or_pos r.length with hr0 | hr0
        · have hrn : r = [] := List.eq_nil_of_length_eq_zero hr0
          refine ⟨[fun x => i * Q x, fun _ => 1], GC.two _ _ 1 ((PF.const i).mul hQ) (by decide +kernel), by rw [hst, chn_stop hr0]; rfl, fun j u hu x => ?_⟩
          rw [hst, chn_stop hr0]
          have hx := her x
          rw [hrn, ev_nil] at hx
          rcases j with _ | _ | j
          · simp at hu
            subst hu
            show ev a x = ev b x * (i * Q x)
            grind
          · simp at hu
            subst hu
            show ev b x = ev b x * 1
            grind
          · simp at hu
        · obtain ⟨Hs, hg, hlen, hev⟩ := chn_gc n b r (by omega) hcb hcr
          rw [chn_step hr0] at hlen
          have hp2 := chn_pos r (negP (restP b r))
          rcases Hs with _ | ⟨hb, _ | ⟨hk, rest⟩⟩
          · simp at hlen
          · simp only [List.length_cons, List.length_nil] at hlen; omega
          · obtain ⟨b', hb'⟩ := hg.pf hb (by simp)
            obtain ⟨k', hk'⟩ := hg.pf hk (by simp)
            refine ⟨(fun x => (i * Q x) * hb x + (-i) * hk x) :: hb :: hk :: rest, GC.step _ _ _ _ (fun x => i * Q x) _ _ i ((((PF.const i).mul hQ).mul hb').add ((PF.const (-i)).mul hk')) ((PF.const i).mul hQ) i0 (fun x => by grind) hg, by rw [hst, chn_step hr0]; simp only [List.length_cons] at hlen ⊢; omega, fun j u hu x => ?_⟩
            rw [hst, lst_cons a hpos]
            rcases j with _ | j
            · simp at hu
              subst hu
              have e0 := hev 0 hb (by simp) x
              have e1 := hev 1 hk (by simp) x
              have p0 : pg (chn b r) 0 = b := chn_zero b r
              have p1 : pg (chn b r) 1 = r := by
                rw [chn_step hr0]
                show pg (chn r _) 0 = r
                exact chn_zero _ _
              rw [p0] at e0
              rw [p1] at e1
              have hx := her x
              show ev a x = _
              grind
            · simp at hu
              exact hev j u hu x
end Go.Proofs.YtpobhegllhhdgaaGreat.TH
namespace Go.Proofs.YtpobhegllhhdgaaGreat.TH

theorem int_ne {l : Int} (h : l ≠ 0) : (l : Rat) ≠ 0 := by
  intro h2
  have e0 : ((0 : Int) : Rat) = 0 := by decide +kernel
  rw [← e0] at h2
  have h3 := (Rat.intCast_le_intCast (a := l) (b := 0)).1 (by rw [h2]; exact Rat.le_refl)
  have h4 := (Rat.intCast_le_intCast (a := 0) (b := l)).1 (by rw [h2]; exact Rat.le_refl)
  omega
theorem hd0_ev {n d : Int} (hd : d ≠ 0) : ∀ (L : List Int), exq n d L → ∀ x, ev L x = ((d : Rat) * x - n) * ev ((syn n d L).drop 1) x + (d : Rat) * ((hd0 (syn n d L) : Int) : Rat)
  | [], _, x => by
    show ev [] x = ((d : Rat) * x - n) * ev [] x + (d : Rat) * (((0 : Int) : Int) : Rat)
    have e0 : ((0 : Int) : Rat) = 0 := by decide +kernel
    rw [ev_nil, e0]
    grind
  | c :: cs, h, x => by
    obtain ⟨h1, h2⟩ := h
    have ih := hd0_ev hd cs h1 x
    have e := Int.mul_tdiv_cancel' h2
    have e2 : (d : Rat) * (((c + hd0 (syn n d cs) * n).tdiv d : Int) : Rat) = (c : Rat) + ((hd0 (syn n d cs) : Int) : Rat) * (n : Rat) := by
      rw [← Rat.intCast_mul, e, Rat.intCast_add, Rat.intCast_mul]
    have e3 : ev (syn n d cs) x = ((hd0 (syn n d cs) : Int) : Rat) + x * ev ((syn n d cs).drop 1) x := by
      rcases syn n d cs with _ | ⟨y, ys⟩
      · show (0 : Rat) = ((0 : Int) : Rat) + x * 0
        have e0 : ((0 : Int) : Rat) = 0 := by decide +kernel
        rw [e0]; grind
      · exact ev_cons y ys x
    rw [ev_cons]
    show _ = ((d : Rat) * x - n) * ev (syn n d cs) x + (d : Rat) * (((c + hd0 (syn n d cs) * n).tdiv d : Int) : Rat)
    rw [e2, e3, ih]
    grind
theorem root_ev {n d : Int} (hd : d ≠ 0) {c : Int} {cs : List Int} (h1 : exq n d cs) (h2 : c + hd0 (syn n d cs) * n = 0) (x : Rat) : ev (c :: cs) x = ((d : Rat) * x - n) * ev (syn n d cs) x := by
  have ih := hd0_ev hd cs h1 x
  have e3 : ev (syn n d cs) x = ((hd0 (syn n d cs) : Int) : Rat) + x * ev ((syn n d cs).drop 1) x := by
    rcases syn n d cs with _ | ⟨y, ys⟩
    · show (0 : Rat) = ((0 : Int) : Rat) + x * 0
      have e0 : ((0 : Int) : Rat) = 0 := by decide +kernel
      rw [e0]; grind
    · exact ev_cons y ys x
  have h3 : (c : Rat) = -(((hd0 (syn n d cs) : Int) : Rat) * (n : Rat)) := by
    rw [← Rat.intCast_mul, ← Rat.intCast_neg]
    congr 1
    omega
  rw [ev_cons, ih, e3, h3]
  grind
/-- Without a root: as a function. -/
theorem wo_ev {n d : Int} (hm : Maybe n d) : ∀ (k : Nat) (L : List Int), L.length ≤ k → Cf L → 0 < L.length →
    (∀ x, ev L x = pw ((d : Rat) * x - n) (woP n d L).2 * ev (woP n d L).1 x) ∧ Cf (woP n d L).1 ∧ 0 < (woP n d L).1.length ∧ hor n d (woP n d L).1 ≠ 0 := by
  intro k
  induction k with
  | zero => intro L hk _ h0; omega
  | succ k ih =>
    intro L hk hc h0
    by_cases h : hor n d L = 0 ∧ 1 < L.length
    · rw [woP_step h.1 h.2]
      rcases L with _ | ⟨c, cs⟩
      · simp at h0
      · obtain ⟨h1, h2⟩ := (root_iff hm.1 hm.2 c cs).1 h.1
        simp only [List.length_cons] at h hk
        have hcs : Cf cs := by
          right
          have := cf_top hc (by simp)
          rw [show (c :: cs).length - 1 = cs.length - 1 + 1 by simp; omega, co_cons] at this
          exact this
        obtain ⟨a, b, e, f⟩ := ih (syn n d cs) (by rw [syn_len]; omega) (syn_cf h1 hcs) (by rw [syn_len]; omega)
        refine ⟨fun x => ?_, b, e, f⟩
        rw [root_ev (by have := hm.1; omega) h1 h2, a x]
        show _ = pw _ (_ + 1) * _
        simp only [pw]
        show _ * (pw _ (woP n d (syn n d cs)).2 * ev (woP n d (syn n d cs)).1 x) = _ * pw _ (woP n d (syn n d cs)).2 * ev (woP n d (syn n d cs)).1 x
        grind
    · rw [woP_stop h]
      refine ⟨fun x => ?_, hc, h0, fun hz => ?_⟩
      · show ev L x = 1 * ev L x
        grind
      · rcases L with _ | ⟨c, cs⟩
        · simp at h0
        · simp only [List.length_cons] at h
          have hcs : cs = [] := List.eq_nil_of_length_eq_zero (by
            rcases Nat.eq_zero_or_pos cs.length with h3 | h3
            · exact h3
            · exact absurd ⟨hz, by omega⟩ h)
          subst hcs
          exact hor_one (by have := cf_top hc (by simp); simpa [co] using this) hz
theorem pw_pos {x : Rat} (h : 0 < x) : ∀ k, 0 < pw x k
  | 0 => by show (0 : Rat) < 1; decide +kernel
  | k + 1 => Rat.mul_pos h (pw_pos h k)
theorem pw_int (d : Int) : ∀ k, (((d ^ k : Int)) : Rat) = pw (d : Rat) k
  | 0 => by rw [Int.pow_zero]; show ((1 : Int) : Rat) = 1; decide +kernel
  | k + 1 => by rw [Int.pow_succ, Rat.intCast_mul, pw_int d k]; simp only [pw]; grind
theorem hor_ev {n d : Int} {a : Rat} (ha : a * d = n) : ∀ L : List Int, ((hor n d L : Int) : Rat) * d = ev L a * pw (d : Rat) L.length
  | [] => by
    show ((0 : Int) : Rat) * d = 0 * _
    have e0 : ((0 : Int) : Rat) = 0 := by decide +kernel
    rw [e0]; grind
  | c :: cs => by
    have ih := hor_ev ha cs
    simp only [hor, List.length_cons, pw]
    rw [Rat.intCast_add, Rat.intCast_mul, Rat.intCast_mul, pw_int, ev_cons]
    grind
theorem sgn_sg {z : Int} {y : Rat} {u v : Rat} (hu : 0 < u) (hv : 0 < v) (h : (z : Rat) * u = y * v) : sgn z = sg y := by
  unfold sgn cmpI
  by_cases h1 : z < 0
  · rw [if_pos h1]
    have h2 := int_pos (l := -z) (by omega)
    rw [Rat.intCast_neg] at h2
    have h3 := Rat.mul_pos h2 hu
    rw [sg_neg]
    rcases Rat.le_total (a := 0) (b := y) with h4 | h4
    · have := Rat.mul_nonneg h4 (Rat.le_of_lt hv)
      grind
    · by_cases h5 : y = 0
      · rw [h5] at h; grind
      · grind
  · by_cases h2 : 0 < z
    · rw [if_neg h1, if_pos h2]
      have h3 := Rat.mul_pos (int_pos h2) hu
      rw [sg_pos]
      rcases Rat.le_total (a := y) (b := 0) with h4 | h4
      · have := Rat.mul_nonneg (show 0 ≤ -y by grind) (Rat.le_of_lt hv)
        grind
      · by_cases h5 : y = 0
        · rw [h5] at h; grind
        · grind
    · have hz : z = 0 := by omega
      subst hz
      rw [if_neg h1, if_neg h2]
      have e0 : ((0 : Int) : Rat) = 0 := by decide +kernel
      rw [e0] at h
      have hy : y = 0 := by
        have h3 : y * v = 0 := by grind
        rcases Rat.mul_eq_zero.1 h3 with h4 | h4
        · exact h4
        · grind
      rw [hy]
      decide +kernel
theorem sgn_hor {n d : Int} (hd : 0 < d) {a : Rat} (ha : a * d = n) (L : List Int) : sgn (hor n d L) = sg (ev L a) :=
  sgn_sg (int_pos hd) (pw_pos (int_pos hd) _) (hor_ev ha L)
theorem sg_mul (x y : Rat) : sg (x * y) = sg x * sg y := by
  rcases sg_cases x with ⟨a, a'⟩ | ⟨a, a'⟩ | ⟨a, a'⟩ <;> rcases sg_cases y with ⟨b, b'⟩ | ⟨b, b'⟩ | ⟨b, b'⟩ <;> rw [a', b']
  · have := Rat.mul_pos (show 0 < -x by grind) (show 0 < -y by grind)
    rw [sg_pos (by grind)]; decide
  · rw [b, show x * 0 = 0 by grind]; decide +kernel
  · have := Rat.mul_pos (show 0 < -x by grind) b
    rw [sg_neg (by grind)]; decide
  · rw [a, show (0 : Rat) * y = 0 by grind]; decide +kernel
  · rw [a, show (0 : Rat) * y = 0 by grind]; decide +kernel
  · rw [a, show (0 : Rat) * y = 0 by grind]; decide +kernel
  · have := Rat.mul_pos a (show 0 < -y by grind)
    rw [sg_neg (by grind)]; decide
  · rw [b, show x * 0 = 0 by grind]; decide +kernel
  · have := Rat.mul_pos a b
    rw [sg_pos this]; decide
theorem sg_pw_neg {x : Rat} (h : x < 0) : ∀ k, sg (pw x k) = if k % 2 = 0 then 1 else -1
  | 0 => by show sg 1 = _; decide +kernel
  | k + 1 => by
    simp only [pw]
    rw [sg_mul, sg_neg h, sg_pw_neg h k]
    rcases Nat.mod_two_eq_zero_or_one k with h1 | h1
    · rw [if_pos h1, if_neg (by omega)]; decide
    · rw [if_neg (by omega), if_pos (by omega)]; decide
/-- Beside a place at which a polynomial isn't 0 it keeps its sign. -/
theorem sg_near (L : List Int) {a : Rat} (h : ev L a ≠ 0) : ∃ e, 0 < e ∧ ∀ x, a - e < x → x < a + e → sg (ev L x) = sg (ev L a) := by
  obtain ⟨R, hR, hR2⟩ : ∃ R : Rat, 0 ≤ R ∧ (-R + 1 ≤ a ∧ a ≤ R - 1) := by
    rcases Rat.le_total (a := a) (b := 0) with h | h
    · exact ⟨1 - a, by grind, by grind⟩
    · exact ⟨1 + a, by grind, by grind⟩
  obtain ⟨M, K, T, B⟩ := (pf_der L).bnd hR
  obtain ⟨m, m0, hm⟩ : ∃ m : Rat, 0 < m ∧ (m ≤ ev L a ∨ ev L a ≤ -m) := by
    rcases Rat.le_total (a := ev L a) (b := 0) with h1 | h1
    · exact ⟨-(ev L a), by grind, by grind⟩
    · exact ⟨ev L a, by grind, by grind⟩
  have K0 := B.k0
  obtain ⟨i, hi⟩ : ∃ i, i = 1 / ((K + 1) * (m + 1)) := ⟨_, rfl⟩
  have hpos := Rat.mul_pos (show 0 < K + 1 by grind) (show 0 < m + 1 by grind)
  have i0 : 0 < i := hi ▸ inv_pos hpos
  have hi1 : i * ((K + 1) * (m + 1)) = 1 := by rw [hi]; grind
  have ik := Rat.mul_nonneg (Rat.le_of_lt i0) K0
  have im := Rat.mul_nonneg (Rat.le_of_lt i0) (Rat.le_of_lt m0)
  have ikm := Rat.mul_nonneg ik (Rat.le_of_lt m0)
  have hE := Rat.mul_pos i0 m0
  have hE1 : i * m ≤ 1 := by grind
  have hKE : K * (i * m) < m := by
    have h1 : K * i < 1 := by grind
    have := Rat.mul_lt_mul_of_pos_right h1 m0
    grind
  refine ⟨i * m, hE, fun x h1 h2 => ?_⟩
  have := B.lip a x (i * m) (by grind) (by grind) (by grind) (by grind) (by grind) (by grind)
  rcases hm with hm | hm
  · rw [sg_pos (show 0 < ev L a by grind), sg_pos (by grind)]
  · rw [sg_neg (show ev L a < 0 by grind), sg_neg (by grind)]
/-- The signs beside a fraction. -/
theorem germ {n d : Int} (hm : Maybe n d) {a : Rat} (ha : a * d = n) {L : List Int} (hc : Cf L) (h0 : 0 < L.length) :
    ∃ e, 0 < e ∧ (∀ x, a < x → x < a + e → sg (ev L x) = (besP n d L).2 ∧ ev L x ≠ 0) ∧ (∀ x, a - e < x → x < a → sg (ev L x) = (besP n d L).1 ∧ ev L x ≠ 0) := by
  have hd0 : (0 : Rat) < (d : Rat) := int_pos hm.1
  obtain ⟨h1, h2, h3, h4⟩ := wo_ev hm L.length L (Nat.le_refl _) hc h0
  obtain ⟨k, hk⟩ : ∃ k, k = (woP n d L).2 := ⟨_, rfl⟩
  obtain ⟨S, hS⟩ : ∃ S, S = (woP n d L).1 := ⟨_, rfl⟩
  rw [← hk, ← hS] at h1
  rw [← hS] at h2 h3 h4
  have hs := sgn_hor hm.1 ha S
  have hS0 : ev S a ≠ 0 := fun h => h4 (by
    have := hor_ev ha S
    rw [h] at this
    have h5 : ((hor n d S : Int) : Rat) * d = 0 := by grind
    rcases Rat.mul_eq_zero.1 h5 with h6 | h6
    · exact Classical.byContradiction fun hn => int_ne hn h6
    · grind)
  obtain ⟨e, e0, he⟩ := sg_near S hS0
  have hbes : besP n d L = (if k % 2 = 0 then sg (ev S a) else -sg (ev S a), sg (ev S a)) := by
    unfold besP
    rw [← hk, ← hS, trz_cf h2, hs]
    by_cases hz : hor n d L = 0
    · rw [if_pos (by rw [hz]; decide)]
    · have hw := woP_stop (n := n) (d := d) (p := L) (fun h => hz h.1)
      have hk0 : k = 0 := by rw [hk, hw]
      have hSL : S = L := by rw [hS, hw]
      rw [if_neg (by rw [sgn_hor hm.1 ha L, ← hSL]; rcases sg_ne hS0 with h | h <;> rw [h] <;> decide), hk0, sgn_hor hm.1 ha L, ← hSL]
      rfl
  have hne : ∀ {x}, sg x ≠ 0 → x ≠ 0 := fun h hx => h (by rw [hx]; decide +kernel)
  have hSs := sg_ne hS0
  refine ⟨e, e0, fun x hx1 hx2 => ?_, fun x hx1 hx2 => ?_⟩
  · have hp : 0 < (d : Rat) * x - n := by have := Rat.mul_pos hd0 (show 0 < x - a by grind); grind
    have : sg (ev L x) = sg (ev S a) := by
      rw [h1, sg_mul, sg_pos (pw_pos hp k), he x (by grind) hx2, Int.one_mul]
    rw [hbes]
    exact ⟨this, hne (by rw [this]; omega)⟩
  · have hp : (d : Rat) * x - n < 0 := by have := Rat.mul_pos hd0 (show 0 < a - x by grind); grind
    have : sg (ev L x) = if k % 2 = 0 then sg (ev S a) else -sg (ev S a) := by
      rw [h1, sg_mul, sg_pw_neg hp, he x hx1 (by grind)]
      split
      · rw [Int.one_mul]
      · omega
    rw [hbes]
    exact ⟨this, hne (by rw [this]; split <;> omega)⟩
end Go.Proofs.YtpobhegllhhdgaaGreat.TH
namespace Go.Proofs.YtpobhegllhhdgaaGreat.TH

/-- The signs of a list of polynomials at a place, and how often they change. -/
def vsL (Ls : List (List Int)) (x : Rat) : Nat := chg 0 (gen Ls.length fun i => sg (ev (pg Ls i) x))
/-- No one is 0 there. -/
def GnL (Ls : List (List Int)) (x : Rat) : Prop := ∀ i, i < Ls.length → ev (pg Ls i) x ≠ 0
theorem frac (a : Rat) : ∃ n d : Int, Maybe n d ∧ a * d = n := by
  refine ⟨a.num, (a.den : Int), ⟨by have := a.den_pos; omega, by simpa using a.reduced⟩, ?_⟩
  have h1 := Rat.num_divInt_den a
  rw [Rat.divInt_eq_div] at h1
  have h2 : (((a.den : Int)) : Rat) ≠ 0 := int_ne (by have := a.den_pos; omega)
  obtain ⟨u, hu⟩ : ∃ u : Rat, u = ((a.num : Int) : Rat) := ⟨_, rfl⟩
  obtain ⟨v, hv⟩ : ∃ v : Rat, v = (((a.den : Int)) : Rat) := ⟨_, rfl⟩
  rw [← hu, ← hv] at h1 ⊢
  rw [← hv] at h2
  rw [← h1]
  grind
/-- Beside a fraction no one of a list is 0, and all signs are as told. -/
theorem germs {n d : Int} (hm : Maybe n d) {a : Rat} (ha : a * d = n) (Ls : List (List Int)) (hall : ∀ i, i < Ls.length → Cf (pg Ls i) ∧ 0 < (pg Ls i).length) : ∀ k, k ≤ Ls.length →
    ∃ e, 0 < e ∧ (∀ x, a < x → x < a + e → ∀ i, i < k → sg (ev (pg Ls i) x) = higS n d Ls i ∧ ev (pg Ls i) x ≠ 0) ∧ (∀ x, a - e < x → x < a → ∀ i, i < k → sg (ev (pg Ls i) x) = lowS n d Ls i ∧ ev (pg Ls i) x ≠ 0)
  | 0, _ => ⟨1, by decide +kernel, fun _ _ _ _ h => by omega, fun _ _ _ _ h => by omega⟩
  | k + 1, hk => by
    obtain ⟨e, e0, h1, h2⟩ := germs hm ha Ls hall k (by omega)
    obtain ⟨hc, h0⟩ := hall k (by omega)
    obtain ⟨u, u0, g1, g2⟩ := germ hm ha hc h0
    have hh : higS n d Ls k = (besP n d (pg Ls k)).2 ∧ lowS n d Ls k = (besP n d (pg Ls k)).1 := by unfold higS lowS; rw [trz_cf hc]; exact ⟨rfl, rfl⟩
    obtain ⟨v, v0, v1, v2⟩ : ∃ v : Rat, 0 < v ∧ v ≤ e ∧ v ≤ u := by
      rcases Rat.le_total (a := e) (b := u) with h | h
      · exact ⟨e, e0, Rat.le_refl, h⟩
      · exact ⟨u, u0, h, Rat.le_refl⟩
    refine ⟨v, v0, fun x a1 a2 i hi => ?_, fun x a1 a2 i hi => ?_⟩
    · by_cases hik : i = k
      · subst hik
        rw [hh.1]
        exact g1 x a1 (by grind)
      · exact h1 x a1 (by grind) i (by omega)
    · by_cases hik : i = k
      · subst hik
        rw [hh.2]
        exact g2 x (by grind) a2
      · exact h2 x (by grind) a2 i (by omega)
theorem vs_near {n d : Int} (hm : Maybe n d) {a : Rat} (ha : a * d = n) (Ls : List (List Int)) (hall : ∀ i, i < Ls.length → Cf (pg Ls i) ∧ 0 < (pg Ls i).length) :
    ∃ e, 0 < e ∧ (∀ x, a < x → x < a + e → GnL Ls x ∧ vsL Ls x = higC n d Ls) ∧ (∀ x, a - e < x → x < a → GnL Ls x ∧ vsL Ls x = lowC n d Ls) := by
  obtain ⟨e, e0, h1, h2⟩ := germs hm ha Ls hall Ls.length (Nat.le_refl _)
  refine ⟨e, e0, fun x a1 a2 => ⟨fun i hi => (h1 x a1 a2 i hi).2, ?_⟩, fun x a1 a2 => ⟨fun i hi => (h2 x a1 a2 i hi).2, ?_⟩⟩
  · unfold vsL higC
    congr 1
    exact gen_congr fun i hi => (h1 x a1 a2 i hi).1
  · unfold vsL lowC
    congr 1
    exact gen_congr fun i hi => (h2 x a1 a2 i hi).1
theorem lst_all {T : List Int} (hc : Cf T) (h0 : 0 < T.length) : ∀ i, i < (chn T (derP T)).length → Cf (pg (chn T (derP T)) i) ∧ 0 < (pg (chn T (derP T)) i).length := fun i hi => by
  have := chn_all _ T (derP T) (Nat.le_refl _) hc h0 (derP_cf T) (by rw [derP_length, pl_cf hc]; omega) _ (pg_mem hi)
  exact ⟨this.1, this.2.1⟩
/-- A polynomial that isn't 0 is 0 at no place of some, between any two. -/
theorem non_root {L : List Int} (hc : Cf L) (h0 : 0 < L.length) (a b : Rat) (hab : a < b) : ∃ x, a < x ∧ x < b ∧ ev L x ≠ 0 := by
  obtain ⟨n, d, hm, ha⟩ := frac a
  obtain ⟨e, e0, g1, _⟩ := germ hm ha hc h0
  obtain ⟨v, v0, v1, v2⟩ : ∃ v : Rat, 0 < v ∧ v ≤ e ∧ v ≤ b - a := by
    rcases Rat.le_total (a := e) (b := b - a) with h | h
    · exact ⟨e, e0, Rat.le_refl, h⟩
    · exact ⟨b - a, by grind, h, Rat.le_refl⟩
  exact ⟨a + v / 2, by grind, by grind, (g1 (a + v / 2) (by grind) (by grind)).2⟩
theorem gn_dense {Ls : List (List Int)} (hall : ∀ i, i < Ls.length → Cf (pg Ls i) ∧ 0 < (pg Ls i).length) (a b : Rat) (hab : a < b) : ∃ x, a < x ∧ x < b ∧ GnL Ls x := by
  obtain ⟨n, d, hm, ha⟩ := frac a
  obtain ⟨e, e0, g1, _⟩ := vs_near hm ha Ls hall
  obtain ⟨v, v0, v1, v2⟩ : ∃ v : Rat, 0 < v ∧ v ≤ e ∧ v ≤ b - a := by
    rcases Rat.le_total (a := e) (b := b - a) with h | h
    · exact ⟨e, e0, Rat.le_refl, h⟩
    · exact ⟨b - a, by grind, h, Rat.le_refl⟩
  exact ⟨a + v / 2, by grind, by grind, (g1 (a + v / 2) (by grind) (by grind)).1⟩
/-- A polynomial's chain as functions. -/
theorem cs_of {T : List Int} (hc : Cf T) (h0 : 0 < T.length) : ∃ (u : Rat → Rat) (r : List (Rat → Rat)), Cs (ev T) (ev (derP T)) (ev (lstP (chn T (derP T)))) u r ∧ (u :: r).length = (chn T (derP T)).length ∧
    ∀ i z, (u :: r)[i]? = some z → ∀ x, ev (pg (chn T (derP T)) i) x = ev (lstP (chn T (derP T))) x * z x := by
  obtain ⟨Hs, hg, hlen, hev⟩ := chn_gc _ T (derP T) (Nat.le_refl _) hc (derP_cf T)
  have hpos := chn_pos T (derP T)
  have hall := lst_all hc h0
  rcases Hs with _ | ⟨u, r⟩
  · simp at hlen; omega
  · obtain ⟨u', hu⟩ := hg.pf u (by simp)
    have hl := hall ((chn T (derP T)).length - 1) (by omega)
    refine ⟨u, r, ⟨pf_der T, ⟨_, pf_der _⟩, ⟨u', hu⟩, hg, fun x => ?_, fun k r' hr => ⟨hg.pf k (by rw [hr]; simp), fun x => ?_⟩, fun hr => ?_, fun a b hab => non_root hl.1 hl.2 a b hab⟩, hlen, hev⟩
    · have := hev 0 u (by simp) x
      rwa [chn_zero] at this
    · have := hev 1 k (by rw [hr]; simp) x
      rcases Nat.eq_zero_or_pos (derP T).length with hd | hd
      · rw [chn_stop hd, hr] at hlen
        simp at hlen
      · have p1 : pg (chn T (derP T)) 1 = derP T := by
          rw [chn_step hd]
          show pg (chn (derP T) _) 0 = _
          exact chn_zero _ _
        rwa [p1] at this
    · rcases Nat.eq_zero_or_pos (derP T).length with hd | hd
      · rw [derP_length, pl_cf hc] at hd
        rcases T with _ | ⟨c, cs⟩
        · simp at h0
        · have hcs : cs = [] := List.eq_nil_of_length_eq_zero (by simp only [List.length_cons] at hd; omega)
          subst hcs
          refine ⟨(c : Rat), int_ne (by have := cf_top hc (by simp); simpa [co] using this), fun x => ?_⟩
          rw [ev_cons, ev_nil]
          grind
      · rw [chn_step hd, hr] at hlen
        have := chn_pos (derP T) (negP (restP T (derP T)))
        simp only [List.length_cons, List.length_nil] at hlen
        omega
theorem chg_mul {k : Int} (hk : k = 1 ∨ k = -1) : ∀ (a : Int) (L M : List Int), L.length = M.length → (∀ i, co M i = k * co L i) → chg (k * a) M = chg a L
  | _, [], [], _, _ => rfl
  | _, [], _ :: _, h, _ => by simp at h
  | _, _ :: _, [], h, _ => by simp at h
  | a, s :: L, t :: M, hl, h => by
    have h0 := h 0
    rw [co_cons0, co_cons0] at h0
    simp only [chg]
    have e1 : tw (t * (k * a)) = tw (s * a) := by rw [h0]; rcases hk with rfl | rfl <;> congr 1 <;> grind
    have e2 : (if t = 0 then k * a else t) = k * (if s = 0 then a else s) := by
      by_cases hs : s = 0
      · rw [if_pos hs, if_pos (by rw [h0, hs]; omega)]
      · rw [if_neg hs, if_neg (by rw [h0]; rcases hk with rfl | rfl <;> omega), h0]
    rw [e1, e2, chg_mul hk _ L M (by simpa using hl) (fun i => by have := h (i + 1); rwa [co_cons, co_cons] at this)]
/-- At such places both chains change their signs as often. -/
theorem vs_same {g : Rat → Rat} {Hs : List (Rat → Rat)} {Ls : List (List Int)} (hl : Hs.length = Ls.length) {x : Rat} (he : ∀ i z, Hs[i]? = some z → ev (pg Ls i) x = g x * z x) (hg : g x ≠ 0) : vsL Ls x = Vs Hs x := by
  unfold vsL Vs
  have := chg_mul (k := sg (g x)) (sg_ne hg) 0 (sgs Hs x) (gen Ls.length fun i => sg (ev (pg Ls i) x)) (by rw [gen_len]; unfold sgs; rw [List.length_map, hl]) (fun i => by
    rw [co_gen]
    by_cases hi : i < Ls.length
    · rw [if_pos hi]
      have hz : Hs[i]? = some (Hs[i]'(by omega)) := List.getElem?_eq_getElem (by omega)
      rw [he i _ hz, sg_mul]
      congr 1
      unfold sgs co
      rw [List.getD_eq_getElem?_getD, List.getElem?_map, hz]
      rfl
    · rw [if_neg hi, co_beyond (by unfold sgs; rw [List.length_map]; omega)]
      simp)
  rw [Int.mul_zero] at this
  exact this
theorem gn_of {T : List Int} {u : Rat → Rat} {r : List (Rat → Rat)} (hl : (u :: r).length = (chn T (derP T)).length)
    (he : ∀ i z, (u :: r)[i]? = some z → ∀ x, ev (pg (chn T (derP T)) i) x = ev (lstP (chn T (derP T))) x * z x) {x : Rat} (h : GnL (chn T (derP T)) x) : Gn (ev (lstP (chn T (derP T)))) (u :: r) x := by
  refine ⟨h _ (by have := chn_pos T (derP T); omega), fun z hz h0 => ?_⟩
  obtain ⟨i, hi, rfl⟩ := List.getElem_of_mem hz
  have := he i _ (List.getElem?_eq_getElem hi) x
  exact h i (by omega) (by rw [this, h0]; grind)
end Go.Proofs.YtpobhegllhhdgaaGreat.TH
namespace Go.Proofs.YtpobhegllhhdgaaGreat.TH

/-- A polynomial's chain. -/
def chT (T : List Int) : List (List Int) := chn T (derP T)
theorem chT_eq (L : List Int) : chL L = chT (trz L) := by unfold chL chT; rw [derP_trz]
/-- The sign of what a polynomial is without what its chain shares. -/
def hsg (T : List Int) (x : Rat) : Int := sg (ev T x) * sg (ev (lstP (chT T)) x)
theorem loc_list {T : List Int} (hc : Cf T) (h0 : 0 < T.length) {R : Rat} (hR : 0 ≤ R) : ∃ d, 0 < d ∧ ∀ s t, InR R s → InR R t → s < t → t - s ≤ d → GnL (chT T) s → GnL (chT T) t →
    (Zr (ev T) s t ∧ vsL (chT T) s = vsL (chT T) t + 1 ∧ hsg T s ≠ hsg T t) ∨ (¬ Zr (ev T) s t ∧ vsL (chT T) s = vsL (chT T) t ∧ hsg T s = hsg T t) := by
  obtain ⟨u, r, C, hl, he⟩ := cs_of hc h0
  obtain ⟨d, d0, hd⟩ := C.loc hR
  refine ⟨d, d0, fun s t hs ht hst hd2 gs gt => ?_⟩
  have g1 := gn_of hl he gs
  have g2 := gn_of hl he gt
  have v1 := vs_same hl (fun i z hz => he i z hz s) g1.1
  have v2 := vs_same hl (fun i z hz => he i z hz t) g2.1
  have hh : ∀ x, ev (lstP (chT T)) x ≠ 0 → hsg T x = sg (u x) := fun x hx => by
    unfold hsg
    rw [C.eq x, sg_mul]
    have := sg_ne hx
    have e : sg (ev (lstP (chT T)) x) * sg (ev (lstP (chT T)) x) = 1 := by rcases this with h | h <;> rw [h] <;> decide
    show sg (ev (lstP (chT T)) x) * sg (u x) * sg (ev (lstP (chT T)) x) = _
    rw [Int.mul_comm (sg (ev (lstP (chT T)) x)), Int.mul_assoc, e, Int.mul_one]
  show (_ ∧ vsL (chn T (derP T)) s = vsL (chn T (derP T)) t + 1 ∧ _) ∨ (_ ∧ vsL (chn T (derP T)) s = vsL (chn T (derP T)) t ∧ _)
  rw [v1, v2, hh s g1.1, hh t g2.1]
  exact hd s t hs ht hst hd2 g1 g2
/-- What holds between places near each other, and goes on, holds between any. -/
theorem glue {G : Rat → Prop} {E : Rat → Rat → Prop} {A B d : Rat} (d0 : 0 < d) (dense : ∀ a b, a < b → ∃ x, a < x ∧ x < b ∧ G x) (trans : ∀ s t u, A ≤ s → s < t → t < u → u ≤ B → G s → G t → G u → E s t → E t u → E s u)
    (loc : ∀ s t, A ≤ s → t ≤ B → s < t → t - s ≤ d → G s → G t → E s t) : ∀ s t, A ≤ s → t ≤ B → s < t → G s → G t → E s t := by
  have key : ∀ (n : Nat) s t, A ≤ s → t ≤ B → s < t → t - s ≤ (n : Rat) * (d / 2) → G s → G t → E s t := by
    intro n
    induction n with
    | zero => intro s t _ _ h1 h2; exfalso; grind
    | succ n ih =>
      intro s t ha hb h1 h2 gs gt
      by_cases hd : t - s ≤ d
      · exact loc s t ha hb h1 hd gs gt
      · obtain ⟨x, x1, x2, x3⟩ := dense (s + d / 2) (s + d) (by grind)
        exact trans s x t ha (by grind) (by grind) hb gs x3 gt (loc s x ha (by grind) (by grind) (by grind) gs x3) (ih x t (by grind) hb (by grind) (by grind) x3 gt)
  intro s t ha hb h1 gs gt
  obtain ⟨n, _, hn⟩ := arch ((t - s) / (d / 2))
  refine key n s t ha hb h1 ?_ gs gt
  have h2 := Rat.mul_le_mul_of_nonneg_right (Rat.le_of_lt hn) (show 0 ≤ d / 2 by grind)
  have h3 : (t - s) / (d / 2) * (d / 2) = t - s := by grind
  grind
/-- A polynomial that turns its sign comes as near to 0 as one likes. -/
theorem flip_zr (L : List Int) {s t : Rat} (hst : s < t) (h1 : ev L s ≠ 0) (h2 : ev L t ≠ 0) (hne : sg (ev L s) ≠ sg (ev L t)) : Zr (ev L) s t := by
  obtain ⟨R, hR, hR2⟩ : ∃ R : Rat, 0 ≤ R ∧ (-R ≤ s ∧ t ≤ R) := by
    rcases Rat.le_total (a := s) (b := 0) with h | h <;> rcases Rat.le_total (a := t) (b := 0) with h' | h'
    · exact ⟨-s, by grind, by grind⟩
    · exact ⟨t - s, by grind, by grind⟩
    · exact ⟨0, by grind, by grind⟩
    · exact ⟨t, by grind, by grind⟩
  obtain ⟨M, K, T, B⟩ := (pf_der L).bnd hR
  obtain ⟨M2, K2, T2, B2⟩ := ((pf_der L).mul (pf_der L)).bnd hR
  have P : Parts (ev L) (ev (derP L)) (fun _ => 1) (ev L) (ev (derP L)) R M2 K2 T2 1 K := ⟨B2, by decide +kernel, B.k0, fun x _ _ => by grind, B.lip, fun x => by grind, fun x => by grind⟩
  exact P.zr hR2.1 hst hR2.2 h1 h2 hne
/-- Where a factor comes near to 0, the product does. -/
theorem zr_mul {p g h : Rat → Rat} {s t M : Rat} (hM : 0 ≤ M) (hb : ∀ x, s ≤ x → x ≤ t → -M ≤ h x ∧ h x ≤ M) (he : ∀ x, p x = g x * h x) (hz : Zr g s t) : Zr p s t := by
  intro e e0
  obtain ⟨i, hi⟩ : ∃ i, i = e / (M + 1) := ⟨_, rfl⟩
  have hi1 : i * (M + 1) = e := by rw [hi]; grind
  have i0 : 0 < i := by
    rcases Rat.le_total (a := i) (b := 0) with h | h
    · have := Rat.mul_nonneg (show 0 ≤ -i by grind) (show 0 ≤ M + 1 by grind)
      grind
    · by_cases h2 : i = 0
      · rw [h2] at hi1; grind
      · grind
  obtain ⟨x, a, b, c, d⟩ := hz i i0
  have h1 := hb x a b
  have := mul_bd (show -i ≤ g x by grind) (show g x ≤ i by grind) h1.1 h1.2
  exact ⟨x, a, b, by rw [he]; grind, by rw [he]; grind⟩
/-- How often a polynomial goes through 0, as a number at each place. -/
def pv : Nat → List Int → Rat → Int
  | 0, _, _ => 0
  | f + 1, T, x => if (chT T).length = 1 then 0 else (vsL (chT T) x : Int) - pv f (lstP (chT T)) x
/-- No root of any of the chains. -/
def Ga : Nat → List Int → Rat → Prop
  | 0, T, x => ev T x ≠ 0
  | f + 1, T, x => GnL (chT T) x ∧ ((chT T).length = 1 ∨ Ga f (lstP (chT T)) x)
/-- 1 where two signs are unlike. -/
def fl (a b : Int) : Int := if a = b then 0 else 1
theorem lst_len {T : List Int} (hc : Cf T) (h0 : 0 < T.length) (h1 : (chT T).length ≠ 1) : Cf (lstP (chT T)) ∧ 0 < (lstP (chT T)).length ∧ (lstP (chT T)).length < T.length := by
  have hall := lst_all hc h0
  have hp := chn_pos T (derP T)
  have hl := hall ((chn T (derP T)).length - 1) (by omega)
  have hlt := chL_last (L := T) (by rw [pl_cf hc]; exact h0) (by rw [chT_eq, trz_cf hc]; exact h1)
  rw [chT_eq, trz_cf hc, pl_cf hc] at hlt
  have hlt2 : pl (lstP (chT T)) < T.length := hlt
  have hle : pl (lstP (chT T)) = (lstP (chT T)).length := pl_cf (show Cf (lstP (chT T)) from hl.1)
  refine ⟨hl.1, hl.2, ?_⟩
  show (lstP (chT T)).length < T.length
  rw [hle] at hlt2
  exact hlt2
theorem one_const {T : List Int} (hc : Cf T) (h0 : 0 < T.length) (h1 : (chT T).length = 1) : ∃ c : Rat, c ≠ 0 ∧ ∀ x, ev T x = c := by
  obtain ⟨u, r, C, hl, _⟩ := cs_of hc h0
  have hr : r = [] := List.eq_nil_of_length_eq_zero (by
    have h2 : (chn T (derP T)).length = 1 := h1
    rw [h2] at hl
    simp only [List.length_cons] at hl
    omega)
  exact C.one hr
set_option maxHeartbeats 1000000 in
theorem pv_loc {R : Rat} (hR : 0 ≤ R) : ∀ (f : Nat) (T : List Int), Cf T → 0 < T.length → T.length ≤ f → ∃ d, 0 < d ∧ ∀ s t, InR R s → InR R t → s < t → t - s ≤ d → Ga f T s → Ga f T t →
    pv f T s - pv f T t = fl (sg (ev T s)) (sg (ev T t)) := by
  intro f
  induction f with
  | zero => intro T _ h0 hf; omega
  | succ f ih =>
    intro T hc h0 hf
    by_cases h1 : (chT T).length = 1
    · obtain ⟨c, _, hcv⟩ := one_const hc h0 h1
      refine ⟨1, by decide +kernel, fun s t _ _ _ _ _ _ => ?_⟩
      simp only [pv]
      rw [if_pos h1, if_pos h1, hcv, hcv]
      simp [fl]
    · obtain ⟨hcl, h0l, hll⟩ := lst_len hc h0 h1
      obtain ⟨d1, d10, e1⟩ := ih (lstP (chT T)) hcl h0l (by omega)
      obtain ⟨d2, d20, e2⟩ := loc_list hc h0 hR
      obtain ⟨d, d0, hd1, hd2⟩ : ∃ d : Rat, 0 < d ∧ d ≤ d1 ∧ d ≤ d2 := by
        rcases Rat.le_total (a := d1) (b := d2) with h | h
        · exact ⟨d1, d10, Rat.le_refl, h⟩
        · exact ⟨d2, d20, h, Rat.le_refl⟩
      obtain ⟨u, r, C, hl, he⟩ := cs_of hc h0
      obtain ⟨u', hu⟩ := C.hf
      obtain ⟨M, K, T2, B⟩ := hu.bnd hR
      refine ⟨d, d0, fun s t hs ht hst hd gs gt => ?_⟩
      have gs2 := gs.2.resolve_left h1
      have gt2 := gt.2.resolve_left h1
      have q1 := e1 s t hs ht hst (by grind) gs2 gt2
      have q2 := e2 s t hs ht hst (by grind) gs.1 gt.1
      have hpos := chn_pos T (derP T)
      have gl : ∀ x, GnL (chT T) x → ev (lstP (chT T)) x ≠ 0 ∧ ev T x ≠ 0 := fun x hx => by
        refine ⟨hx _ (by show _ - 1 < _; have h5 : 0 < (chT T).length := hpos; omega), ?_⟩
        have h6 := hx 0 hpos
        have e : pg (chT T) 0 = T := chn_zero _ _
        rwa [e] at h6
      have a1 := gl s gs.1
      have a2 := gl t gt.1
      simp only [pv]
      rw [if_neg h1, if_neg h1]
      have b1 := sg_ne a1.1
      have b2 := sg_ne a2.1
      have b3 := sg_ne a1.2
      have b4 := sg_ne a2.2
      have hz : sg (ev (lstP (chT T)) s) ≠ sg (ev (lstP (chT T)) t) → Zr (ev T) s t := fun hne =>
        zr_mul B.m0 (fun x h3 h4 => B.val x (by have := hs.1; grind) (by have := ht.2; grind)) C.eq (flip_zr _ hst a1.1 a2.1 hne)
      unfold hsg at q2
      rcases q2 with ⟨z, v, w⟩ | ⟨z, v, w⟩
      · rw [v]
        by_cases hg : sg (ev (lstP (chT T)) s) = sg (ev (lstP (chT T)) t)
        · have hp : sg (ev T s) ≠ sg (ev T t) := fun h => w (by rw [h, hg])
          unfold fl at q1 ⊢
          rw [if_pos hg] at q1
          rw [if_neg hp]
          push_cast
          omega
        · have hp : sg (ev T s) = sg (ev T t) := by
            rcases b1 with h | h <;> rcases b2 with h' | h' <;> rcases b3 with h'' | h'' <;> rcases b4 with h3 | h3 <;> rw [h, h'] at hg <;> rw [h, h', h'', h3] at w <;> rw [h'', h3] <;> first | rfl | (exfalso; revert hg w; decide)
          unfold fl at q1 ⊢
          rw [if_neg hg] at q1
          rw [if_pos hp]
          push_cast
          omega
      · have hg : sg (ev (lstP (chT T)) s) = sg (ev (lstP (chT T)) t) := Classical.byContradiction fun h => z (hz h)
        have hp : sg (ev T s) = sg (ev T t) := by
          rw [hg] at w
          rcases b2 with h | h <;> rw [h] at w <;> omega
        rw [v]
        unfold fl at q1 ⊢
        rw [if_pos hg] at q1
        rw [if_pos hp]
        omega
end Go.Proofs.YtpobhegllhhdgaaGreat.TH
namespace Go.Proofs.YtpobhegllhhdgaaGreat.TH

/-- What the walk answers just above, and just below, a fraction. -/
def pvH (n d : Int) : Nat → List Int → Int
  | 0, _ => 0
  | f + 1, T => if (chT T).length = 1 then 0 else (higC n d (chT T) : Int) - pvH n d f (lstP (chT T))
def pvW (n d : Int) : Nat → List Int → Int
  | 0, _ => 0
  | f + 1, T => if (chT T).length = 1 then 0 else (lowC n d (chT T) : Int) - pvW n d f (lstP (chT T))
theorem min_pos {a b : Rat} (ha : 0 < a) (hb : 0 < b) : ∃ c : Rat, 0 < c ∧ c ≤ a ∧ c ≤ b := by
  rcases Rat.le_total (a := a) (b := b) with h | h
  · exact ⟨a, ha, Rat.le_refl, h⟩
  · exact ⟨b, hb, h, Rat.le_refl⟩
theorem lst_all2 {T : List Int} (hc : Cf T) (h0 : 0 < T.length) : ∀ i, i < (chT T).length → Cf (pg (chT T) i) ∧ 0 < (pg (chT T) i).length := lst_all hc h0
theorem pv_near {n d : Int} (hm : Maybe n d) {a : Rat} (ha : a * d = n) : ∀ (f : Nat) (T : List Int), Cf T → 0 < T.length → T.length ≤ f →
    ∃ e, 0 < e ∧ (∀ x, a < x → x < a + e → Ga f T x ∧ pv f T x = pvH n d f T) ∧ (∀ x, a - e < x → x < a → Ga f T x ∧ pv f T x = pvW n d f T) := by
  intro f
  induction f with
  | zero => intro T _ h0 hf; omega
  | succ f ih =>
    intro T hc h0 hf
    obtain ⟨e1, e10, g1, g2⟩ := vs_near hm ha (chT T) (lst_all2 hc h0)
    by_cases h1 : (chT T).length = 1
    · refine ⟨e1, e10, fun x a1 a2 => ⟨⟨(g1 x a1 a2).1, Or.inl h1⟩, ?_⟩, fun x a1 a2 => ⟨⟨(g2 x a1 a2).1, Or.inl h1⟩, ?_⟩⟩
      · simp only [pv, pvH]; rw [if_pos h1, if_pos h1]
      · simp only [pv, pvW]; rw [if_pos h1, if_pos h1]
    · obtain ⟨hcl, h0l, hll⟩ := lst_len hc h0 h1
      obtain ⟨e2, e20, k1, k2⟩ := ih (lstP (chT T)) hcl h0l (by omega)
      obtain ⟨e, e0, l1, l2⟩ := min_pos e10 e20
      refine ⟨e, e0, fun x a1 a2 => ?_, fun x a1 a2 => ?_⟩
      · have q1 := g1 x a1 (by grind)
        have q2 := k1 x a1 (by grind)
        refine ⟨⟨q1.1, Or.inr q2.1⟩, ?_⟩
        simp only [pv, pvH]
        rw [if_neg h1, if_neg h1, q1.2, q2.2]
      · have q1 := g2 x (by grind) a2
        have q2 := k2 x (by grind) a2
        refine ⟨⟨q1.1, Or.inr q2.1⟩, ?_⟩
        simp only [pv, pvW]
        rw [if_neg h1, if_neg h1, q1.2, q2.2]
theorem ga_dense {f : Nat} {T : List Int} (hc : Cf T) (h0 : 0 < T.length) (hf : T.length ≤ f) (a b : Rat) (hab : a < b) : ∃ x, a < x ∧ x < b ∧ Ga f T x := by
  obtain ⟨n, d, hm, ha⟩ := frac a
  obtain ⟨e, e0, g1, _⟩ := pv_near hm ha f T hc h0 hf
  obtain ⟨v, v0, v1, v2⟩ := min_pos e0 (show 0 < b - a by grind)
  exact ⟨a + v / 2, by grind, by grind, (g1 (a + v / 2) (by grind) (by grind)).1⟩
theorem ga_gn {f : Nat} {T : List Int} {x : Rat} (h0 : 0 < T.length) (hf : T.length ≤ f) (h : Ga f T x) : GnL (chT T) x := by
  rcases f with _ | f
  · omega
  · exact h.1
theorem gn_ne {T : List Int} {x : Rat} (h : GnL (chT T) x) : ev T x ≠ 0 := by
  have := h 0 (chn_pos T (derP T))
  rwa [show pg (chT T) 0 = T from chn_zero _ _] at this
theorem fit_cf {T : List Int} (hc : Cf T) (h0 : 0 < T.length) (h1 : T.length ≤ 13) : fitP T = 0 := by
  unfold fitP
  rw [pl_cf hc, if_neg (by omega), if_neg (by omega)]
theorem pas_pv (n d m c : Int) : ∀ (f : Nat) (T : List Int), Cf T → 0 < T.length → T.length ≤ f → T.length ≤ 13 → pasF n d m c f T = pvH n d f T - pvW m c f T := by
  intro f
  induction f with
  | zero => intro T _ h0 hf; omega
  | succ f ih =>
    intro T hc h0 hf h13
    have e : chL T = chT T := by rw [chT_eq, trz_cf hc]
    simp only [pasF, pvH, pvW]
    rw [e]
    by_cases h1 : (chT T).length = 1
    · rw [if_pos (Or.inr h1), if_pos h1, if_pos h1]; rfl
    · obtain ⟨hcl, h0l, hll⟩ := lst_len hc h0 h1
      rw [if_neg (by rw [fit_cf hc h0 h13]; simp [h1]), if_neg h1, if_neg h1]
      have := ih (lstP (chT T)) hcl h0l (by omega) (by omega)
      unfold lstP at this ⊢
      rw [this]
      unfold cntZ
      omega
end Go.Proofs.YtpobhegllhhdgaaGreat.TH
namespace Go.Proofs.YtpobhegllhhdgaaGreat.TH

/-- The product of x - r, each k times. -/
def rpM : List (Rat × Nat) → Rat → Rat
  | [], _ => 1
  | e :: l, x => pw (x - e.1) e.2 * rpM l x
/-- How many r lie between s and t, and how many of them stand there an odd number of times. -/
def cnM (s t : Rat) : List (Rat × Nat) → Nat
  | [] => 0
  | e :: l => (if s < e.1 ∧ e.1 < t then 1 else 0) + cnM s t l
def odM (s t : Rat) : List (Rat × Nat) → Nat
  | [] => 0
  | e :: l => (if s < e.1 ∧ e.1 < t then e.2 % 2 else 0) + odM s t l
def offM (x : Rat) (l : List (Rat × Nat)) : Prop := ∀ e ∈ l, x ≠ e.1
theorem pw_mul (x y : Rat) : ∀ k, pw (x * y) k = pw x k * pw y k
  | 0 => by simp only [pw]; grind
  | k + 1 => by
    simp only [pw]
    rw [pw_mul x y k]
    grind
theorem pw_nn {x : Rat} (h : 0 ≤ x) : ∀ k, 0 ≤ pw x k
  | 0 => by show (0 : Rat) ≤ 1; decide +kernel
  | k + 1 => Rat.mul_nonneg h (pw_nn h k)
theorem mul_le2 {a b c d : Rat} (a0 : 0 ≤ a) (h1 : a ≤ b) (c0 : 0 ≤ c) (h2 : c ≤ d) : a * c ≤ b * d := by
  have q1 := Rat.mul_nonneg (show 0 ≤ b - a by grind) (show 0 ≤ d by grind)
  have q2 := Rat.mul_nonneg a0 (show 0 ≤ d - c by grind)
  grind
theorem pw_le {a b : Rat} (a0 : 0 ≤ a) (h : a ≤ b) : ∀ k, pw a k ≤ pw b k
  | 0 => Rat.le_refl
  | k + 1 => mul_le2 a0 h (pw_nn a0 k) (pw_le a0 h k)
theorem rp_sq {s t : Rat} : ∀ (l : List (Rat × Nat)), (∀ e ∈ l, e.1 < s ∨ t < e.1) → ∃ m, 0 < m ∧ ∀ x, s ≤ x → x ≤ t → m ≤ rpM l x * rpM l x
  | [], _ => ⟨1, by decide +kernel, fun x _ _ => by simp only [rpM]; decide +kernel⟩
  | e :: l, h => by
    obtain ⟨m, m0, hm⟩ := rp_sq l fun e he => h e (List.mem_cons_of_mem _ he)
    obtain ⟨c, c0, hc⟩ : ∃ c : Rat, 0 < c ∧ ∀ x, s ≤ x → x ≤ t → c ≤ (x - e.1) * (x - e.1) := by
      rcases h e (by simp) with h1 | h1
      · refine ⟨(s - e.1) * (s - e.1), Rat.mul_pos (by grind) (by grind), fun x h2 _ => mul_le2 (by grind) (by grind) (by grind) (by grind)⟩
      · refine ⟨(e.1 - t) * (e.1 - t), Rat.mul_pos (by grind) (by grind), fun x _ h3 => ?_⟩
        have := mul_le2 (a := e.1 - t) (b := e.1 - x) (c := e.1 - t) (d := e.1 - x) (by grind) (by grind) (by grind) (by grind)
        grind
    refine ⟨pw c e.2 * m, Rat.mul_pos (pw_pos c0 _) m0, fun x h1 h2 => ?_⟩
    have q1 := pw_le (Rat.le_of_lt c0) (hc x h1 h2) e.2
    rw [pw_mul] at q1
    have := mul_le2 (pw_nn (Rat.le_of_lt c0) e.2) q1 (Rat.le_of_lt m0) (hm x h1 h2)
    simp only [rpM]
    grind
theorem sg_pw {x : Rat} (h : x ≠ 0) (k : Nat) : sg (pw x k) = if x < 0 ∧ k % 2 = 1 then -1 else 1 := by
  by_cases hx : x < 0
  · rw [sg_pw_neg hx]
    rcases Nat.mod_two_eq_zero_or_one k with h1 | h1
    · rw [if_pos h1, if_neg (by omega)]
    · rw [if_neg (by omega), if_pos ⟨hx, h1⟩]
  · rw [sg_pos (pw_pos (by grind) k), if_neg (fun h => hx h.1)]
/-- 1 for even numbers, else -1. -/
def par (n : Nat) : Int := if n % 2 = 0 then 1 else -1
theorem par_add (a b : Nat) : par (a + b) = par a * par b := by
  unfold par
  rcases Nat.mod_two_eq_zero_or_one a with h | h <;> rcases Nat.mod_two_eq_zero_or_one b with h' | h'
  · rw [if_pos (by omega), if_pos h, if_pos h']; decide
  · rw [if_neg (by omega), if_pos h, if_neg (by omega)]; decide
  · rw [if_neg (by omega), if_neg (by omega), if_pos h']; decide
  · rw [if_pos (by omega), if_neg (by omega), if_neg (by omega)]; decide
theorem sg_one {s t r : Rat} (hst : s < t) (n1 : s ≠ r) (n2 : t ≠ r) (k : Nat) : sg (pw (s - r) k) * sg (pw (t - r) k) = par (if s < r ∧ r < t then k % 2 else 0) := by
  rw [sg_pw (show s - r ≠ 0 by grind), sg_pw (show t - r ≠ 0 by grind)]
  unfold par
  rcases Nat.mod_two_eq_zero_or_one k with h | h <;> rw [h] <;> by_cases c1 : s < r <;> by_cases c2 : r < t
  · simp
  · simp
  · simp
  · simp
  · rw [if_pos (show s < r ∧ r < t from ⟨c1, c2⟩), if_pos (show s - r < 0 ∧ 1 = 1 from ⟨by grind, rfl⟩), if_neg (show ¬(t - r < 0 ∧ 1 = 1) by grind)]; decide
  · rw [if_neg (show ¬(s < r ∧ r < t) from fun h => c2 h.2), if_pos (show s - r < 0 ∧ 1 = 1 from ⟨by grind, rfl⟩), if_pos (show t - r < 0 ∧ 1 = 1 from ⟨by grind, rfl⟩)]; decide
  · rw [if_neg (show ¬(s < r ∧ r < t) from fun h => c1 h.1), if_neg (show ¬(s - r < 0 ∧ 1 = 1) by grind), if_neg (show ¬(t - r < 0 ∧ 1 = 1) by grind)]; decide
  · exfalso; grind
theorem sg_rp {s t : Rat} (hst : s < t) : ∀ (l : List (Rat × Nat)), offM s l → offM t l → sg (rpM l s) * sg (rpM l t) = par (odM s t l)
  | [], _, _ => by simp only [rpM, odM]; decide +kernel
  | e :: l, h1, h2 => by
    have ih := sg_rp hst l (fun e he => h1 e (List.mem_cons_of_mem _ he)) (fun e he => h2 e (List.mem_cons_of_mem _ he))
    have n1 := h1 e (by simp)
    have n2 := h2 e (by simp)
    simp only [rpM, odM]
    rw [sg_mul, sg_mul, par_add, ← ih, ← sg_one hst n1 n2]
    grind
theorem rp_zero : ∀ (l : List (Rat × Nat)) (e : Rat × Nat), e ∈ l → 0 < e.2 → rpM l e.1 = 0
  | f :: l, e, h, h0 => by
    simp only [rpM]
    rcases List.mem_cons.mp h with rfl | h
    · obtain ⟨j, hj⟩ : ∃ j, e.2 = j + 1 := ⟨_, (Nat.sub_add_cancel h0).symm⟩
      rw [hj]
      simp only [pw]
      grind
    · rw [rp_zero l e h h0]
      grind
theorem off_of {l : List (Rat × Nat)} {x : Rat} (hk : ∀ e ∈ l, 0 < e.2) (h : rpM l x ≠ 0) : offM x l := fun e he hx => h (by rw [hx]; exact rp_zero l e he (hk e he))
theorem cn_trans {s t u : Rat} (h1 : s < t) (h2 : t < u) : ∀ (l : List (Rat × Nat)), offM t l → cnM s u l = cnM s t l + cnM t u l ∧ odM s u l = odM s t l + odM t u l
  | [], _ => ⟨rfl, rfl⟩
  | e :: l, h => by
    have ih := cn_trans h1 h2 l (fun e he => h e (List.mem_cons_of_mem _ he))
    have n1 := h e (by simp)
    simp only [cnM, odM]
    rw [ih.1, ih.2]
    by_cases c1 : e.1 < t
    · rw [if_neg (show ¬(t < e.1 ∧ e.1 < u) by grind), if_neg (show ¬(t < e.1 ∧ e.1 < u) by grind)]
      by_cases c2 : s < e.1
      · rw [if_pos (show s < e.1 ∧ e.1 < u by grind), if_pos (show s < e.1 ∧ e.1 < u by grind), if_pos ⟨c2, c1⟩, if_pos ⟨c2, c1⟩]
        omega
      · rw [if_neg (show ¬(s < e.1 ∧ e.1 < u) from fun h => c2 h.1), if_neg (show ¬(s < e.1 ∧ e.1 < u) from fun h => c2 h.1), if_neg (show ¬(s < e.1 ∧ e.1 < t) from fun h => c2 h.1), if_neg (show ¬(s < e.1 ∧ e.1 < t) from fun h => c2 h.1)]
        omega
    · rw [if_neg (show ¬(s < e.1 ∧ e.1 < t) from fun h => c1 h.2), if_neg (show ¬(s < e.1 ∧ e.1 < t) from fun h => c1 h.2)]
      by_cases c2 : e.1 < u
      · rw [if_pos (show s < e.1 ∧ e.1 < u by grind), if_pos (show s < e.1 ∧ e.1 < u by grind), if_pos (show t < e.1 ∧ e.1 < u by grind), if_pos (show t < e.1 ∧ e.1 < u by grind)]
        omega
      · rw [if_neg (show ¬(s < e.1 ∧ e.1 < u) from fun h => c2 h.2), if_neg (show ¬(s < e.1 ∧ e.1 < u) from fun h => c2 h.2), if_neg (show ¬(t < e.1 ∧ e.1 < u) from fun h => c2 h.2), if_neg (show ¬(t < e.1 ∧ e.1 < u) from fun h => c2 h.2)]
        omega
theorem cn_pos {s t : Rat} : ∀ {l : List (Rat × Nat)}, 0 < cnM s t l → ∃ e ∈ l, s < e.1 ∧ e.1 < t
  | [], h => by simp [cnM] at h
  | e :: l, h => by
    by_cases c : s < e.1 ∧ e.1 < t
    · exact ⟨e, by simp, c⟩
    · simp only [cnM] at h
      rw [if_neg c, Nat.zero_add] at h
      obtain ⟨f, hf, hf2⟩ := cn_pos h
      exact ⟨f, List.mem_cons_of_mem _ hf, hf2⟩
theorem cn_mem {s t : Rat} : ∀ {l : List (Rat × Nat)} {e : Rat × Nat}, e ∈ l → s < e.1 → e.1 < t → 0 < cnM s t l
  | f :: l, e, h, h1, h2 => by
    simp only [cnM]
    rcases List.mem_cons.mp h with rfl | h
    · rw [if_pos ⟨h1, h2⟩]; omega
    · have := cn_mem h h1 h2
      omega
theorem od_le (s t : Rat) : ∀ l : List (Rat × Nat), odM s t l ≤ cnM s t l
  | [] => Nat.le_refl _
  | e :: l => by
    have := od_le s t l
    simp only [odM, cnM]
    split <;> omega
theorem far_off (r : Rat) : ∀ l : List (Rat × Nat), (∀ e ∈ l, r ≠ e.1) → ∃ d, 0 < d ∧ ∀ e ∈ l, e.1 - r < -d ∨ d < e.1 - r
  | [], _ => ⟨1, by decide +kernel, fun _ h => by simp at h⟩
  | e :: l, h => by
    obtain ⟨d, d0, hd⟩ := far_off r l fun e he => h e (List.mem_cons_of_mem _ he)
    have n1 := h e (by simp)
    obtain ⟨c, c0, hc⟩ : ∃ c : Rat, 0 < c ∧ (e.1 - r < -c ∨ c < e.1 - r) := by
      rcases Rat.le_total (a := e.1) (b := r) with h1 | h1
      · exact ⟨(r - e.1) / 2, by grind, Or.inl (by grind)⟩
      · exact ⟨(e.1 - r) / 2, by grind, Or.inr (by grind)⟩
    obtain ⟨v, v0, v1, v2⟩ := min_pos d0 c0
    refine ⟨v, v0, fun f hf => ?_⟩
    rcases List.mem_cons.mp hf with rfl | hf
    · rcases hc with h1 | h1
      · exact Or.inl (by grind)
      · exact Or.inr (by grind)
    · rcases hd f hf with h1 | h1
      · exact Or.inl (by grind)
      · exact Or.inr (by grind)
theorem gap : ∀ l : List (Rat × Nat), l.Pairwise (fun e f => e.1 ≠ f.1) → ∃ d, 0 < d ∧ ∀ s t, t - s ≤ d → cnM s t l ≤ 1
  | [], _ => ⟨1, by decide +kernel, fun _ _ _ => by simp [cnM]⟩
  | e :: l, h => by
    rw [List.pairwise_cons] at h
    obtain ⟨d, d0, hd⟩ := gap l h.2
    obtain ⟨c, c0, hc⟩ := far_off e.1 l h.1
    obtain ⟨v, v0, v1, v2⟩ := min_pos d0 c0
    refine ⟨v, v0, fun s t ht => ?_⟩
    have h1 := hd s t (by grind)
    simp only [cnM]
    by_cases c1 : s < e.1 ∧ e.1 < t
    · rw [if_pos c1]
      rcases Nat.eq_zero_or_pos (cnM s t l) with h2 | h2
      · omega
      · obtain ⟨f, hf, h3, h4⟩ := cn_pos h2
        exfalso
        rcases hc f hf with h5 | h5 <;> grind
    · rw [if_neg c1]; omega
/-- A polynomial that is such a product, times a number above 0. -/
structure PrdM (T : List Int) (K : Rat) (l : List (Rat × Nat)) : Prop where
  k0 : 0 < K
  ev : ∀ x, ev T x = K * rpM l x
  one : ∀ e ∈ l, 0 < e.2
  apart : l.Pairwise fun e f => e.1 ≠ f.1
theorem PrdM.off {T : List Int} {K : Rat} {l : List (Rat × Nat)} (P : PrdM T K l) {x : Rat} (h : TH.ev T x ≠ 0) : offM x l := off_of P.one fun h2 => h (by rw [P.ev, h2]; grind)
theorem PrdM.sg {T : List Int} {K : Rat} {l : List (Rat × Nat)} (P : PrdM T K l) (x : Rat) : TH.sg (TH.ev T x) = TH.sg (rpM l x) := by rw [P.ev, sg_mul, sg_pos P.k0, Int.one_mul]
theorem PrdM.zr {T : List Int} {K : Rat} {l : List (Rat × Nat)} (P : PrdM T K l) {s t : Rat} (h1 : TH.ev T s ≠ 0) (h2 : TH.ev T t ≠ 0) : Zr (TH.ev T) s t ↔ 0 < cnM s t l := by
  constructor
  · intro hz
    rcases Nat.eq_zero_or_pos (cnM s t l) with h0 | h0
    · exfalso
      obtain ⟨m, m0, hm⟩ := rp_sq (s := s) (t := t) l (fun e he => by
        have a1 := P.off h1 e he
        have a2 := P.off h2 e he
        by_cases c1 : e.1 < s
        · exact Or.inl c1
        · by_cases c2 : t < e.1
          · exact Or.inr c2
          · have := cn_mem he (s := s) (t := t) (by grind) (by grind)
            omega)
      refine not_zr (m := K * K * m) (Rat.mul_pos (Rat.mul_pos P.k0 P.k0) m0) (fun x a b => ?_) hz
      have := mul_le2 (a := K * K) (b := K * K) (Rat.le_of_lt (Rat.mul_pos P.k0 P.k0)) Rat.le_refl (Rat.le_of_lt m0) (hm x a b)
      rw [P.ev]
      grind
    · exact h0
  · intro h0 e e0
    obtain ⟨f, hf, a, b⟩ := cn_pos h0
    refine ⟨f.1, Rat.le_of_lt a, Rat.le_of_lt b, ?_, ?_⟩
    · rw [P.ev, rp_zero l f hf (P.one f hf)]; grind
    · rw [P.ev, rp_zero l f hf (P.one f hf)]; grind
theorem PrdM.fl {T : List Int} {K : Rat} {l : List (Rat × Nat)} (P : PrdM T K l) {s t : Rat} (hst : s < t) (h1 : TH.ev T s ≠ 0) (h2 : TH.ev T t ≠ 0) : TH.fl (TH.sg (TH.ev T s)) (TH.sg (TH.ev T t)) = ((odM s t l % 2 : Nat) : Int) := by
  have h := sg_rp hst l (P.off h1) (P.off h2)
  rw [← P.sg, ← P.sg] at h
  unfold TH.fl
  unfold par at h
  rcases sg_ne h1 with a | a <;> rcases sg_ne h2 with b | b <;> rw [a, b] at h ⊢ <;> rcases Nat.mod_two_eq_zero_or_one (odM s t l) with c | c <;> rw [c] at h ⊢ <;> first | rfl | (exfalso; revert h; decide)
/-- How often the signs of the chain change tells how many r there are. -/
theorem PrdM.count {T : List Int} {K : Rat} {l : List (Rat × Nat)} (P : PrdM T K l) (hc : Cf T) (h0 : 0 < T.length) {R : Rat} (hR : 0 ≤ R) :
    ∀ s t, -R ≤ s → t ≤ R → s < t → GnL (chT T) s → GnL (chT T) t → vsL (chT T) s = vsL (chT T) t + cnM s t l := by
  obtain ⟨d1, d10, e1⟩ := loc_list hc h0 hR
  obtain ⟨d2, d20, e2⟩ := gap l P.apart
  obtain ⟨d, d0, v1, v2⟩ := min_pos d10 d20
  refine glue d0 (fun a b hab => gn_dense (lst_all2 hc h0) a b hab) ?_ ?_
  · intro s t u _ h1 h2 _ _ gt _ q1 q2
    rw [q1, q2, (cn_trans h1 h2 l (P.off (gn_ne gt))).1]
    omega
  · intro s t ha hb hst hd gs gt
    have z := P.zr (gn_ne gs) (gn_ne gt)
    have g := e2 s t (by grind)
    rcases e1 s t ⟨ha, by grind⟩ ⟨by grind, hb⟩ hst (by grind) gs gt with ⟨q, v, _⟩ | ⟨q, v, _⟩
    · have := z.mp q
      omega
    · have : ¬ 0 < cnM s t l := fun h => q (z.mpr h)
      omega
theorem PrdM.walk {T : List Int} {K : Rat} {l : List (Rat × Nat)} (P : PrdM T K l) (hc : Cf T) (h0 : 0 < T.length) {f : Nat} (hf : T.length ≤ f) {R : Rat} (hR : 0 ≤ R) :
    ∀ s t, -R ≤ s → t ≤ R → s < t → Ga f T s → Ga f T t → pv f T s - pv f T t = (odM s t l : Int) := by
  obtain ⟨d1, d10, e1⟩ := pv_loc hR f T hc h0 hf
  obtain ⟨d2, d20, e2⟩ := gap l P.apart
  obtain ⟨d, d0, v1, v2⟩ := min_pos d10 d20
  refine glue d0 (fun a b hab => ga_dense hc h0 hf a b hab) ?_ ?_
  · intro s t u _ h1 h2 _ _ gt _ q1 q2
    rw [(cn_trans h1 h2 l (P.off (gn_ne (ga_gn h0 hf gt)))).2]
    push_cast
    omega
  · intro s t ha hb hst hd gs gt
    have g := e2 s t (by grind)
    have o := od_le s t l
    rw [e1 s t ⟨ha, by grind⟩ ⟨by grind, hb⟩ hst (by grind) gs gt, P.fl hst (gn_ne (ga_gn h0 hf gs)) (gn_ne (ga_gn h0 hf gt))]
    omega
end Go.Proofs.YtpobhegllhhdgaaGreat.TH
namespace Go.Proofs.YtpobhegllhhdgaaGreat.TH

/-- How many stand there an odd number of times. -/
def oddN : List (Rat × Nat) → Nat
  | [] => 0
  | e :: l => e.2 % 2 + oddN l
theorem cn_all {s t : Rat} : ∀ l : List (Rat × Nat), (∀ e ∈ l, s < e.1 ∧ e.1 < t) → cnM s t l = l.length ∧ odM s t l = oddN l
  | [], _ => ⟨rfl, rfl⟩
  | e :: l, h => by
    have ih := cn_all l fun e he => h e (List.mem_cons_of_mem _ he)
    simp only [cnM, odM, oddN]
    rw [if_pos (h e (by simp)), if_pos (h e (by simp)), ih.1, ih.2]
    exact ⟨by simp only [List.length_cons]; omega, rfl⟩
theorem room {a b : Rat} (hab : a < b) : ∀ l : List (Rat × Nat), (∀ e ∈ l, a < e.1 ∧ e.1 < b) → ∃ v, 0 < v ∧ v ≤ (b - a) / 4 ∧ ∀ e ∈ l, a + v < e.1 ∧ e.1 < b - v
  | [], _ => ⟨(b - a) / 4, by grind, Rat.le_refl, fun _ h => by simp at h⟩
  | e :: l, h => by
    obtain ⟨v, v0, v1, hv⟩ := room hab l fun e he => h e (List.mem_cons_of_mem _ he)
    have he := h e (by simp)
    obtain ⟨w, w0, w1, w2⟩ := min_pos (show 0 < (e.1 - a) / 2 by grind) (show 0 < (b - e.1) / 2 by grind)
    obtain ⟨u, u0, u1, u2⟩ := min_pos v0 w0
    refine ⟨u, u0, by grind, fun f hf => ?_⟩
    rcases List.mem_cons.mp hf with rfl | hf
    · constructor <;> grind
    · have := hv f hf
      constructor <;> grind
theorem pw_even {x : Rat} (h : x ≠ 0) {k : Nat} (hk : k % 2 = 0) : sg (pw x k) = 1 := by rw [sg_pw h, if_neg (by omega)]
theorem even_pos {x : Rat} : ∀ l : List (Rat × Nat), offM x l → oddN l = 0 → sg (rpM l x) = 1
  | [], _, _ => by simp only [rpM]; decide +kernel
  | e :: l, h, h0 => by
    simp only [oddN] at h0
    have n1 := h e (by simp)
    simp only [rpM]
    rw [sg_mul, pw_even (show x - e.1 ≠ 0 by grind) (by omega), even_pos l (fun e he => h e (List.mem_cons_of_mem _ he)) (by omega)]
    rfl
theorem PrdM.answers {L : List Int} {K : Rat} {l : List (Rat × Nat)} (P : PrdM (trz L) K l) (h0 : 0 < pl L) (h13 : pl L ≤ 13) {n d m c : Int} (hm : Maybe n d) (hm2 : Maybe m c) {a b : Rat} (ha : a * d = n) (hb : b * c = m) (hab : a < b)
    (hin : ∀ e ∈ l, a < e.1 ∧ e.1 < b) : cntZ n d m c (chL L) = l.length ∧ negB n d m c L = decide (0 < oddN l) := by
  have hc : Cf (trz L) := cf_trz L
  have hl : (trz L).length = pl L := trz_len L
  have t0 : 0 < (trz L).length := by omega
  obtain ⟨R, hR, hR2⟩ : ∃ R : Rat, 0 ≤ R ∧ (-R ≤ a ∧ b ≤ R) := by
    rcases Rat.le_total (a := a) (b := 0) with h | h <;> rcases Rat.le_total (a := b) (b := 0) with h' | h'
    · exact ⟨-a, by grind, by grind⟩
    · exact ⟨b - a, by grind, by grind⟩
    · exact ⟨0, by grind, by grind⟩
    · exact ⟨b, by grind, by grind⟩
  obtain ⟨e1, e10, g1, _⟩ := vs_near hm ha (chT (trz L)) (lst_all2 hc t0)
  obtain ⟨e2, e20, _, g2⟩ := vs_near hm2 hb (chT (trz L)) (lst_all2 hc t0)
  obtain ⟨e3, e30, g3, _⟩ := pv_near hm ha (pl L) (trz L) hc t0 (by omega)
  obtain ⟨e4, e40, _, g4⟩ := pv_near hm2 hb (pl L) (trz L) hc t0 (by omega)
  obtain ⟨e5, e50, g5, _⟩ := germ hm ha hc t0
  obtain ⟨v, v0, v1, hv⟩ := room hab l hin
  obtain ⟨u1, u10, a1, a2⟩ := min_pos e10 e20
  obtain ⟨u2, u20, a3, a4⟩ := min_pos e30 e40
  obtain ⟨u3, u30, a5, a6⟩ := min_pos u10 u20
  obtain ⟨u4, u40, a7, a8⟩ := min_pos u30 e50
  obtain ⟨u, u0, a9, a10⟩ := min_pos u40 v0
  obtain ⟨s, hs⟩ : ∃ s, s = a + u / 2 := ⟨_, rfl⟩
  obtain ⟨t, ht⟩ : ∃ t, t = b - u / 2 := ⟨_, rfl⟩
  have q1 := g1 s (by grind) (by grind)
  have q2 := g2 t (by grind) (by grind)
  have q3 := g3 s (by grind) (by grind)
  have q4 := g4 t (by grind) (by grind)
  have q5 := g5 s (by grind) (by grind)
  have hst : s < t := by grind
  have hall := cn_all (s := s) (t := t) l fun e he => by
    have := hv e he
    constructor <;> grind
  have c1 := P.count hc t0 hR s t (by grind) (by grind) hst q1.1 q2.1
  have c2 := P.walk hc t0 (f := pl L) (by omega) hR s t (by grind) (by grind) hst q3.1 q4.1
  rw [q1.2, q2.2, hall.1] at c1
  rw [q3.2, q4.2, hall.2] at c2
  refine ⟨?_, ?_⟩
  · unfold cntZ
    rw [chT_eq]
    omega
  · have hp := pas_pv n d m c (pl L) (trz L) hc t0 (by omega) (by omega)
    have hpp : pasF n d m c (pl L) L = pasF n d m c (pl L) (trz L) := by
      obtain ⟨j, hj⟩ : ∃ j, pl L = j + 1 := ⟨_, (Nat.sub_add_cancel h0).symm⟩
      have e1 : chL (trz L) = chL L := by rw [chT_eq, chT_eq, trz_cf hc]
      have e2 : fitP (trz L) = fitP L := by unfold fitP; rw [pl_cf hc, hl]
      rw [hj]
      simp only [pasF]
      rw [e1, e2]
    unfold negB
    rw [hpp, hp, c2]
    rcases Nat.eq_zero_or_pos (oddN l) with ho | ho
    · have := even_pos (x := s) l (P.off q5.2) ho
      rw [← P.sg, q5.1] at this
      rw [this, ho]
      decide
    · have h1 : decide (0 < ((oddN l : Nat) : Int)) = true := decide_eq_true (by omega)
      rw [h1, decide_eq_true ho, Bool.or_true]
/-- A polynomial's sign at a place tells how many r lie above it. -/
def ahN (x : Rat) : List (Rat × Nat) → Nat
  | [] => 0
  | e :: l => (if x < e.1 then e.2 else 0) + ahN x l
theorem sg_ahead {x : Rat} : ∀ l : List (Rat × Nat), offM x l → sg (rpM l x) = par (ahN x l)
  | [], _ => by simp only [rpM, ahN]; decide +kernel
  | e :: l, h => by
    have n1 := h e (by simp)
    simp only [rpM, ahN]
    rw [sg_mul, par_add, sg_ahead l (fun e he => h e (List.mem_cons_of_mem _ he)), sg_pw (show x - e.1 ≠ 0 by grind)]
    congr 1
    unfold par
    by_cases c : x < e.1
    · rw [if_pos c]
      rcases Nat.mod_two_eq_zero_or_one e.2 with h2 | h2
      · rw [if_neg (by omega), if_pos h2]
      · rw [if_pos ⟨by grind, h2⟩, if_neg (by omega)]
    · rw [if_neg c, if_neg (by grind)]
      rfl
/-- One more factor x - r. -/
def bumpM (r : Rat) : List (Rat × Nat) → List (Rat × Nat)
  | [] => [(r, 1)]
  | e :: l => if e.1 = r then (e.1, e.2 + 1) :: l else e :: bumpM r l
theorem bump_rp (r x : Rat) : ∀ l, rpM (bumpM r l) x = (x - r) * rpM l x
  | [] => by simp only [bumpM, rpM, pw]; grind
  | e :: l => by
    simp only [bumpM]
    split
    · next h => subst h; simp only [rpM, pw]; grind
    · simp only [rpM]; rw [bump_rp r x l]; grind
theorem bump_mem (r : Rat) : ∀ (l : List (Rat × Nat)) (f : Rat × Nat), f ∈ bumpM r l → f.1 = r ∨ ∃ e ∈ l, e.1 = f.1
  | [], f, h => by simp only [bumpM, List.mem_singleton] at h; subst h; exact Or.inl rfl
  | e :: l, f, h => by
    simp only [bumpM] at h
    split at h
    · next h2 =>
      rcases List.mem_cons.mp h with rfl | h
      · exact Or.inl h2
      · exact Or.inr ⟨f, List.mem_cons_of_mem _ h, rfl⟩
    · rcases List.mem_cons.mp h with rfl | h
      · exact Or.inr ⟨f, by simp, rfl⟩
      · rcases bump_mem r l f h with h3 | ⟨g, hg, h3⟩
        · exact Or.inl h3
        · exact Or.inr ⟨g, List.mem_cons_of_mem _ hg, h3⟩
theorem bump_one (r : Rat) : ∀ (l : List (Rat × Nat)), (∀ e ∈ l, 0 < e.2) → ∀ e ∈ bumpM r l, 0 < e.2
  | [], _, f, h => by simp only [bumpM, List.mem_singleton] at h; subst h; exact Nat.one_pos
  | e :: l, h0, f, h => by
    simp only [bumpM] at h
    split at h
    · rcases List.mem_cons.mp h with rfl | h
      · exact Nat.succ_pos _
      · exact h0 f (List.mem_cons_of_mem _ h)
    · rcases List.mem_cons.mp h with rfl | h
      · exact h0 f (by simp)
      · exact bump_one r l (fun e he => h0 e (List.mem_cons_of_mem _ he)) f h
theorem bump_apart (r : Rat) : ∀ (l : List (Rat × Nat)), l.Pairwise (fun e f => e.1 ≠ f.1) → (bumpM r l).Pairwise (fun e f => e.1 ≠ f.1)
  | [], _ => by simp [bumpM]
  | e :: l, h => by
    rw [List.pairwise_cons] at h
    simp only [bumpM]
    split
    · next h2 =>
      rw [List.pairwise_cons]
      exact ⟨fun f hf => h.1 f hf, h.2⟩
    · next h2 =>
      rw [List.pairwise_cons]
      refine ⟨fun f hf => ?_, bump_apart r l h.2⟩
      rcases bump_mem r l f hf with h3 | ⟨g, hg, h3⟩
      · rw [h3]; exact h2
      · rw [← h3]; exact h.1 g hg
theorem bump_ah (r x : Rat) : ∀ l, ahN x (bumpM r l) = ahN x l + (if x < r then 1 else 0)
  | [] => by simp only [bumpM, ahN]; omega
  | e :: l => by
    simp only [bumpM]
    split
    · next h =>
      subst h
      simp only [ahN]
      split <;> omega
    · simp only [ahN]; rw [bump_ah r x l]; omega
/-- One factor more. -/
theorem PrdM.bump {T U : List Int} {K : Rat} {l : List (Rat × Nat)} (P : PrdM T K l) {n d : Int} (hd : 0 < d) {r : Rat} (hr : r * d = n) (h : ∀ x, TH.ev U x = TH.ev T x * ((d : Rat) * x - n)) : PrdM U (K * d) (bumpM r l) := by
  have d0 := int_pos hd
  refine ⟨Rat.mul_pos P.k0 d0, fun x => ?_, bump_one r l P.one, bump_apart r l P.apart⟩
  rw [h, P.ev, bump_rp, ← hr]
  grind
end Go.Proofs.YtpobhegllhhdgaaGreat.TH
namespace Go.Proofs.YtpobhegllhhdgaaGreat.TH

/-- The product, and the fractions with how often each stands there. -/
def frR (e : Int × Int) : Rat := (e.1 : Rat) / (e.2 : Rat)
def stP : List (Int × Int) → List Int → List Int
  | [], P => P
  | e :: l, P => stP l (mulP P [-e.1, e.2])
def stM : List (Int × Int) → List (Rat × Nat) → List (Rat × Nat)
  | [], M => M
  | e :: l, M => stM l (bumpM (frR e) M)
theorem stP_snoc (e : Int × Int) : ∀ l P, stP (l ++ [e]) P = mulP (stP l P) [-e.1, e.2]
  | [], _ => rfl
  | _ :: l, _ => stP_snoc e l _
theorem stM_snoc (e : Int × Int) : ∀ l M, stM (l ++ [e]) M = bumpM (frR e) (stM l M)
  | [], _ => rfl
  | _ :: l, _ => stM_snoc e l _
theorem frR_mul {e : Int × Int} (h : Maybe e.1 e.2) : frR e * (e.2 : Rat) = (e.1 : Rat) := by
  have := int_ne (l := e.2) (by have := h.1; omega)
  unfold frR
  grind
theorem ev_lin2 (P : List Int) (a b : Int) (x : Rat) : ev (mulP P [a, b]) x = ev P x * ((b : Rat) * x + a) := by
  rw [ev_lin (A := P) (B := 0 :: P) (C := mulP P [a, b]) (a := a) (b := b) (fun i => by
    rcases i with _ | i
    · rw [lin_co0, co_cons0]; grind
    · rw [lin_co, co_cons]; grind) x, ev_cons]
  have e : ((0 : Int) : Rat) = 0 := by decide +kernel
  rw [e]
  grind
/-- What holds of the product of all these. -/
structure PrdL (l : List (Int × Int)) (P : List Int) (M : List (Rat × Nat)) (K : Rat) : Prop where
  cf : Cf P
  len : P.length = l.length + 1
  top : ∀ i, -(24 ^ l.length : Int) ≤ co P i ∧ co P i ≤ 24 ^ l.length
  prd : PrdM P K M
  of : ∀ e ∈ M, ∃ f ∈ l, frR f = e.1
def SmF (e : Int × Int) : Prop := Maybe e.1 e.2 ∧ -20 ≤ e.1 ∧ e.1 ≤ 20 ∧ 1 ≤ e.2 ∧ e.2 ≤ 4
theorem PrdL.start : PrdL [] [1] [] 1 := by
  refine ⟨Or.inr (by decide), rfl, fun i => ?_, ⟨by decide +kernel, fun x => ?_, fun _ h => by simp at h, List.Pairwise.nil⟩, fun _ h => by simp at h⟩
  · rcases i with _ | i
    · exact ⟨by decide, by decide⟩
    · rw [co_cons, co_nil]; exact ⟨by decide, by decide⟩
  · rw [ev_cons, ev_nil]
    simp only [rpM]
    have e : ((1 : Int) : Rat) = 1 := by decide +kernel
    rw [e]
    grind
theorem mul_rng {u B a c : Int} (h1 : -B ≤ u) (h2 : u ≤ B) (h3 : -c ≤ a) (h4 : a ≤ c) : -(B * c) ≤ u * a ∧ u * a ≤ B * c := by
  have q1 := Int.mul_nonneg (show 0 ≤ B - u by omega) (show 0 ≤ c + a by omega)
  have q2 := Int.mul_nonneg (show 0 ≤ B + u by omega) (show 0 ≤ c - a by omega)
  have q3 := Int.mul_nonneg (show 0 ≤ B - u by omega) (show 0 ≤ c - a by omega)
  have q4 := Int.mul_nonneg (show 0 ≤ B + u by omega) (show 0 ≤ c + a by omega)
  grind
theorem PrdL.snoc {l : List (Int × Int)} {P : List Int} {M : List (Rat × Nat)} {K : Rat} (h : PrdL l P M K) {e : Int × Int} (he : SmF e) : PrdL (l ++ [e]) (mulP P [-e.1, e.2]) (bumpM (frR e) M) (K * e.2) := by
  obtain ⟨hm, e1, e2, e3, e4⟩ := he
  have hl := h.len
  refine ⟨cf_trz _, by rw [lin_len h.cf (by omega) _ _ (by omega), hl]; simp, fun i => ?_, ?_, fun f hf => ?_⟩
  · have hp : (24 ^ (l ++ [e]).length : Int) = 24 ^ l.length * 24 := by rw [List.length_append]; exact Int.pow_succ ..
    have hB : (0 : Int) ≤ 24 ^ l.length := by have := h.top 0; omega
    rw [hp]
    obtain ⟨B, hBe⟩ : ∃ B : Int, B = 24 ^ l.length := ⟨_, rfl⟩
    rw [← hBe] at hB ⊢
    rcases i with _ | i
    · rw [lin_co0]
      have t := h.top 0
      rw [← hBe] at t
      have := mul_rng (a := -e.1) (c := 20) t.1 t.2 (by omega) (by omega)
      omega
    · rw [lin_co]
      have t := h.top i
      have t2 := h.top (i + 1)
      rw [← hBe] at t t2
      have q1 := mul_rng (a := e.2) (c := 4) t.1 t.2 (by omega) (by omega)
      have q2 := mul_rng (a := -e.1) (c := 20) t2.1 t2.2 (by omega) (by omega)
      omega
  · refine h.prd.bump (n := e.1) hm.1 (frR_mul hm) fun x => ?_
    rw [ev_lin2, Rat.intCast_neg]
    grind
  · rcases bump_mem _ _ _ hf with h1 | ⟨g, hg, h1⟩
    · exact ⟨e, by simp, h1.symm⟩
    · obtain ⟨f', hf', h2⟩ := h.of g hg
      exact ⟨f', by simp [hf'], h2.trans h1⟩
theorem prd_all : ∀ (l : List (Int × Int)) (k : Nat), k ≤ l.length → (∀ e ∈ l, SmF e) → ∃ K, PrdL (l.take k) (stP (l.take k) [1]) (stM (l.take k) []) K
  | l, 0, _, _ => ⟨1, by rw [List.take_zero]; exact PrdL.start⟩
  | l, k + 1, hk, h => by
    obtain ⟨K, hK⟩ := prd_all l k (by omega) h
    rw [List.take_succ_eq_append_getElem (by omega), stP_snoc, stM_snoc]
    exact ⟨_, hK.snoc (h _ (List.getElem_mem _))⟩
/-- How many of the fractions lie above. -/
def ahF (x : Rat) : List (Int × Int) → Nat
  | [] => 0
  | e :: l => (if x < frR e then 1 else 0) + ahF x l
theorem ah_stM (x : Rat) : ∀ l M, ahN x (stM l M) = ahN x M + ahF x l
  | [], _ => rfl
  | e :: l, M => by
    simp only [stM, ahF]
    rw [ah_stM x l, bump_ah]
    omega
theorem rat_lt {n d m c : Int} (hd : 0 < d) (hc : 0 < c) {a b : Rat} (ha : a * d = n) (hb : b * c = m) : a < b ↔ n * c < m * d := by
  have d0 := int_pos hd
  have c0 := int_pos hc
  have e1 : ((n * c : Int) : Rat) = a * ((d : Rat) * c) := by rw [Rat.intCast_mul, ← ha]; grind
  have e2 : ((m * d : Int) : Rat) = b * ((d : Rat) * c) := by rw [Rat.intCast_mul, ← hb]; grind
  have p := Rat.mul_pos d0 c0
  rw [← Rat.intCast_lt_intCast, e1, e2]
  constructor
  · intro h
    have := Rat.mul_pos (show 0 < b - a by grind) p
    grind
  · intro h
    rcases Rat.le_total (a := b) (b := a) with h2 | h2
    · exfalso
      have := Rat.mul_nonneg (show 0 ≤ a - b by grind) (Rat.le_of_lt p)
      grind
    · by_cases h3 : a = b
      · rw [h3] at h; exfalso; grind
      · grind
theorem rat_eq {n d m c : Int} {a b : Rat} (ha : a * d = n) (hb : b * c = m) (h : a = b) : n * c = m * d := by
  have e1 : ((n * c : Int) : Rat) = a * ((d : Rat) * c) := by rw [Rat.intCast_mul, ← ha]; grind
  have e2 : ((m * d : Int) : Rat) = b * ((d : Rat) * c) := by rw [Rat.intCast_mul, ← hb]; grind
  rw [h, ← e2] at e1
  exact Rat.intCast_inj.mp e1
end Go.Proofs.YtpobhegllhhdgaaGreat.TH
