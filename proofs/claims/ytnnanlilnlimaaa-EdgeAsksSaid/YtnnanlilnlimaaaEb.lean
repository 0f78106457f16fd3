/- Proved here (plain): edges of outlines are closed, and may be. No condition. -/
import Derived.Test.YtnnanlilnlimaaaEa
namespace Go.Proofs.Ytnnanlilnlimaaa
open Go.RowKit

/-- Do the edges go on, from f on, the first one of its contour? -/
def cloR : Edg → List Edg → Prop
  | _, [] => True
  | f, [e] => e.2.2.2.2 = (if e.1 = f.1 then f else e).2.2.1
  | f, e :: g :: r => (if g.1 = e.1 then e.2.2.2.2 = g.2.2.1 else e.2.2.2.2 = (if e.1 = f.1 then f else e).2.2.1) ∧ cloR (if e.1 = f.1 then f else e) (g :: r)
def Clo (L : List Edg) : Prop := ∀ e r, L = e :: r → cloR e L
/-- A way of edges of one contour, from a point to another one. -/
def Chn (k : Int) : P2 → List Edg → P2 → Prop
  | s, [], z => s = z
  | s, e :: r, z => e.1 = k ∧ e.2.2.1 = s ∧ Chn k e.2.2.2.2 r z
theorem eds_chn (k : Int) (z : Nod) (hz : z.2 = true) : ∀ (n : Nat) (a : Nod) (L : List Nod), L.length ≤ n → Chn k a.1 (eds k (a :: L ++ [z])) z.1
  | _, a, [], _ => by
    show Chn k a.1 (eds k [a, z]) z.1
    rw [eds_line k a z [] hz, eds_one]
    exact ⟨rfl, rfl, rfl⟩
  | n + 1, a, b :: L, h => by
    by_cases hb : b.2 = true
    · show Chn k a.1 (eds k (a :: b :: (L ++ [z]))) z.1
      rw [eds_line k a b _ hb]
      exact ⟨rfl, rfl, eds_chn k z hz n b L (by simp at h; omega)⟩
    · match L, h with
      | [], _ =>
        show Chn k a.1 (eds k [a, b, z]) z.1
        rw [eds_quad k a b z [] hb, eds_one]
        exact ⟨rfl, rfl, rfl⟩
      | d :: L, h =>
        show Chn k a.1 (eds k (a :: b :: d :: (L ++ [z]))) z.1
        rw [eds_quad k a b d _ hb]
        exact ⟨rfl, rfl, eds_chn k z hz n d L (by simp at h; omega)⟩
  | 0, _, _ :: _, h => absurd h (by simp)
theorem Chn.filter (k : Int) : ∀ (s : P2) (L : List Edg) (z : P2), Chn k s L z → Chn k s (L.filter fun e => decide (¬ smE e)) z
  | _, [], _, h => h
  | s, e :: r, z, ⟨h1, h2, h3⟩ => by
    have ih := Chn.filter k _ r z h3
    by_cases hs : smE e
    · rw [List.filter_cons_of_neg (by simpa using hs)]
      have e1 : e.2.2.2.2 = s := by rw [← hs.1]; exact h2
      rw [e1] at ih
      exact ih
    · rw [List.filter_cons_of_pos (by simpa using hs)]
      exact ⟨h1, h2, ih⟩
theorem cloR_cons (f e : Edg) (g : Edg) (r : List Edg) : cloR f (e :: g :: r) = ((if g.1 = e.1 then e.2.2.2.2 = g.2.2.1 else e.2.2.2.2 = (if e.1 = f.1 then f else e).2.2.1) ∧ cloR (if e.1 = f.1 then f else e) (g :: r)) := rfl
/-- Edges of one contour that are closed, ahead of others. -/
theorem cloR_one (k : Int) (f : Edg) (hf : f.1 = k) (R : List Edg) (hR : ∀ g r, R = g :: r → g.1 ≠ k) (hc : cloR f R) : ∀ (a : P2) (E : List Edg), Chn k a E f.2.2.1 → cloR f (E ++ R)
  | _, [], _ => hc
  | a, [e], ⟨h1, h2, h3⟩ => by
    have h3 : e.2.2.2.2 = f.2.2.1 := h3
    have hef : e.1 = f.1 := h1.trans hf.symm
    match R, hR, hc with
    | [], _, _ => show e.2.2.2.2 = (if e.1 = f.1 then f else e).2.2.1; rw [if_pos hef]; exact h3
    | g :: r, hR, hc =>
      show cloR f (e :: g :: r)
      rw [cloR_cons, if_pos hef, if_neg (fun h => hR g r rfl (h.trans h1))]
      exact ⟨h3, hc⟩
  | a, e :: g :: E, ⟨h1, h2, h3⟩ => by
    have hef : e.1 = f.1 := h1.trans hf.symm
    have ih := cloR_one k f hf R hR hc e.2.2.2.2 (g :: E) h3
    show cloR f (e :: g :: (E ++ R))
    rw [cloR_cons, if_pos hef, if_pos (h3.1.trans h1.symm)]
    exact ⟨h3.2.1.symm, ih⟩
theorem cloR_new (f e : Edg) (r : List Edg) (h : f.1 ≠ e.1) : cloR f (e :: r) ↔ cloR e (e :: r) := by
  match r with
  | [] => show _ = (if e.1 = f.1 then f else e).2.2.1 ↔ _ = (if e.1 = e.1 then e else e).2.2.1; rw [if_neg (fun h2 => h h2.symm), if_pos rfl]
  | g :: r => rw [cloR_cons, cloR_cons, if_neg (fun h2 : e.1 = f.1 => h h2.symm), if_pos (rfl : e.1 = e.1)]
/-- All edges, contour by contour. -/
def edL (px : Int) : Int → List (List Pt) → List Edg
  | _, [] => []
  | k, c :: r => cE px c k ++ edL px (k + 1) r
theorem way_head (px : Int) (c : List Pt) (h : 1 ≤ c.length) : ∃ z L, way px c = z :: L ∧ z.2 = true := by
  by_cases hc : ∃ p ∈ c, p.2.2 = true
  · obtain ⟨X, y, Z, rfl, hy, hX⟩ := first_on c hc
    rw [way_on px X Z y hy hX]
    obtain ⟨R, hR⟩ := wyR_head px (lstD (lstD y Z) X) y Z hy
    rw [hR]
    exact ⟨_, _, rfl, hy⟩
  · have hc2 : ∀ p ∈ c, p.2.2 = false := fun p hp => by
      cases h : p.2.2
      · rfl
      · exact absurd ⟨p, hp, h⟩ hc
    match c, h, hc2 with
    | p :: r, _, hc2 =>
      have hl : (lstD (0, 0, false) (p :: r)).2.2 = false := by
        have : ∀ (q : Pt) (X : List Pt), q.2.2 = false → (∀ p ∈ X, p.2.2 = false) → (lstD q X).2.2 = false := by
          intro q X
          induction X generalizing q with
          | nil => exact fun h _ => h
          | cons a X ih => exact fun _ h2 => ih a (h2 a (List.mem_cons_self ..)) fun x hx => h2 x (List.mem_cons_of_mem _ hx)
        exact this _ _ rfl hc2
      have hp := hc2 p (List.mem_cons_self ..)
      unfold way beg
      rw [bgR_off _ _ _ hc2]
      refine ⟨mdN px p (lstD (0, 0, false) (p :: r)), ndN px p :: wyR px p r, ?_, rfl⟩
      show (wyR px (lstD (0, 0, false) (p :: r)) (p :: r)).drop 0 ++ _ = _
      simp only [wyR, List.drop_zero, List.take_zero, List.append_nil]
      rw [if_pos ⟨hp, hl⟩]
      rfl
theorem cE_chn (px k : Int) (c : List Pt) (h : 1 ≤ c.length) : ∃ s, Chn k s (cE px c k) s := by
  obtain ⟨z, L, e, hz⟩ := way_head px c h
  refine ⟨z.1, ?_⟩
  unfold cE
  rw [e]
  exact Chn.filter k _ _ _ (eds_chn k z hz _ z L (Nat.le_refl _))
theorem Chn.con {k : Int} : ∀ {s : P2} {L : List Edg} {z : P2}, Chn k s L z → ∀ e ∈ L, e.1 = k
  | _, [], _, _, e, h => by cases h
  | _, x :: r, _, ⟨h1, _, h3⟩, e, h => (List.mem_cons.1 h).elim (fun h2 => by rw [h2]; exact h1) (Chn.con h3 e)
theorem edL_con (px : Int) : ∀ (k : Int) (LL : List (List Pt)), (∀ c ∈ LL, 1 ≤ c.length) → ∀ e ∈ edL px k LL, k ≤ e.1
  | _, [], _, e, h => by cases h
  | k, c :: r, hn, e, h => by
    rcases List.mem_append.1 h with h | h
    · obtain ⟨s, hs⟩ := cE_chn px k c (hn c (List.mem_cons_self ..))
      rw [hs.con e h]; exact Int.le_refl _
    · have := edL_con px (k + 1) r (fun x hx => hn x (List.mem_cons_of_mem _ hx)) e h
      omega
theorem edL_clo (px : Int) : ∀ (k : Int) (LL : List (List Pt)) (f : Edg), (∀ c ∈ LL, 1 ≤ c.length) → f.1 < k → cloR f (edL px k LL)
  | _, [], _, _, _ => trivial
  | k, c :: r, f, hn, hf => by
    have hn2 : ∀ x ∈ r, 1 ≤ x.length := fun x hx => hn x (List.mem_cons_of_mem _ hx)
    obtain ⟨s, hs⟩ := cE_chn px k c (hn c (List.mem_cons_self ..))
    have hcon := edL_con px (k + 1) r hn2
    show cloR f (cE px c k ++ edL px (k + 1) r)
    match he : cE px c k with
    | [] => exact edL_clo px (k + 1) r f hn2 (by omega)
    | e :: E =>
      rw [he] at hs
      have h1 := hs.1
      have h2 := hs.2.1
      show cloR f (e :: (E ++ edL px (k + 1) r))
      rw [cloR_new f e _ (by omega)]
      refine cloR_one k e h1 _ (fun g r' hg => ?_) (edL_clo px (k + 1) r e hn2 (by omega)) s (e :: E) (by rw [h2]; exact hs)
      have := hcon g (by rw [hg]; exact List.mem_cons_self ..)
      omega
/-- Edges of outlines are closed. -/
theorem edL_closed (px : Int) (LL : List (List Pt)) (hn : ∀ c ∈ LL, 1 ≤ c.length) : Clo (edL px 0 LL) := by
  intro e r h
  have h1 := edL_clo px 0 LL (-1, false, (0, 0), (0, 0), (0, 0)) hn (by decide)
  have h2 := edL_con px 0 LL hn e (by rw [h]; exact List.mem_cons_self ..)
  rw [h] at h1 ⊢
  exact (cloR_new _ e r (by show (-1 : Int) ≠ e.1; omega)).1 h1
def fiP (p : P2) : Prop := (-33554432 ≤ p.1 ∧ p.1 ≤ 33554432) ∧ (-33554432 ≤ p.2 ∧ p.2 ≤ 33554432)
instance (p : P2) : Decidable (fiP p) := inferInstanceAs (Decidable (_ ∧ _))
/-- May an edge be? -/
def oneE (e : Edg) : Prop := fiP e.2.2.1 ∧ fiP e.2.2.2.1 ∧ fiP e.2.2.2.2 ∧ ¬ smE e ∧ (e.2.1 = true ∨ e.2.2.2.1 = (0, 0))
instance (e : Edg) : Decidable (oneE e) := inferInstanceAs (Decidable (_ ∧ _))
theorem mul_px {px s B : Int} (h1 : 1 ≤ px) (h2 : px ≤ 128) (h3 : -B ≤ s) (h4 : s ≤ B) (hB : 0 ≤ B) : -(128 * B) ≤ px * s ∧ px * s ≤ 128 * B := by
  have a1 : px * s ≤ px * B := Int.mul_le_mul_of_nonneg_left h4 (by omega)
  have a2 : px * B ≤ 128 * B := Int.mul_le_mul_of_nonneg_right h2 hB
  have a3 : px * -B ≤ px * s := Int.mul_le_mul_of_nonneg_left h3 (by omega)
  have a4 : px * -B = -(px * B) := Int.mul_neg ..
  omega
theorem wyR_fine {px : Int} (h1 : 1 ≤ px) (h2 : px ≤ 128) : ∀ (q : Pt) (X : List Pt), okU q.1 ∧ okU q.2.1 → (∀ p ∈ X, okU p.1 ∧ okU p.2.1) → ∀ x ∈ wyR px q X, fiP x.1
  | _, [], _, _, x, h => by cases h
  | q, p :: r, hq, hX, x, h => by
    have hp := hX p (List.mem_cons_self ..)
    rcases List.mem_append.1 h with h | h
    · by_cases c : p.2.2 = false ∧ q.2.2 = false
      · rw [if_pos c] at h
        rw [List.mem_singleton.1 h]
        have b1 := mul_px (s := p.1 + q.1) (B := 65534) h1 h2 (by have := hp.1.1; have := hq.1.1; omega) (by have := hp.1.2; have := hq.1.2; omega) (by decide)
        have b2 := mul_px (s := p.2.1 + q.2.1) (B := 65534) h1 h2 (by have := hp.2.1; have := hq.2.1; omega) (by have := hp.2.2; have := hq.2.2; omega) (by decide)
        exact ⟨⟨Int.le_trans (by decide) b1.1, Int.le_trans b1.2 (by decide)⟩, Int.le_trans (by decide) b2.1, Int.le_trans b2.2 (by decide)⟩
      · rw [if_neg c] at h; cases h
    · rcases List.mem_cons.1 h with h | h
      · rw [h]
        have b1 := mul_px (s := p.1) (B := 32767) h1 h2 hp.1.1 hp.1.2 (by decide)
        have b2 := mul_px (s := p.2.1) (B := 32767) h1 h2 hp.2.1 hp.2.2 (by decide)
        have e1 : 2 * px * p.1 = 2 * (px * p.1) := Int.mul_assoc ..
        have e2 : 2 * px * p.2.1 = 2 * (px * p.2.1) := Int.mul_assoc ..
        refine ⟨?_, ?_⟩
        · show -33554432 ≤ 2 * px * p.1 ∧ 2 * px * p.1 ≤ 33554432
          omega
        · show -33554432 ≤ 2 * px * p.2.1 ∧ 2 * px * p.2.1 ≤ 33554432
          omega
      · exact wyR_fine h1 h2 p r hp (fun y hy => hX y (List.mem_cons_of_mem _ hy)) x h
theorem eds_mem (k : Int) (P : P2 → Prop) (h0 : P (0, 0)) : ∀ (n : Nat) (L : List Nod), L.length ≤ n → (∀ x ∈ L, P x.1) → ∀ e ∈ eds k L, P e.2.2.1 ∧ P e.2.2.2.1 ∧ P e.2.2.2.2 ∧ (e.2.1 = true ∨ e.2.2.2.1 = (0, 0))
  | _, [], _, _, e, h => by rw [eds] at h; cases h
  | _, [a], _, _, e, h => by rw [eds] at h; cases h
  | _, [a, b], _, hP, e, h => by
    rw [eds_two] at h
    by_cases hb : b.2 = true
    · rw [if_pos hb] at h
      rw [List.mem_singleton.1 h]
      exact ⟨hP a (by simp), h0, hP b (by simp), .inr rfl⟩
    · rw [if_neg hb] at h; cases h
  | n + 1, a :: b :: d :: r, hl, hP, e, h => by
    rw [eds_more] at h
    by_cases hb : b.2 = true
    · rw [if_pos hb] at h
      rcases List.mem_cons.1 h with h | h
      · rw [h]; exact ⟨hP a (by simp), h0, hP b (by simp), .inr rfl⟩
      · exact eds_mem k P h0 n (b :: d :: r) (by simp at hl ⊢; omega) (fun x hx => hP x (List.mem_cons_of_mem _ hx)) e h
    · rw [if_neg hb] at h
      rcases List.mem_cons.1 h with h | h
      · rw [h]; exact ⟨hP a (by simp), hP b (by simp), hP d (by simp), .inl rfl⟩
      · exact eds_mem k P h0 n (d :: r) (by simp at hl ⊢; omega) (fun x hx => hP x (List.mem_cons_of_mem _ (List.mem_cons_of_mem _ hx))) e h
  | 0, _ :: _ :: _ :: _, hl, _, _, _ => absurd hl (by simp)
theorem eds_len (k : Int) : ∀ (n : Nat) (L : List Nod), L.length ≤ n → (eds k L).length ≤ L.length - 1
  | _, [], _ => by rw [eds]; exact Nat.zero_le _
  | _, [a], _ => by rw [eds]; exact Nat.zero_le _
  | _, [a, b], _ => by rw [eds_two]; by_cases hb : b.2 = true <;> simp [hb]
  | n + 1, a :: b :: d :: r, hl => by
    rw [eds_more]
    by_cases hb : b.2 = true
    · rw [if_pos hb]
      have := eds_len k n (b :: d :: r) (by simp at hl ⊢; omega)
      simp at this ⊢
      omega
    · rw [if_neg hb]
      have := eds_len k n (d :: r) (by simp at hl ⊢; omega)
      simp at this ⊢
      omega
  | 0, _ :: _ :: _ :: _, hl => absurd hl (by simp)
end Go.Proofs.Ytnnanlilnlimaaa
