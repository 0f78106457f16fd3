/- Proved here (plain): the way of a contour, its edges; a contour that begins at another one of its points. No condition. -/
import Derived.Test.YtnnanlilnlimaaaPc
namespace Go.Proofs.Ytnnanlilnlimaaa
open Go.RowKit

abbrev P2 := Int × Int
/-- An edge: its contour's place, is it a curve, A, B, C. -/
abbrev Edg := Int × Bool × P2 × P2 × P2
/-- A node of a way: a point, is it on the outline. -/
abbrev Nod := P2 × Bool
def mdN (px : Int) (p q : Pt) : Nod := ((px * (p.1 + q.1), px * (p.2.1 + q.2.1)), true)
def ndN (px : Int) (p : Pt) : Nod := ((2 * px * p.1, 2 * px * p.2.1), p.2.2)
/-- The nodes of points, q being the one ahead. -/
def wyR (px : Int) : Pt → List Pt → List Nod
  | _, [] => []
  | q, p :: r => (if p.2.2 = false ∧ q.2.2 = false then [mdN px p q] else []) ++ ndN px p :: wyR px p r
def lstD : Pt → List Pt → Pt
  | q, [] => q
  | _, p :: r => lstD p r
theorem wyR_app (px : Int) : ∀ (q : Pt) (X Y : List Pt), wyR px q (X ++ Y) = wyR px q X ++ wyR px (lstD q X) Y
  | q, [], Y => rfl
  | q, p :: r, Y => by
    show _ ++ ndN px p :: wyR px p (r ++ Y) = (_ ++ ndN px p :: wyR px p r) ++ wyR px (lstD p r) Y
    rw [wyR_app px p r Y, List.append_assoc]
    rfl
theorem lstD_app : ∀ (q : Pt) (X Y : List Pt), lstD q (X ++ Y) = lstD (lstD q X) Y
  | _, [], _ => rfl
  | _, p :: r, Y => lstD_app p r Y
theorem lstD_any : ∀ (q q' : Pt) (X : List Pt), X ≠ [] → lstD q X = lstD q' X
  | _, _, [], h => absurd rfl h
  | _, _, _ :: _, _ => rfl
theorem wyR_len (px : Int) : ∀ (q : Pt) (X : List Pt), X.length ≤ (wyR px q X).length ∧ (wyR px q X).length ≤ 2 * X.length
  | _, [] => ⟨Nat.le_refl _, Nat.le_refl _⟩
  | q, p :: r => by
    have h := wyR_len px p r
    show r.length + 1 ≤ _ ∧ _ ≤ 2 * (r.length + 1)
    simp only [wyR, List.length_append, List.length_cons]
    by_cases c : p.2.2 = false ∧ q.2.2 = false
    · rw [if_pos c]; simp; omega
    · rw [if_neg c]; simp; omega
/-- How many nodes stand ahead of the first point on the outline; 0, if there is none. -/
def bgR : Pt → Nat → List Pt → Nat
  | _, _, [] => 0
  | q, a, p :: r => if p.2.2 = true then a else bgR p (a + 1 + (if q.2.2 = false then 1 else 0)) r
theorem bgR_on (px : Int) (y : Pt) (Z : List Pt) (hy : y.2.2 = true) : ∀ (q : Pt) (a : Nat) (X : List Pt), (∀ p ∈ X, p.2.2 = false) → bgR q a (X ++ y :: Z) = a + (wyR px q X).length
  | q, a, [], _ => by show (if y.2.2 = true then a else _) = a + 0; rw [if_pos hy]; rfl
  | q, a, p :: r, h => by
    have hp : p.2.2 = false := h p (List.mem_cons_self ..)
    show (if p.2.2 = true then a else bgR p (a + 1 + (if q.2.2 = false then 1 else 0)) (r ++ y :: Z)) = _
    rw [if_neg (by rw [hp]; decide), bgR_on px y Z hy p _ r (fun x hx => h x (List.mem_cons_of_mem _ hx))]
    simp only [wyR, List.length_append, List.length_cons]
    by_cases c : q.2.2 = false
    · rw [if_pos c, if_pos ⟨hp, c⟩]; simp; omega
    · rw [if_neg c, if_neg (fun h => c h.2)]; simp; omega
theorem bgR_off : ∀ (q : Pt) (a : Nat) (X : List Pt), (∀ p ∈ X, p.2.2 = false) → bgR q a X = 0
  | _, _, [], _ => rfl
  | q, a, p :: r, h => by
    have hp : p.2.2 = false := h p (List.mem_cons_self ..)
    show (if p.2.2 = true then a else bgR p (a + 1 + (if q.2.2 = false then 1 else 0)) r) = 0
    rw [if_neg (by rw [hp]; decide)]
    exact bgR_off p _ r fun x hx => h x (List.mem_cons_of_mem _ hx)
/-- The way of a contour. -/
def way0 (px : Int) (c : List Pt) : List Nod := wyR px (lstD (0, 0, false) c) c
def beg (c : List Pt) : Nat := bgR (lstD (0, 0, false) c) 0 c
def way (px : Int) (c : List Pt) : List Nod := (way0 px c).drop (beg c) ++ (way0 px c).take (beg c)
/-- Are all points of an edge the same? -/
def smE (e : Edg) : Prop := e.2.2.1 = e.2.2.2.2 ∧ (e.2.1 = false ∨ e.2.2.1 = e.2.2.2.1)
instance (e : Edg) : Decidable (smE e) := inferInstanceAs (Decidable (_ ∧ _))
/-- The edges of a way's nodes. -/
def eds (k : Int) : List Nod → List Edg
  | [] => []
  | [_] => []
  | [a, b] => if b.2 = true then [(k, false, a.1, (0, 0), b.1)] else []
  | a :: b :: d :: r => if b.2 = true then (k, false, a.1, (0, 0), b.1) :: eds k (b :: d :: r) else (k, true, a.1, b.1, d.1) :: eds k (d :: r)
def cE (px : Int) (c : List Pt) (k : Int) : List Edg := (eds k (way px c ++ (way px c).take 1)).filter fun e => decide (¬ smE e)
theorem eds_one (k : Int) (a : Nod) : eds k [a] = [] := by rw [eds]
theorem eds_two (k : Int) (a b : Nod) : eds k [a, b] = if b.2 = true then [(k, false, a.1, (0, 0), b.1)] else [] := by rw [eds]
theorem eds_more (k : Int) (a b d : Nod) (r : List Nod) : eds k (a :: b :: d :: r) = if b.2 = true then (k, false, a.1, (0, 0), b.1) :: eds k (b :: d :: r) else (k, true, a.1, b.1, d.1) :: eds k (d :: r) := by rw [eds]
theorem eds_line (k : Int) (a b : Nod) (r : List Nod) (hb : b.2 = true) : eds k (a :: b :: r) = (k, false, a.1, (0, 0), b.1) :: eds k (b :: r) := by
  cases r with
  | nil => rw [eds_two, if_pos hb, eds_one]
  | cons d r => rw [eds_more, if_pos hb]
theorem eds_quad (k : Int) (a b d : Nod) (r : List Nod) (hb : ¬ b.2 = true) : eds k (a :: b :: d :: r) = (k, true, a.1, b.1, d.1) :: eds k (d :: r) := by
  rw [eds_more, if_neg hb]
theorem eds_split (k : Int) (y : Nod) (R : List Nod) (hy : y.2 = true) : ∀ (n : Nat) (X : List Nod), X.length ≤ n → eds k (X ++ y :: R) = eds k (X ++ [y]) ++ eds k (y :: R)
  | _, [], _ => by show eds k (y :: R) = eds k [y] ++ eds k (y :: R); rw [eds_one]; rfl
  | _, [a], _ => by
    show eds k (a :: y :: R) = eds k [a, y] ++ eds k (y :: R)
    rw [eds_line k a y R hy, eds_line k a y [] hy, eds_one]
    rfl
  | n + 1, a :: b :: X, h => by
    by_cases hb : b.2 = true
    · have ih := eds_split k y R hy n (b :: X) (by simp at h ⊢; omega)
      show eds k (a :: b :: (X ++ y :: R)) = eds k (a :: b :: (X ++ [y])) ++ eds k (y :: R)
      rw [eds_line k a b _ hb, eds_line k a b _ hb]
      exact congrArg _ ih
    · match X, h with
      | [], _ =>
        show eds k (a :: b :: y :: R) = eds k [a, b, y] ++ eds k (y :: R)
        rw [eds_quad k a b y R hb, eds_quad k a b y [] hb, eds_one]
        rfl
      | d :: X, h =>
        have ih := eds_split k y R hy n (d :: X) (by simp at h ⊢; omega)
        show eds k (a :: b :: d :: (X ++ y :: R)) = eds k (a :: b :: d :: (X ++ [y])) ++ eds k (y :: R)
        rw [eds_quad k a b d _ hb, eds_quad k a b d _ hb]
        exact congrArg _ ih
  | 0, a :: b :: X, h => absurd h (by simp)
theorem wyR_head (px : Int) (q y : Pt) (Z : List Pt) (hy : y.2.2 = true) : ∃ R, wyR px q (y :: Z) = ndN px y :: R := ⟨wyR px y Z, by
  show (if y.2.2 = false ∧ q.2.2 = false then [mdN px y q] else []) ++ _ = _
  rw [if_neg (fun h => by rw [hy] at h; exact absurd h.1 (by decide))]
  rfl⟩
/-- A contour with a point on the outline. -/
theorem way_on (px : Int) (X Z : List Pt) (y : Pt) (hy : y.2.2 = true) (hX : ∀ p ∈ X, p.2.2 = false) : way px (X ++ y :: Z) = wyR px (lstD (lstD y Z) X) (y :: Z) ++ wyR px (lstD y Z) X := by
  have e1 : lstD (0, 0, false) (X ++ y :: Z) = lstD y Z := by rw [lstD_app]; rfl
  unfold way way0 beg
  rw [e1, bgR_on px y Z hy _ 0 X hX, wyR_app, Nat.zero_add, List.drop_left, List.take_left]
/-- Two lists, turned to another place. -/
def Turn (a b : List Edg) : Prop := ∃ X Y, a = X ++ Y ∧ b = Y ++ X
theorem first_on : ∀ c : List Pt, (∃ p ∈ c, p.2.2 = true) → ∃ X y Z, c = X ++ y :: Z ∧ y.2.2 = true ∧ ∀ p ∈ X, p.2.2 = false
  | [], h => by obtain ⟨p, h, _⟩ := h; cases h
  | x :: c, h => by
    by_cases hx : x.2.2 = true
    · exact ⟨[], x, c, rfl, hx, fun p hp => by cases hp⟩
    · obtain ⟨p, hp, h2⟩ := h
      rcases List.mem_cons.1 hp with rfl | hp
      · exact absurd h2 hx
      · obtain ⟨X, y, Z, e1, e2, e3⟩ := first_on c ⟨p, hp, h2⟩
        exact ⟨x :: X, y, Z, by rw [e1]; rfl, e2, fun q hq => (List.mem_cons.1 hq).elim (fun e => by rw [e]; simpa using hx) (e3 q)⟩
/-- A contour that begins at another one of its points on the outline has the same edges, in the same order round. -/
theorem cE_turn (px k : Int) (U V : List Pt) (v : Pt) (hv : v.2.2 = true) : Turn (cE px (U ++ v :: V) k) (cE px (v :: V ++ U) k) := by
  have ht : way px (v :: V ++ U) = wyR px (lstD v (V ++ U)) (v :: (V ++ U)) := by
    have h := way_on px [] (V ++ U) v hv (fun p hp => by cases hp)
    exact h.trans (List.append_nil _)
  obtain ⟨R0, hR0⟩ := wyR_head px (lstD v (V ++ U)) v (V ++ U) hv
  unfold cE
  by_cases hU : ∃ p ∈ U, p.2.2 = true
  · obtain ⟨X, y, M, rfl, hy, hX⟩ := first_on U hU
    have e1 : way px (X ++ y :: M ++ v :: V) = wyR px (lstD (lstD y (M ++ v :: V)) X) (y :: (M ++ v :: V)) ++ wyR px (lstD y (M ++ v :: V)) X := by
      rw [List.append_assoc]; exact way_on px X (M ++ v :: V) y hy hX
    have l1 : lstD y (M ++ v :: V) = lstD v V := by rw [lstD_app]; rfl
    have l2 : lstD v (V ++ (X ++ y :: M)) = lstD y M := by rw [lstD_app, lstD_app]; rfl
    rw [l1] at e1
    rw [l2] at ht hR0
    obtain ⟨R1, hR1⟩ := wyR_head px (lstD (lstD v V) X) y M hy
    obtain ⟨R2, hR2⟩ := wyR_head px (lstD y M) v V hv
    have e2 : wyR px (lstD (lstD v V) X) (y :: (M ++ v :: V)) = (ndN px y :: R1) ++ (ndN px v :: R2) := by
      have := wyR_app px (lstD (lstD v V) X) (y :: M) (v :: V)
      rw [hR1] at this
      rw [show y :: (M ++ v :: V) = y :: M ++ v :: V from rfl, this]
      exact congrArg _ hR2
    have e3 : wyR px (lstD y M) (v :: (V ++ (X ++ y :: M))) = (ndN px v :: R2) ++ (wyR px (lstD v V) X ++ (ndN px y :: R1)) := by
      rw [show v :: (V ++ (X ++ y :: M)) = v :: V ++ (X ++ y :: M) from rfl, wyR_app, hR2, wyR_app]
      exact congrArg (fun z => (ndN px v :: R2) ++ (wyR px (lstD v V) X ++ z)) hR1
    rw [e2] at e1
    rw [show v :: V ++ (X ++ y :: M) = v :: V ++ (X ++ y :: M) from rfl] at ht
    rw [show lstD v (V ++ (X ++ y :: M)) = lstD y M from l2] at *
    rw [e3] at ht
    rw [e1, ht]
    generalize wyR px (lstD v V) X = B
    have s1 : eds k (((ndN px y :: R1) ++ (ndN px v :: R2) ++ B) ++ (((ndN px y :: R1) ++ (ndN px v :: R2) ++ B).take 1)) = eds k ((ndN px y :: R1) ++ [ndN px v]) ++ eds k ((ndN px v :: R2) ++ B ++ [ndN px y]) := by
      have := eds_split k (ndN px v) (R2 ++ B ++ [ndN px y]) hv _ (ndN px y :: R1) (Nat.le_refl _)
      simpa using this
    have s2 : eds k (((ndN px v :: R2) ++ (B ++ (ndN px y :: R1))) ++ (((ndN px v :: R2) ++ (B ++ (ndN px y :: R1))).take 1)) = eds k ((ndN px v :: R2) ++ B ++ [ndN px y]) ++ eds k ((ndN px y :: R1) ++ [ndN px v]) := by
      have := eds_split k (ndN px y) (R1 ++ [ndN px v]) hy _ ((ndN px v :: R2) ++ B) (Nat.le_refl _)
      simpa using this
    rw [s1, s2, List.filter_append, List.filter_append]
    exact ⟨_, _, rfl, rfl⟩
  · have hU2 : ∀ p ∈ U, p.2.2 = false := fun p hp => by
      cases h : p.2.2
      · rfl
      · exact absurd ⟨p, hp, h⟩ hU
    have e1 := way_on px U V v hv hU2
    have e3 : wyR px (lstD v (V ++ U)) (v :: (V ++ U)) = wyR px (lstD v (V ++ U)) (v :: V) ++ wyR px (lstD v V) U := by
      rw [show v :: (V ++ U) = v :: V ++ U from rfl, wyR_app]; rfl
    rw [e3] at ht
    rw [lstD_app] at ht
    rw [e1, ht]
    exact ⟨[], _, rfl, by rw [List.append_nil]⟩
end Go.Proofs.Ytnnanlilnlimaaa
