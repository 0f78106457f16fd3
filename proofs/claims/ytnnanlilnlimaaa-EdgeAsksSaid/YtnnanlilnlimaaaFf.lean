/- Proved here: plain: a contour turned to where it begins has the way that is turned there; edges along a way, one by one. No condition. -/
import Derived.Test.YtnnanlilnlimaaaEj
namespace Go.Proofs.Ytnnanlilnlimaaa
open Go.RowKit

def rot (L : List Pt) (b : Nat) : List Pt := L.drop b ++ L.take b
theorem rot_len (L : List Pt) (b : Nat) : (rot L b).length = L.length := by unfold rot; simp; omega
theorem rot_pq {L : List Pt} {b i : Nat} (hb : b < L.length) (hi : i < L.length) : pq (rot L b) i = pq L ((b + i) % L.length) := by
  unfold rot pq
  rcases Nat.lt_or_ge (b + i) L.length with h | h
  · rw [Nat.mod_eq_of_lt h]
    simp only [List.getD_eq_getElem?_getD]
    rw [List.getElem?_append_left (by simp; omega), List.getElem?_drop]
  · rw [Nat.mod_eq_sub_mod h, Nat.mod_eq_of_lt (by omega)]
    simp only [List.getD_eq_getElem?_getD]
    rw [List.getElem?_append_right (by simp; omega), List.getElem?_take_of_lt (by simp; omega)]
    simp only [List.length_drop]
    rw [show i - (L.length - b) = b + i - L.length by omega]
/-- Where a contour begins. -/
def Beg (L : List Pt) (b : Nat) : Prop := (b < L.length ∧ (pq L b).2.2 = true ∧ ∀ i, i < b → (pq L i).2.2 = false) ∨ (b = 0 ∧ ∀ i, i < L.length → (pq L i).2.2 = false)
theorem pq_mem {X : List Pt} {p : Pt} (hp : p ∈ X) : ∃ i, i < X.length ∧ pq X i = p := by
  obtain ⟨i, hi, h⟩ := List.getElem_of_mem hp
  exact ⟨i, hi, by unfold pq; simp [hi, h]⟩
theorem way_rot (px : Int) (L : List Pt) (b : Nat) (h : Beg L b) : wyR px (lstD (0, 0, false) (rot L b)) (rot L b) = way px L := by
  rcases h with ⟨hb, hy, hX⟩ | ⟨rfl, ho⟩
  · have e : L = L.take b ++ pq L b :: L.drop (b + 1) := by
      have := List.take_append_drop b L
      rw [pq_drop L b hb] at this
      exact this.symm
    have hX' : ∀ p ∈ L.take b, p.2.2 = false := fun p hp => by
      obtain ⟨i, hi, h⟩ := pq_mem hp
      rw [← h]
      have hi' : i < b := by simp at hi; omega
      have : pq (L.take b) i = pq L i := by unfold pq; simp [hi']
      rw [this]
      exact hX i hi'
    have er : rot L b = (pq L b :: L.drop (b + 1)) ++ L.take b := by unfold rot; rw [pq_drop L b hb]
    obtain ⟨X, hXe⟩ : ∃ X, X = L.take b := ⟨_, rfl⟩
    obtain ⟨Z, hZe⟩ : ∃ Z, Z = L.drop (b + 1) := ⟨_, rfl⟩
    obtain ⟨y, hye⟩ : ∃ y, y = pq L b := ⟨_, rfl⟩
    rw [← hXe, ← hZe, ← hye] at e er
    rw [← hXe] at hX'
    rw [← hye] at hy
    rw [er, e, way_on px X Z y hy hX', wyR_app, lstD_app]
    rfl
  · have er : rot L 0 = L := by unfold rot; simp
    rw [er]
    have hX' : ∀ p ∈ L, p.2.2 = false := fun p hp => by
      obtain ⟨i, hi, h⟩ := pq_mem hp
      rw [← h]
      exact ho i hi
    unfold way beg
    rw [bgR_off _ _ _ hX']
    show _ = (way0 px L).drop 0 ++ (way0 px L).take 0
    rw [List.drop_zero, List.take_zero, List.append_nil]
    rfl
/-- The edge that begins at a node. -/
def mkE (k : Int) (a b d : Nod) : Edg := if b.2 = true then (k, false, a.1, (0, 0), b.1) else (k, true, a.1, b.1, d.1)
/-- Edges, node by node. -/
def alR (k : Int) : List Nod → List Edg
  | [] => []
  | [_] => []
  | [_, _] => []
  | a :: b :: d :: r => (if a.2 = true then [mkE k a b d] else []) ++ alR k (b :: d :: r)
/-- No two that are off the outline follow one another. -/
def noT : List Nod → Prop
  | [] => True
  | [_] => True
  | a :: b :: r => (a.2 = true ∨ b.2 = true) ∧ noT (b :: r)
theorem alR_more (k : Int) (a b d : Nod) (r : List Nod) : alR k (a :: b :: d :: r) = (if a.2 = true then [mkE k a b d] else []) ++ alR k (b :: d :: r) := by rw [alR]
theorem alR_two (k : Int) (a b : Nod) : alR k [a, b] = [] := by rw [alR]
theorem alR_eds (k : Int) (z t : Nod) (hz : z.2 = true) : ∀ (n : Nat) (L : List Nod), L.length ≤ n → noT (L ++ [z]) → (∀ a r, L = a :: r → a.2 = true) → alR k (L ++ [z, t]) = eds k (L ++ [z]) := by
  intro n
  induction n with
  | zero =>
    intro L hn _ _
    obtain rfl : L = [] := List.length_eq_zero_iff.1 (by omega)
    rw [List.nil_append, List.nil_append, alR_two, eds_one]
  | succ n ih =>
    intro L hn hT hh
    match L, hn, hT, hh with
    | [], _, _, _ => rw [List.nil_append, List.nil_append, alR_two, eds_one]
    | [a], _, _, hh =>
      have ha := hh a [] rfl
      show alR k [a, z, t] = eds k [a, z]
      rw [alR_more, alR_two, if_pos ha, List.append_nil, eds_two, if_pos hz]
      unfold mkE
      rw [if_pos hz]
    | a :: b :: r, hn, hT, hh =>
      have ha := hh a (b :: r) rfl
      by_cases hb : b.2 = true
      · have e := ih (b :: r) (by simp at hn ⊢; omega) hT.2 (fun a' r' h => by injection h with h _; rw [← h]; exact hb)
        show alR k (a :: b :: (r ++ [z, t])) = eds k (a :: b :: (r ++ [z]))
        rw [eds_line k a b _ hb]
        have e2 : alR k (a :: b :: (r ++ [z, t])) = [(k, false, a.1, (0, 0), b.1)] ++ alR k (b :: (r ++ [z, t])) := by
          match r with
          | [] => show alR k (a :: b :: z :: [t]) = _; rw [alR_more, if_pos ha]; unfold mkE; rw [if_pos hb]; rfl
          | d :: r' => show alR k (a :: b :: d :: (r' ++ [z, t])) = _; rw [alR_more, if_pos ha]; unfold mkE; rw [if_pos hb]; rfl
        rw [e2]
        show _ :: alR k ((b :: r) ++ [z, t]) = _
        rw [e]
        rfl
      · match r, hn, hT, hh with
        | [], _, _, _ =>
          show alR k (a :: b :: z :: [t]) = eds k (a :: b :: z :: [])
          rw [alR_more, if_pos ha, alR_more, if_neg hb, alR_two, eds_quad k a b z [] hb, eds_one]
          unfold mkE
          rw [if_neg hb]
          rfl
        | d :: r', hn, hT, _ =>
          have hd : d.2 = true := by
            rcases hT.2.1 with h | h
            · exact absurd h hb
            · exact h
          have e := ih (d :: r') (by simp at hn ⊢; omega) hT.2.2 (fun a' r' h => by injection h with h _; rw [← h]; exact hd)
          show alR k (a :: b :: d :: (r' ++ [z, t])) = eds k (a :: b :: d :: (r' ++ [z]))
          rw [alR_more, if_pos ha, eds_quad k a b d _ hb]
          have e2 : alR k (b :: d :: (r' ++ [z, t])) = alR k (d :: (r' ++ [z, t])) := by
            match r' with
            | [] => show alR k (b :: d :: z :: [t]) = _; rw [alR_more, if_neg hb]; rfl
            | x :: r'' => show alR k (b :: d :: x :: (r'' ++ [z, t])) = _; rw [alR_more, if_neg hb]; rfl
          rw [e2]
          show mkE k a b d :: alR k ((d :: r') ++ [z, t]) = _
          rw [e]
          unfold mkE
          rw [if_neg hb]
          rfl
theorem noT_cons (a b : Nod) (r : List Nod) (h : a.2 = true ∨ b.2 = true) (h2 : noT (b :: r)) : noT (a :: b :: r) := ⟨h, h2⟩
/-- In a way no two nodes off the outline follow one another. -/
theorem wyR_noT (px : Int) : ∀ (q : Pt) (X : List Pt), noT (wyR px q X) ∧ ∀ a r, wyR px q X = a :: r → q.2.2 = true ∨ a.2 = true
  | _, [] => ⟨trivial, fun _ _ h => by cases h⟩
  | q, p :: r => by
    obtain ⟨h1, h2⟩ := wyR_noT px p r
    have hn : noT (ndN px p :: wyR px p r) := by
      match h : wyR px p r with
      | [] => exact trivial
      | x :: s => rw [h] at h1; exact noT_cons _ _ _ (h2 x s h) h1
    by_cases c : p.2.2 = false ∧ q.2.2 = false
    · have e : wyR px q (p :: r) = mdN px p q :: ndN px p :: wyR px p r := by show (if _ then _ else _) ++ _ = _; rw [if_pos c]; rfl
      rw [e]
      exact ⟨noT_cons _ _ _ (.inl rfl) hn, fun a s h => by injection h with h _; rw [← h]; exact .inr rfl⟩
    · have e : wyR px q (p :: r) = ndN px p :: wyR px p r := by show (if _ then _ else _) ++ _ = _; rw [if_neg c]; rfl
      rw [e]
      refine ⟨hn, fun a s h => ?_⟩
      injection h with h _
      rw [← h]
      show q.2.2 = true ∨ p.2.2 = true
      rcases hq : q.2.2 with _ | _
      · right
        rcases hp : p.2.2 with _ | _
        · exact absurd ⟨hp, hq⟩ c
        · rfl
      · left; rfl
/-- The nodes of a way, in a row that goes on with its first two. -/
def ring (l : List Nod) : List Nod := l ++ [l.getD 0 ((0, 0), false), l.getD (1 % l.length) ((0, 0), false)]
theorem noT_snoc : ∀ (l : List Nod) (z : Nod), noT l → z.2 = true → noT (l ++ [z])
  | [], _, _, _ => trivial
  | [_], _, _, hz => ⟨.inr hz, trivial⟩
  | _ :: b :: r, z, h, hz => ⟨h.1, noT_snoc (b :: r) z h.2 hz⟩
theorem ring_eds (px k : Int) (L : List Pt) (h1 : 1 ≤ L.length) : alR k (ring (way px L)) = eds k (way px L ++ (way px L).take 1) := by
  obtain ⟨z, R, hz, hzo⟩ := way_head px L h1
  have hT : noT (way px L) := by
    by_cases hc : ∃ p ∈ L, p.2.2 = true
    · obtain ⟨X, y, Z, rfl, hy, hX⟩ := first_on L hc
      rw [way_on px X Z y hy hX]
      have e := wyR_app px (lstD (lstD y Z) X) (y :: Z) X
      rw [show lstD (lstD (lstD y Z) X) (y :: Z) = lstD y Z from rfl] at e
      rw [← e]
      exact (wyR_noT px _ _).1
    · unfold way beg
      rw [bgR_off _ _ _ fun p hp => by
        cases h : p.2.2
        · rfl
        · exact absurd ⟨p, hp, h⟩ hc]
      show noT ((way0 px L).drop 0 ++ (way0 px L).take 0)
      rw [List.drop_zero, List.take_zero, List.append_nil]
      exact (wyR_noT px _ _).1
  have hN := noT_snoc (way px L) z hT hzo
  have e0 : (way px L).getD 0 ((0, 0), false) = z := by rw [hz]; rfl
  have et : (way px L).take 1 = [z] := by rw [hz]; rfl
  unfold ring
  rw [e0, et]
  exact alR_eds k z _ hzo _ _ (Nat.le_refl _) hN (fun a r h => by rw [hz] at h; injection h with h _; rw [← h]; exact hzo)
end Go.Proofs.Ytnnanlilnlimaaa
