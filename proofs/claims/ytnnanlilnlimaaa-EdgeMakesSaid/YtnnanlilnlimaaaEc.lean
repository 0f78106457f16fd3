/- Proved here (plain): what Edges answers; edges of outlines may be. No condition. -/
import Derived.Test.YtnnanlilnlimaaaEb
namespace Go.Proofs.Ytnnanlilnlimaaa
open Go.RowKit

def e0 : Edg := (0, false, (0, 0), (0, 0), (0, 0))
def eg (L : List Edg) (i : Nat) : Edg := L.getD i e0
/-- May edges be? -/
def MayE (L : List Edg) : Prop := L.length ≤ 8192 ∧ (∀ i, i < L.length → oneE (eg L i)) ∧ Clo L
/-- What Edges answers. -/
def okEd (LL : List (List Pt)) (px : Int) : Prop := MayG LL ∧ 1 ≤ px ∧ px ≤ 128
instance (LL : List (List Pt)) (px : Int) : Decidable (okEd LL px) := inferInstanceAs (Decidable (_ ∧ _))
def EdP (LL : List (List Pt)) (px : Int) : Int × List Edg := if okEd LL px then (0, edL px 0 LL) else (1, [])
theorem tot_cons (c : List Pt) (r : List (List Pt)) : ∀ k, tot (c :: r) (k + 1) = c.length + tot r k
  | 0 => by show 0 + (ct (c :: r) 0).length = c.length + 0; rw [Nat.zero_add]; rfl
  | k + 1 => by
    show tot (c :: r) (k + 1) + (ct (c :: r) (k + 1)).length = c.length + (tot r k + (ct r k).length)
    rw [tot_cons c r k, Nat.add_assoc]
    rfl
theorem way_len (px : Int) (c : List Pt) : (way px c).length ≤ 2 * c.length := by
  unfold way
  have h := (wyR_len px (lstD (0, 0, false) c) c).2
  rw [List.length_append, List.length_drop, List.length_take]
  unfold way0
  omega
theorem cE_len (px k : Int) (c : List Pt) : (cE px c k).length ≤ 2 * c.length := by
  unfold cE
  refine Nat.le_trans (List.length_filter_le ..) ?_
  have h := eds_len k _ (way px c ++ (way px c).take 1) (Nat.le_refl _)
  have h2 := way_len px c
  rw [List.length_append, List.length_take] at h
  omega
theorem edL_len (px : Int) : ∀ (k : Int) (LL : List (List Pt)), (edL px k LL).length ≤ 2 * tot LL LL.length
  | _, [] => Nat.le_refl _
  | k, c :: r => by
    have h1 := cE_len px k c
    have h2 := edL_len px (k + 1) r
    show (cE px c k ++ edL px (k + 1) r).length ≤ 2 * tot (c :: r) (r.length + 1)
    rw [List.length_append, tot_cons]
    omega
theorem mem_way {px : Int} {c : List Pt} {x : Nod} (h : x ∈ way px c ++ (way px c).take 1) : x ∈ way0 px c := by
  have h1 : x ∈ way px c := by
    rcases List.mem_append.1 h with h | h
    · exact h
    · exact List.mem_of_mem_take h
  rcases List.mem_append.1 h1 with h | h
  · exact List.mem_of_mem_drop h
  · exact List.mem_of_mem_take h
theorem lstD_mem : ∀ (q : Pt) (X : List Pt), lstD q X = q ∨ lstD q X ∈ X
  | _, [] => .inl rfl
  | q, p :: r => by
    rcases lstD_mem p r with h | h
    · exact .inr (by show lstD p r ∈ p :: r; rw [h]; exact List.mem_cons_self ..)
    · exact .inr (List.mem_cons_of_mem _ h)
theorem cE_one {px : Int} (h1 : 1 ≤ px) (h2 : px ≤ 128) (k : Int) (c : List Pt) (hc : ∀ p ∈ c, okU p.1 ∧ okU p.2.1) : ∀ e ∈ cE px c k, oneE e := by
  intro e he
  unfold cE at he
  obtain ⟨he, hs⟩ := List.mem_filter.1 he
  have hf : ∀ x ∈ way px c ++ (way px c).take 1, fiP x.1 := fun x hx => by
    refine wyR_fine h1 h2 _ c ?_ hc x (mem_way hx)
    rcases lstD_mem (0, 0, false) c with h | h
    · rw [h]; exact ⟨⟨by decide, by decide⟩, by decide, by decide⟩
    · exact hc _ h
  obtain ⟨a1, a2, a3, a4⟩ := eds_mem k fiP ⟨⟨by decide, by decide⟩, by decide, by decide⟩ _ _ (Nat.le_refl _) hf e he
  exact ⟨a1, a2, a3, by simpa using hs, a4⟩
theorem edL_one {px : Int} (h1 : 1 ≤ px) (h2 : px ≤ 128) : ∀ (k : Int) (LL : List (List Pt)), (∀ c ∈ LL, ∀ p ∈ c, okU p.1 ∧ okU p.2.1) → ∀ e ∈ edL px k LL, oneE e
  | _, [], _, e, h => by cases h
  | k, c :: r, hc, e, h => (List.mem_append.1 h).elim (cE_one h1 h2 k c (hc c (List.mem_cons_self ..)) e) (edL_one h1 h2 (k + 1) r (fun x hx => hc x (List.mem_cons_of_mem _ hx)) e)
theorem may_mem {LL : List (List Pt)} (h : MayG LL) : ∀ c ∈ LL, 1 ≤ c.length ∧ ∀ p ∈ c, okU p.1 ∧ okU p.2.1 := by
  intro c hc
  obtain ⟨i, hi, rfl⟩ := List.getElem_of_mem hc
  have h2 := h.2 i hi
  have e : ct LL i = LL[i] := by simp [ct, hi]
  unfold okC at h2
  rw [e] at h2
  refine ⟨h2.1.1, fun p hp => ?_⟩
  obtain ⟨j, hj, rfl⟩ := List.getElem_of_mem hp
  have h3 := h2.2 j hj
  unfold okP px py at h3
  rw [List.getD_eq_getElem?_getD, List.getElem?_eq_getElem hj] at h3
  exact h3
/-- Edges of outlines may be. -/
theorem EdP_may {LL : List (List Pt)} {px : Int} (h : (EdP LL px).1 = 0) : MayE (EdP LL px).2 := by
  unfold EdP at h ⊢
  by_cases hk : okEd LL px
  · rw [if_pos hk]
    have hm := may_mem hk.1
    refine ⟨?_, fun i hi => ?_, edL_closed px LL fun c hc => (hm c hc).1⟩
    · have h1 := edL_len px 0 LL
      have h2 : tot LL LL.length ≤ 4096 := by
        rcases Nat.eq_zero_or_pos LL.length with h0 | h0
        · rw [h0]; exact Nat.zero_le _
        · have := (hk.1.2 (LL.length - 1) (by omega)).1.2
          rw [Nat.sub_add_cancel h0] at this
          exact this
      show (edL px 0 LL).length ≤ 8192
      omega
    · have hi : i < (edL px 0 LL).length := hi
      have e : eg (edL px 0 LL) i = (edL px 0 LL)[i] := by simp [eg, hi]
      show oneE (eg (edL px 0 LL) i)
      rw [e]
      exact edL_one hk.2.1 hk.2.2 0 LL (fun c hc => (hm c hc).2) _ (List.getElem_mem hi)
  · rw [if_neg hk] at h; exact absurd h (by decide)
end Go.Proofs.Ytnnanlilnlimaaa
