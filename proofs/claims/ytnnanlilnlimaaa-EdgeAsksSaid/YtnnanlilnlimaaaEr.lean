/- Proved here (plain): what the law EdgeTurned asks of a contour. No condition. -/
import Derived.Test.YtnnanlilnlimaaaEp
namespace Go.Proofs.Ytnnanlilnlimaaa
open Go.RowKit

theorem Turn.len {a b : List Edg} (h : Turn a b) : a.length = b.length := by
  obtain ⟨X, Y, rfl, rfl⟩ := h
  rw [List.length_append, List.length_append, Nat.add_comm]
/-- The place at which it is turned. -/
theorem Turn.at_ {a b : List Edg} (h : Turn a b) : a = [] ∨ ∃ k, k < a.length ∧ a.drop k ++ a.take k = b := by
  obtain ⟨X, Y, rfl, rfl⟩ := h
  match Y with
  | [] =>
    match X with
    | [] => exact .inl rfl
    | x :: X => exact .inr ⟨0, by simp, by simp⟩
  | y :: Y => exact .inr ⟨X.length, by simp, by rw [List.drop_left, List.take_left]⟩
theorem mayG_one (c : List Pt) : MayG [c] ↔ (1 ≤ c.length ∧ c.length ≤ 4096) ∧ ∀ p ∈ c, okU p.1 ∧ okU p.2.1 := by
  refine ⟨fun h => ?_, fun h => ⟨by simp, fun i hi => ?_⟩⟩
  · have h1 := may_mem h c (List.mem_cons_self ..)
    have h2 := (h.2 0 (by simp)).1.2
    have e : tot [c] 1 = c.length := by show 0 + (ct [c] 0).length = c.length; rw [Nat.zero_add]; rfl
    rw [e] at h2
    exact ⟨⟨h1.1, h2⟩, h1.2⟩
  · obtain rfl : i = 0 := by simp at hi; omega
    have e : tot [c] 1 = c.length := by show 0 + (ct [c] 0).length = c.length; rw [Nat.zero_add]; rfl
    refine ⟨⟨h.1.1, by rw [e]; exact h.1.2⟩, fun j hj => ?_⟩
    have hj : j < c.length := hj
    have h3 := h.2 c[j] (List.getElem_mem hj)
    show okU (px c j) ∧ okU (py c j)
    unfold px py
    rw [List.getD_eq_getElem?_getD, List.getElem?_eq_getElem hj]
    exact h3
theorem mayG_turn {U V : List Pt} (h : MayG [U ++ V]) : MayG [V ++ U] := by
  rw [mayG_one] at h ⊢
  refine ⟨by have := h.1; rw [List.length_append] at *; omega, fun p hp => h.2 p ?_⟩
  rcases List.mem_append.1 hp with hp | hp
  · exact List.mem_append.2 (.inr hp)
  · exact List.mem_append.2 (.inl hp)
theorem EdP_one {c : List Pt} {px : Int} (h : MayG [c]) (h1 : 1 ≤ px) (h2 : px ≤ 128) : EdP [c] px = (0, cE px c 0) := by
  unfold EdP
  rw [if_pos ⟨h, h1, h2⟩]
  show (0, cE px c 0 ++ []) = _
  rw [List.append_nil]
/-- The edges of a contour, and of the same one that begins at another one of its points on the outline. -/
theorem edges_turn {c : List Pt} {a : Nat} (h : MayG [c]) (ha : a < c.length) (ho : (pq c a).2.2 = true) : ∃ E E', EdP [c] 3 = (0, E) ∧ EdP [c.drop a ++ c.take a] 3 = (0, E') ∧ Turn E E' ∧ MayG [c.drop a ++ c.take a] := by
  have e1 : c = c.take a ++ (pq c a :: c.drop (a + 1)) := by rw [← pq_drop c a ha, List.take_append_drop]
  have e2 : c.drop a ++ c.take a = pq c a :: c.drop (a + 1) ++ c.take a := by rw [pq_drop c a ha]
  have hm : MayG [c.drop a ++ c.take a] := mayG_turn (by rw [List.take_append_drop]; exact h)
  refine ⟨cE 3 c 0, cE 3 (c.drop a ++ c.take a) 0, EdP_one h (by decide) (by decide), EdP_one hm (by decide) (by decide), ?_, hm⟩
  have ht := cE_turn 3 0 (c.take a) (c.drop (a + 1)) (pq c a) ho
  rw [← e1, ← e2] at ht
  exact ht
end Go.Proofs.Ytnnanlilnlimaaa
