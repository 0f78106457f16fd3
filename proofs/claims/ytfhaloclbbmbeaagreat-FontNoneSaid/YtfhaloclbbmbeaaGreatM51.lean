/- Proved here: Proved here (plain): edges of outlines are closed, and may be. No condition · Proved here (plain): what Edges answers; edges of outlines may be. No condition · edges as they lie in memory; which points and edges may be (the document's fine, same, One); the points of an edge. Condition: edges that lie in memory · are edges closed (the document's Closed). Condition: edges that lie in memory · where a way begins (the document's begin). Condition: points that lie in memory · nodes of ways as they lie in memory; a way turned to another place (the document's turned). Condition: nodes in a row of their own · the way of a contour (the document's way). Condition: points that lie in memory, and may be. -/
import Derived.Test.YtfhaloclbbmbeaaGreatM50
import Derived.WalkKit
import Derived.WalkSpells
import Derived.WalkLawsBesides
import Derived.Deep.DeepFit
import Derived.Deep.QuietTactic
import Derived.BigQuiet
import Derived.Lib.Hide
import Derived.StillTailTactics
import Derived.Deep.RegionHeld3
import Derived.ChangeAlike
import Derived.RegionTactic
import Derived.IntWalk
import Derived.Laws.BitsAllLaws
import Derived.Laws.Bits64b
import Derived.Laws.IdiomStrings
import Derived.Deep.CutBlock
import Derived.Deep.CutRange
import Derived.Deep.DeepCutAuto
import Derived.LoadGo2
import Derived.Laws.OwnMore
import Derived.Deep.RegionLaw
namespace Go.Proofs.YtfhaloclbbmbeaaGreat
open Go.RowKit
def edL (px : Int) : Int → List (List Pt) → List Edg
  | _, [] => []
  | k, c :: r => cE px c k ++ edL px (k + 1) r
theorem way_head (px : Int) (c : List Pt) (h : 1 ≤ c.length) : ∃ z L, way px c = z :: L ∧ z.2 = true := by
  by_cases hc : ∃ p ∈ c, p.2.2 = true
  · obtain ⟨X, y, Z, rfl, hy, hX⟩ := first_on c hc
    rw [way_on px X Z y hy hX]
    obtain ⟨R, hR⟩ := wyR_head px (lstD (lstD y Z) X) y Z hy
    rw [hR]
    exact ⟨_, _, rfl, hy⟩
  · have hc2 : ∀ p ∈ c, p.2.2 = false := fun p hp => by
      cases h : p.2.2
      · rfl
      · exact absurd ⟨p, hp, h⟩ hc
    match c, h, hc2 with
    | p :: r, _, hc2 =>
      have hl : (lstD (0, 0, false) (p :: r)).2.2 = false := by
        have : ∀ (q : Pt) (X : List Pt), q.2.2 = false → (∀ p ∈ X, p.2.2 = false) → (lstD q X).2.2 = false := by
          intro q X
          induction X generalizing q with
          | nil => exact fun h _ => h
          | cons a X ih => exact fun _ h2 => ih a (h2 a (List.mem_cons_self ..)) fun x hx => h2 x (List.mem_cons_of_mem _ hx)
        exact this _ _ rfl hc2
      have hp := hc2 p (List.mem_cons_self ..)
      unfold way beg
      rw [bgR_off _ _ _ hc2]
      refine ⟨mdN px p (lstD (0, 0, false) (p :: r)), ndN px p :: wyR px p r, ?_, rfl⟩
      show (wyR px (lstD (0, 0, false) (p :: r)) (p :: r)).drop 0 ++ _ = _
      simp only [wyR, List.drop_zero, List.take_zero, List.append_nil]
      rw [if_pos ⟨hp, hl⟩]
      rfl
def fiP (p : P2) : Prop := (-33554432 ≤ p.1 ∧ p.1 ≤ 33554432) ∧ (-33554432 ≤ p.2 ∧ p.2 ≤ 33554432)
instance (p : P2) : Decidable (fiP p) := inferInstanceAs (Decidable (_ ∧ _))
def oneE (e : Edg) : Prop := fiP e.2.2.1 ∧ fiP e.2.2.2.1 ∧ fiP e.2.2.2.2 ∧ ¬ smE e ∧ (e.2.1 = true ∨ e.2.2.2.1 = (0, 0))
instance (e : Edg) : Decidable (oneE e) := inferInstanceAs (Decidable (_ ∧ _))
theorem mul_px {px s B : Int} (h1 : 1 ≤ px) (h2 : px ≤ 128) (h3 : -B ≤ s) (h4 : s ≤ B) (hB : 0 ≤ B) : -(128 * B) ≤ px * s ∧ px * s ≤ 128 * B := by
  have a1 : px * s ≤ px * B := Int.mul_le_mul_of_nonneg_left h4 (by omega)
  have a2 : px * B ≤ 128 * B := Int.mul_le_mul_of_nonneg_right h2 hB
  have a3 : px * -B ≤ px * s := Int.mul_le_mul_of_nonneg_left h3 (by omega)
  have a4 : px * -B = -(px * B) := Int.mul_neg ..
  omega
theorem eds_len (k : Int) : ∀ (n : Nat) (L : List Nod), L.length ≤ n → (eds k L).length ≤ L.length - 1
  | _, [], _ => by rw [eds]; exact Nat.zero_le _
  | _, [a], _ => by rw [eds]; exact Nat.zero_le _
  | _, [a, b], _ => by rw [eds_two]; by_cases hb : b.2 = true <;> simp [hb]
  | n + 1, a :: b :: d :: r, hl => by
    rw [eds_more]
    by_cases hb : b.2 = true
    · rw [if_pos hb]
      have := eds_len k n (b :: d :: r) (by simp at hl ⊢; omega)
      simp at this ⊢
      omega
    · rw [if_neg hb]
      have := eds_len k n (d :: r) (by simp at hl ⊢; omega)
      simp at this ⊢
      omega
  | 0, _ :: _ :: _ :: _, hl => absurd hl (by simp)
end Go.Proofs.YtfhaloclbbmbeaaGreat
namespace Go.Proofs.YtfhaloclbbmbeaaGreat
open Go.RowKit
def e0 : Edg := (0, false, (0, 0), (0, 0), (0, 0))
def eg (L : List Edg) (i : Nat) : Edg := L.getD i e0
namespace N16
def okEd (LL : List (List Pt)) (px : Int) : Prop := MayG LL ∧ 1 ≤ px ∧ px ≤ 128
instance (LL : List (List Pt)) (px : Int) : Decidable (okEd LL px) := inferInstanceAs (Decidable (_ ∧ _))
def EdP (LL : List (List Pt)) (px : Int) : Int × List Edg := if okEd LL px then (0, edL px 0 LL) else (1, [])
end N16
theorem way_len (px : Int) (c : List Pt) : (way px c).length ≤ 2 * c.length := by
  unfold way
  have h := (wyR_len px (lstD (0, 0, false) c) c).2
  rw [List.length_append, List.length_drop, List.length_take]
  unfold way0
  omega
theorem cE_len (px k : Int) (c : List Pt) : (cE px c k).length ≤ 2 * c.length := by
  unfold cE
  refine Nat.le_trans (List.length_filter_le ..) ?_
  have h := eds_len k _ (way px c ++ (way px c).take 1) (Nat.le_refl _)
  have h2 := way_len px c
  rw [List.length_append, List.length_take] at h
  omega
end Go.Proofs.YtfhaloclbbmbeaaGreat
namespace Go.Proofs.YtfhaloclbbmbeaaGreat
open Go.RowKit
def edC (e : Edg) : List Value := [.int .i64 e.1, .bool e.2.1, .int .i64 e.2.2.1.1, .int .i64 e.2.2.1.2, .int .i64 e.2.2.2.1.1, .int .i64 e.2.2.2.1.2, .int .i64 e.2.2.2.2.1, .int .i64 e.2.2.2.2.2]
structure Edl (w : World) (A : Option Addr) (m : Nat) (L : List Edg) : Prop where
  len : L.length = m
  get : ∀ i, i < m → ∃ ad, A = some ad ∧ ad.block < w.heap.size ∧ ∀ j u, (edC (eg L i))[j]? = some u → w.cell? (ad.add (i * 8 + j)) = some u
theorem Edl.nil (w : World) : Edl w none 0 [] := ⟨rfl, fun i hi => by omega⟩
theorem Edl.bel {w w' : World} {A : Option Addr} {m : Nat} {L : List Edg} (h : Edl w A m L) (hb : Below w.heap.size w w') : Edl w' A m L :=
  ⟨h.len, fun i hi => by
    obtain ⟨ad, h1, h2, h3⟩ := h.get i hi
    exact ⟨ad, h1, Nat.lt_of_lt_of_le h2 hb.size, fun j u hu => by rw [hb.cell (by rw [block_of_add]; exact h2)]; exact h3 j u hu⟩⟩
theorem add_nextk (a : Addr) (n k : Nat) (hk : 0 < k) : (⟨(a.add n).block, (a.add n).off + k, none⟩ : Addr) = a.add (n + k) := by
  unfold Addr.add
  have hnk : n + k ≠ 0 := by omega
  by_cases hn : n = 0
  · subst hn; simp [show k ≠ 0 by omega]
  · simp [hn]; omega
theorem Edl.at_ {w : World} {A : Option Addr} {m : Nat} {L : List Edg} (h : Edl w A m L) {W : World} (hb : Below w.heap.size w W) {i : Nat} (hi : i < m) :
    ∃ ad, A = some ad ∧ (W.cell? (ad.add (i * 8)) = some (.int .i64 (eg L i).1) ∧ W.cell? { block := (ad.add (i * 8)).block, off := (ad.add (i * 8)).off + 1 } = some (.bool (eg L i).2.1)
      ∧ W.cell? { block := (ad.add (i * 8)).block, off := (ad.add (i * 8)).off + 2 } = some (.int .i64 (eg L i).2.2.1.1) ∧ W.cell? { block := (ad.add (i * 8)).block, off := (ad.add (i * 8)).off + 3 } = some (.int .i64 (eg L i).2.2.1.2)
      ∧ W.cell? { block := (ad.add (i * 8)).block, off := (ad.add (i * 8)).off + 4 } = some (.int .i64 (eg L i).2.2.2.1.1) ∧ W.cell? { block := (ad.add (i * 8)).block, off := (ad.add (i * 8)).off + 5 } = some (.int .i64 (eg L i).2.2.2.1.2)
      ∧ W.cell? { block := (ad.add (i * 8)).block, off := (ad.add (i * 8)).off + 6 } = some (.int .i64 (eg L i).2.2.2.2.1) ∧ W.cell? { block := (ad.add (i * 8)).block, off := (ad.add (i * 8)).off + 7 } = some (.int .i64 (eg L i).2.2.2.2.2)) := by
  obtain ⟨ad, h1, h2, h3⟩ := (h.bel hb).get i hi
  refine ⟨ad, h1, by have := h3 0 _ rfl; simpa using this, ?_, ?_, ?_, ?_, ?_, ?_, ?_⟩
  · rw [add_nextk _ _ 1 (by decide)]; exact h3 1 _ rfl
  · rw [add_nextk _ _ 2 (by decide)]; exact h3 2 _ rfl
  · rw [add_nextk _ _ 3 (by decide)]; exact h3 3 _ rfl
  · rw [add_nextk _ _ 4 (by decide)]; exact h3 4 _ rfl
  · rw [add_nextk _ _ 5 (by decide)]; exact h3 5 _ rfl
  · rw [add_nextk _ _ 6 (by decide)]; exact h3 6 _ rfl
  · rw [add_nextk _ _ 7 (by decide)]; exact h3 7 _ rfl
def Ebx (w : World) (b : Nat) (e : Edg) : Prop := w.heap[b]? = some (.cells (edC e).toArray 129 (0, 0))
theorem Ebx.cells {w : World} {b : Nat} {e : Edg} (k : Ebx w b e) : w.cell? ⟨b, 0, none⟩ = some (.int .i64 e.1) ∧ w.cell? ⟨b, 1, none⟩ = some (.bool e.2.1) ∧ w.cell? ⟨b, 2, none⟩ = some (.int .i64 e.2.2.1.1) ∧ w.cell? ⟨b, 3, none⟩ = some (.int .i64 e.2.2.1.2)
    ∧ w.cell? ⟨b, 4, none⟩ = some (.int .i64 e.2.2.2.1.1) ∧ w.cell? ⟨b, 5, none⟩ = some (.int .i64 e.2.2.2.1.2) ∧ w.cell? ⟨b, 6, none⟩ = some (.int .i64 e.2.2.2.2.1) ∧ w.cell? ⟨b, 7, none⟩ = some (.int .i64 e.2.2.2.2.2) :=
  ⟨cell_of_row w b 0 _ 129 (0, 0) k, cell_of_row w b 1 _ 129 (0, 0) k, cell_of_row w b 2 _ 129 (0, 0) k, cell_of_row w b 3 _ 129 (0, 0) k, cell_of_row w b 4 _ 129 (0, 0) k, cell_of_row w b 5 _ 129 (0, 0) k, cell_of_row w b 6 _ 129 (0, 0) k, cell_of_row w b 7 _ 129 (0, 0) k⟩
theorem Ebx.bel {w w' : World} {b : Nat} {e : Edg} (k : Ebx w b e) (hb : Below w.heap.size w w') : Ebx w' b e := (hb.block b (heap_lt k)).trans k
theorem Ebx.new (w : World) (e : Edg) : Ebx (w.alloc (.cells (edC e).toArray 129)) w.heap.size e := heap_alloc_new w _
end Go.Proofs.YtfhaloclbbmbeaaGreat
namespace Go.Proofs.YtfhaloclbbmbeaaGreat
open Go.RowKit
theorem Edl.next {w : World} {a : Addr} {m : Nat} {L : List Edg} (h : Edl w (some a) m L) {W : World} (hb : Below w.heap.size w W) {k : Nat} (hk : k + 1 < m) :
    W.cell? { block := a.block, off := a.off + (k + 1) * 8 } = some (.int .i64 (eg L (k + 1)).1) ∧ W.cell? { block := a.block, off := a.off + (k + 1) * 8 + 2 } = some (.int .i64 (eg L (k + 1)).2.2.1.1) ∧ W.cell? { block := a.block, off := a.off + (k + 1) * 8 + 3 } = some (.int .i64 (eg L (k + 1)).2.2.1.2) := by
  obtain ⟨ad, h1, h2, h3⟩ := (h.bel hb).get (k + 1) hk
  injection h1 with h1
  subst h1
  have ha : ∀ n, n ≠ 0 → (a.add n) = ⟨a.block, a.off + n, none⟩ := fun n hn => by unfold Addr.add; rw [if_neg hn]
  refine ⟨?_, ?_, ?_⟩
  · have := h3 0 _ rfl; rw [Nat.add_zero, ha _ (by omega)] at this; exact this
  · have := h3 2 _ rfl; rw [ha _ (by omega), ← Nat.add_assoc] at this; exact this
  · have := h3 3 _ rfl; rw [ha _ (by omega), ← Nat.add_assoc] at this; exact this
end Go.Proofs.YtfhaloclbbmbeaaGreat
namespace Go.Proofs.YtfhaloclbbmbeaaGreat
open Go.RowKit
def pq (L : List Pt) (i : Nat) : Pt := L.getD i (0, 0, false)
theorem pq_drop (L : List Pt) (k : Nat) (h : k < L.length) : L.drop k = pq L k :: L.drop (k + 1) := by
  rw [List.drop_eq_getElem_cons h]
  congr 1
  simp [pq, h]
theorem lstD_take : ∀ (q : Pt) (c : List Pt) (i : Nat), i < c.length → lstD q (c.take (i + 1)) = pq c i
  | _, [], i, h => absurd h (by simp)
  | _, p :: r, 0, _ => rfl
  | q, p :: r, i + 1, h => by
    show lstD p (r.take (i + 1)) = pq r i
    exact lstD_take p r i (by simp at h; omega)
def prv (c : List Pt) (k : Nat) : Pt := lstD (lstD (0, 0, false) c) (c.take k)
theorem prv_eq (c : List Pt) (k : Nat) (h : k < c.length) : prv c k = pq c ((k + c.length - 1) % c.length) := by
  unfold prv
  cases k with
  | zero =>
    have e : lstD (0, 0, false) c = pq c (c.length - 1) := by
      have := lstD_take (0, 0, false) c (c.length - 1) (by omega)
      rw [Nat.sub_add_cancel (by omega), List.take_length] at this
      exact this
    rw [List.take_zero, Nat.zero_add, Nat.mod_eq_of_lt (by omega)]
    exact e
  | succ i =>
    rw [lstD_take _ c i (by omega), show i + 1 + c.length - 1 = i + c.length by omega, Nat.add_mod_right, Nat.mod_eq_of_lt (by omega)]
end Go.Proofs.YtfhaloclbbmbeaaGreat
namespace Go.Proofs.YtfhaloclbbmbeaaGreat
open Go.RowKit
theorem cell_lt2 {w : World} {a : Addr} {v : Value} (h : w.cell? a = some v) : a.block < w.heap.size := World.block_lt_of_cell? w a h
theorem Tryz.info43z : (Tryz.prog.info? 129).map (fun i => (i.zero, i.size, i.bytes)) = some (some (.agg #[.int .i64 0, .bool false, .int .i64 0, .int .i64 0, .int .i64 0, .int .i64 0, .int .i64 0, .int .i64 0]), 8, 64) := by kernel_rfl
def ndC (l : List Nod) : List Value := l.flatMap fun x => [.int .i64 x.1.1, .int .i64 x.1.2, .bool x.2]
theorem ndC_app (a b : List Nod) : ndC (a ++ b) = ndC a ++ ndC b := by simp [ndC]
theorem add_z (g j : Nat) : (⟨g, 0, none⟩ : Addr).add j = ⟨g, j, none⟩ := by unfold Addr.add; split <;> simp_all
namespace N16
theorem own_some {W : World} {base e size n c : Nat} {A : Option Addr} {xs : List Value} (h : W.ownsRow base e size (.slice A n c) n xs) (hn : 0 < n) : ∃ b, A = some ⟨b, 0, none⟩ ∧ n ≤ c := by
  rcases h.2 with ⟨h1, h2⟩ | ⟨g, cap, cur, h1, _, _, h4, _⟩
  · omega
  · injection h1 with h1 _ h3; exact ⟨g, h1, by omega⟩
end N16
end Go.Proofs.YtfhaloclbbmbeaaGreat
namespace Go.Proofs.YtfhaloclbbmbeaaGreat
open Go.RowKit
theorem Ppt.new (W : World) (p : Pt) : (W.alloc (.cells #[.int .i64 p.1, .int .i64 p.2.1, .bool p.2.2] 75)).heap[W.heap.size]? = some (.cells #[.int .i64 p.1, .int .i64 p.2.1, .bool p.2.2] 75 (0, 0)) := heap_alloc_new W _
def Ppt (W : World) (b : Nat) (p : Pt) : Prop := W.heap[b]? = some (.cells #[.int .i64 p.1, .int .i64 p.2.1, .bool p.2.2] 75 (0, 0))
theorem Ppt.cells {W : World} {b : Nat} {p : Pt} (h : Ppt W b p) : W.cell? ⟨b, 0, none⟩ = some (.int .i64 p.1) ∧ W.cell? ⟨b, 1, none⟩ = some (.int .i64 p.2.1) ∧ W.cell? ⟨b, 2, none⟩ = some (.bool p.2.2) :=
  ⟨cell_of_row W b 0 _ 75 (0, 0) h, cell_of_row W b 1 _ 75 (0, 0) h, cell_of_row W b 2 _ 75 (0, 0) h⟩
theorem Ppt.bel {W W' : World} {b : Nat} {p : Pt} (h : Ppt W b p) (hb : Below W.heap.size W W') : Ppt W' b p := (hb.block b (heap_lt h)).trans h
theorem Ppt.grown {W W' : World} {b : Nat} {p : Pt} (h : Ppt W b p) {base n : Nat} {v : Value} {xs : List Value} (ho : W.ownsRow base 204 3 v n xs) (hg : W.grownBy W' v.ownBlock) : Ppt W' b p := (hg.block b (heap_lt h) (own_not ho h (by decide))).trans h
theorem wyR_snoc (px : Int) (L : List Pt) (k : Nat) (h : k < L.length) : wyR px (lstD (0, 0, false) L) (L.take (k + 1)) = wyR px (lstD (0, 0, false) L) (L.take k) ++ ((if (pq L k).2.2 = false ∧ (prv L k).2.2 = false then [mdN px (pq L k) (prv L k)] else []) ++ [ndN px (pq L k)]) := by
  have e : L.take (k + 1) = L.take k ++ [pq L k] := by
    rw [List.take_add_one, List.getElem?_eq_getElem h]
    simp [pq, h]
  rw [e, wyR_app]
  rfl
end Go.Proofs.YtfhaloclbbmbeaaGreat
namespace Go.Proofs.YtfhaloclbbmbeaaGreat
open Go.RowKit
def egC (L : List Edg) : List Value := L.flatMap edC
theorem egC_app (a b : List Edg) : egC (a ++ b) = egC a ++ egC b := by simp [egC]
theorem egC_len : ∀ l : List Edg, (egC l).length = l.length * 8
  | [] => rfl
  | x :: l => by
    have ih := egC_len l
    have e : egC (x :: l) = edC x ++ egC l := rfl
    rw [e, List.length_append, ih, List.length_cons]
    show 8 + _ = _
    omega
theorem edC_one (e : Edg) : ∀ u ∈ edC e, u.oneCell' = true := by
  intro u hu
  unfold edC at hu
  simp at hu
  rcases hu with rfl | rfl | rfl | rfl | rfl | rfl | rfl | rfl <;> rfl
theorem egC_one (L : List Edg) : ∀ u ∈ egC L, u.oneCell' = true := by
  intro u hu
  simp only [egC, List.mem_flatMap] at hu
  obtain ⟨e, _, h⟩ := hu
  exact edC_one e u h
theorem own_box {W W1 W' : World} {base e size n b : Nat} {v : Value} {xs : List Value} (h : W.ownsRow base e size v n xs) (hb : Below W.heap.size W W1) (ho : Onl b W1 W') (hw : W.heap.size ≤ b) : W'.ownsRow base e size v n xs := by
  refine ⟨h.1, ?_⟩
  rcases h.2 with h0 | ⟨j, cap, cur, hv, hj, hh, rest⟩
  · exact .inl h0
  · have hl := heap_lt hh
    exact .inr ⟨j, cap, cur, hv, hj, (ho.block j (Nat.lt_of_lt_of_le hl hb.size) (by omega)).trans ((hb.block j hl).trans hh), rest⟩
def nq (l : List Nod) (i : Nat) : Nod := l.getD i ((0, 0), false)
theorem nq_drop (l : List Nod) (k : Nat) (h : k < l.length) : l.drop k = nq l k :: l.drop (k + 1) := by
  rw [List.drop_eq_getElem_cons h]
  congr 1
  simp [nq, h]
theorem ndC_get : ∀ (l : List Nod) (i : Nat), i < l.length → (ndC l)[i * 3]? = some (.int .i64 (nq l i).1.1) ∧ (ndC l)[i * 3 + 1]? = some (.int .i64 (nq l i).1.2) ∧ (ndC l)[i * 3 + 2]? = some (.bool (nq l i).2)
  | t :: L, 0, _ => ⟨rfl, rfl, rfl⟩
  | t :: L, i + 1, h => by
    have ih := ndC_get L i (by simp at h; omega)
    have e : ndC (t :: L) = .int .i64 t.1.1 :: .int .i64 t.1.2 :: .bool t.2 :: ndC L := rfl
    rw [e, show (i + 1) * 3 = i * 3 + 3 by omega]
    exact ih
theorem Ebx.fr {W : World} {b : Nat} {e : Edg} (h : Ebx W b e) (j : Nat) : W.frozen? ⟨b, j, none⟩ = false := by unfold Ebx at h; simp [World.frozen?, h]
theorem fil_yes {e : Edg} {r : List Edg} (h : ¬ smE e) : (e :: r).filter (fun e => decide (¬ smE e)) = e :: r.filter (fun e => decide (¬ smE e)) := List.filter_cons_of_pos (by simpa using h)
theorem fil_no {e : Edg} {r : List Edg} (h : smE e) : (e :: r).filter (fun e => decide (¬ smE e)) = r.filter (fun e => decide (¬ smE e)) := List.filter_cons_of_neg (by simpa using h)
end Go.Proofs.YtfhaloclbbmbeaaGreat
namespace Go.Proofs.YtfhaloclbbmbeaaGreat
open Go.RowKit
theorem egC_get : ∀ (L : List Edg) (i : Nat), i < L.length → ∀ j, j < 8 → (egC L)[i * 8 + j]? = (edC (eg L i))[j]?
  | t :: L, 0, _, j, hj => by
    show (edC t ++ egC L)[0 * 8 + j]? = (edC t)[j]?
    rw [Nat.zero_mul, Nat.zero_add, List.getElem?_append_left hj]
  | t :: L, i + 1, h, j, hj => by
    show (edC t ++ egC L)[(i + 1) * 8 + j]? = (edC (eg L i))[j]?
    have e8 : (edC t).length = 8 := rfl
    rw [List.getElem?_append_right (by rw [e8]; omega), e8, show (i + 1) * 8 + j - 8 = i * 8 + j by omega]
    exact egC_get L i (by simp at h; omega) j hj
theorem own_edl {W : World} {base n c : Nat} {A : Option Addr} {L : List Edg} (h : W.ownsRow base 129 8 (.slice A n c) n (egC L)) (hl : L.length = n) : Edl W A n L := by
  refine ⟨hl, fun i hi => ?_⟩
  obtain ⟨ad, h1, h2, h3⟩ := own_cell h (by omega)
  refine ⟨ad, h1, h2, fun j u hu => ?_⟩
  have hj : j < 8 := by
    rcases Nat.lt_or_ge j 8 with h | h
    · exact h
    · rw [List.getElem?_eq_none (by show 8 ≤ j; exact h)] at hu; cases hu
  exact h3 _ _ ((egC_get L i (by omega) j hj).trans hu)
theorem ct_drop (LL : List (List Pt)) (k : Nat) (h : k < LL.length) : LL.drop k = ct LL k :: LL.drop (k + 1) := by
  rw [List.drop_eq_getElem_cons h]
  congr 1
  simp [ct, h]
end Go.Proofs.YtfhaloclbbmbeaaGreat
namespace Go.Proofs.YtfhaloclbbmbeaaGreat
open Go.RowKit
theorem size_a (w : World) (o : Obj) : (w.alloc o).heap.size = w.heap.size + 1 := by simp
end Go.Proofs.YtfhaloclbbmbeaaGreat
namespace Go.Proofs.YtfhaloclbbmbeaaGreat
open Go.RowKit
theorem below_st2 {B : Nat} {w W : World} {g j : Nat} {u : Value} (h : Below B w W) (hg : B ≤ g) : Below B w (W.setCell ⟨g, j, none⟩ u) := h.setCell (p := ⟨g, j, none⟩) hg u
def Pbx (W : World) (b : Nat) (p : P2) : Prop := W.heap[b]? = some (.cells #[.int .i64 p.1, .int .i64 p.2] 127 (0, 0))
section
variable {W W' : World} {b : Nat} {p : P2}
theorem Pbx.bel (h : Pbx W b p) (hb : Below W.heap.size W W') : Pbx W' b p := (hb.block b (heap_lt h)).trans h
theorem Pbx.cells (h : Pbx W b p) : W.cell? ⟨b, 0, none⟩ = some (.int .i64 p.1) ∧ W.cell? ⟨b, 1, none⟩ = some (.int .i64 p.2) ∧ W.frozen? ⟨b, 0, none⟩ = false ∧ W.frozen? ⟨b, 1, none⟩ = false :=
  ⟨cell_of_row W b 0 _ 127 (0, 0) h, cell_of_row W b 1 _ 127 (0, 0) h, by unfold Pbx at h; simp [World.frozen?, h], by unfold Pbx at h; simp [World.frozen?, h]⟩
theorem Pbx.set (h : Pbx W b p) (q : P2) : Pbx ((W.setCell ⟨b, 0, none⟩ (.int .i64 q.1)).setCell ⟨b, 1, none⟩ (.int .i64 q.2)) b q := by
  unfold Pbx at h ⊢
  simp [World.setCell, Array.getElem?_modify, h]
theorem Pbx.new (W : World) (p : P2) : Pbx (W.alloc (.cells #[.int .i64 p.1, .int .i64 p.2] 127)) W.heap.size p := heap_alloc_new W _
end
end Go.Proofs.YtfhaloclbbmbeaaGreat
namespace Go.Proofs.YtfhaloclbbmbeaaGreat
open Go.RowKit
theorem ret_pt {fn : Func} {q : Tmp} {tmps : Array Value} {W : World} {g : Nat} {a : P2} (hf : fn.results = #[.cell q 127]) (hq : tmps.getD q undef = .pointer (some ⟨g, 0, none⟩)) (ha : Pbx W g a) :
    (results fn tmps).run Tryz.prog W = .ok (.agg #[.int .i64 a.1, .int .i64 a.2]) W := by
  obtain ⟨c0, c1, _, _⟩ := ha.cells
  rw [Array.getD_eq_getD_getElem?] at hq
  simp [results, hf, hq, go_sem, c0, c1]
theorem mul_px2 {x y px : Int} (h1 : 1 ≤ px) (h2 : px ≤ 128) (hx : okU x) (hy : okU y) : -(128 * 65534) ≤ (x + y) * px ∧ (x + y) * px ≤ 128 * 65534 := by
  have := mul_px (px := px) (s := x + y) (B := 65534) h1 h2 (by have := hx.1; have := hy.1; omega) (by have := hx.2; have := hy.2; omega) (by decide)
  rw [Int.mul_comm (x + y) px]
  exact this
set_option maxHeartbeats 4000000 in
set_option maxRecDepth 100000 in
theorem middle_any (ax ay bx by_ px : Int) (ao bo : Bool) (w : World) (hp : 1 ≤ px ∧ px ≤ 128) (h1 : okU ax) (h2 : okU ay) (h3 : okU bx) (h4 : okU by_) :
    Calls Tryz.prog 196 #[.agg #[.int .i64 ax, .int .i64 ay, .bool ao], .agg #[.int .i64 bx, .int .i64 by_, .bool bo], .int .i64 px] w fun e w' => e = .returned (.agg #[.int .i64 ((ax + bx) * px), .int .i64 ((ay + by_) * px)]) ∧ Below w.heap.size w w' := by
  have m1 := mul_px2 hp.1 hp.2 h1 h3
  have m2 := mul_px2 hp.1 hp.2 h2 h4
  obtain ⟨h11, h12⟩ := h1
  obtain ⟨h21, h22⟩ := h2
  obtain ⟨h31, h32⟩ := h3
  obtain ⟨h41, h42⟩ := h4
  have v1 : IntKind.i64.wrap (ax + bx) = ax + bx := i64_in _ (by omega)
  have v2 : IntKind.i64.wrap (ay + by_) = ay + by_ := i64_in _ (by omega)
  have v3 : IntKind.i64.wrap ((ax + bx) * px) = (ax + bx) * px := i64_in _ (by omega)
  have v4 : IntKind.i64.wrap ((ay + by_) * px) = (ay + by_) * px := i64_in _ (by omega)
  have hA1 : Below w.heap.size w (w.alloc (.cells #[.int .i64 ax, .int .i64 ay, .bool ao] 75)) := (Below.refl _ _).alloc (Nat.le_refl _) _
  have hA2 : Below w.heap.size w ((w.alloc (.cells #[.int .i64 ax, .int .i64 ay, .bool ao] 75)).alloc (.cells #[.int .i64 bx, .int .i64 by_, .bool bo] 75)) := hA1.alloc (by simp) _
  have hA3 : Below w.heap.size w (((w.alloc (.cells #[.int .i64 ax, .int .i64 ay, .bool ao] 75)).alloc (.cells #[.int .i64 bx, .int .i64 by_, .bool bo] 75)).alloc (.cells #[.int .i64 0, .int .i64 0] 127)) := hA2.alloc (by simp; omega) _
  obtain ⟨W2, hW2⟩ : ∃ W, W = (w.alloc (.cells #[.int .i64 ax, .int .i64 ay, .bool ao] 75)).alloc (.cells #[.int .i64 bx, .int .i64 by_, .bool bo] 75) := ⟨_, rfl⟩
  have hs2 : W2.heap.size = w.heap.size + 1 + 1 := by rw [hW2]; simp
  have hP2 : Ppt W2 w.heap.size (ax, ay, ao) := by rw [hW2]; exact Ppt.bel (Ppt.new w (ax, ay, ao)) ((Below.refl _ _).alloc (Nat.le_refl _) _)
  have hQ2 : Ppt W2 (w.heap.size + 1) (bx, by_, bo) := by
    have := Ppt.new (w.alloc (.cells #[.int .i64 ax, .int .i64 ay, .bool ao] 75)) (bx, by_, bo)
    rw [hW2]
    unfold Ppt
    simpa using this
  have hA : Below W2.heap.size W2 (W2.alloc (.cells #[.int .i64 0, .int .i64 0] 127)) := (Below.refl _ _).alloc (Nat.le_refl _) _
  have HM := Lib.hid (And.intro (hP2.bel hA) (hQ2.bel hA))
  have HR := Lib.hid (show Pbx (W2.alloc (.cells #[.int .i64 0, .int .i64 0] 127)) (w.heap.size + 1 + 1) (0, 0) from by have := Pbx.new W2 (0, 0); rw [hs2] at this; exact this)
  rw [← hW2] at hA3
  have HA3 := Lib.hid hA3
  have HW := Lib.hid hW2
  clear hA1 hA2 hA3 hW2 hs2 hP2 hQ2 hA m1 m2
  go_enter Tryz.func196, Tryz.ntmps196
  go_upto_region 1 with fail
  rw [← HW.out]
  obtain ⟨W3, hW3⟩ : ∃ W, W = W2.alloc (.cells #[.int .i64 0, .int .i64 0] 127) := ⟨_, rfl⟩
  rw [← hW3] at HM HR HA3 ⊢
  obtain ⟨c0, c1, c2⟩ := HM.out.1.cells
  obtain ⟨d0, d1, d2⟩ := HM.out.2.cells
  obtain ⟨y0, y1, y2, y3⟩ := HR.out.cells
  dsimp only at c0 c1 c2 d0 d1 d2 y0 y1
  clear hW3
  go_wp2_with fail
  have hR := HR.out.set ((ax + bx) * px, (ay + by_) * px)
  have hb := below_st2 (below_st2 HA3.out (g := w.heap.size + 1 + 1) (j := 0) (u := .int .i64 ((ax + bx) * px)) (by omega)) (g := w.heap.size + 1 + 1) (j := 1) (u := .int .i64 ((ay + by_) * px)) (by omega)
  exact bodyPost_ret (ret_pt rfl rfl hR) rfl ⟨rfl, hb⟩
set_option maxHeartbeats 4000000 in
theorem isOn_any (x y : Int) (o : Bool) (w : World) : Calls Tryz.prog 195 #[.agg #[.int .i64 x, .int .i64 y, .bool o]] w fun e w' => e = .returned (.bool o) ∧ Below w.heap.size w w' := by
  obtain ⟨c0, c1, c2⟩ := Ppt.cells (show Ppt (w.alloc (.cells #[.int .i64 x, .int .i64 y, .bool o] 75)) w.heap.size (x, y, o) from Ppt.new w (x, y, o))
  have HA := Lib.hid (show Below w.heap.size w (w.alloc (.cells #[.int .i64 x, .int .i64 y, .bool o] 75)) from (Below.refl _ _).alloc (Nat.le_refl _) _)
  dsimp only at c0 c1 c2
  go_enter Tryz.func195, Tryz.ntmps195
  go_wp2_with fail
  go_ret
  exact ⟨rfl, HA.out⟩
def FstI (L : List Pt) (z : Int) : Prop := (∃ k : Nat, k < L.length ∧ z = (k : Int) ∧ po L k = true ∧ ∀ i, i < k → po L i = false) ∨ (z = -1 ∧ ∀ i, i < L.length → po L i = false)
namespace N16
set_option maxHeartbeats 4000000 in
set_option maxRecDepth 100000 in
theorem index_any (A : Option Addr) (m c : Nat) (L : List Pt) (w : World) (hL : Ptl w A m L) (hm : m ≤ 100000) :
    Calls Tryz.prog 194 #[.slice A m c, .func (.func 195) #[] #[]] w fun e w' => ∃ z, e = .returned (.int .i64 z) ∧ FstI L z ∧ Below w.heap.size w w' := by
  have HLen := Lib.hid hL.len
  have HL := Lib.hid hL
  clear hL
  go_enter Tryz.func194, Tryz.ntmps194
  go_wp2_with fail
  go_loopw [8] (fun i wr => ∃ k : Nat, i = .int .i64 (k : Int) ∧ k ≤ m ∧ (∀ i, i < k → po L i = false) ∧ Below w.heap.size w wr) (fun i _ => m - (intOf i).toNat)
  case atStart => exact ⟨0, rfl, Nat.zero_le _, fun i hi => by omega, Below.refl _ _⟩
  case round =>
    obtain ⟨k, rfl, hk, hok, hb⟩ := hrel
    have HB := Lib.hid hb
    have HOK := Lib.hid hok
    by_cases hgo : k < m
    · obtain ⟨ad, hA, c0, c1, c2⟩ := HL.out.at_ hb hgo
      subst hA
      have CO := Lib.hid (isOn_any (px L k) (py L k) (po L k) wr)
      obtain ⟨o, ho⟩ : ∃ o, o = po L k := ⟨_, rfl⟩
      rw [← ho] at CO c2
      have HO := Lib.hid ho
      clear hok hb ho
      cases o with
      | true =>
        go_wp2_with (go_at_call 195; (with_reducible refine CO.out.mono ?_); rintro e w1 ⟨rfl, hb⟩; have HB1 := Lib.hid (HB.out.trans (hb.mono HB.out.size)); clear hb)
        go_ret
        exact ⟨_, rfl, .inl ⟨k, by rw [HLen.out]; exact hgo, rfl, HO.out.symm, HOK.out⟩, HB1.out⟩
      | false =>
        go_wp2_with (go_at_call 195; (with_reducible refine CO.out.mono ?_); rintro e w1 ⟨rfl, hb⟩; have HB1 := Lib.hid (HB.out.trans (hb.mono HB.out.size)); clear hb)
        exact ⟨⟨k + 1, by simp, by omega, all_succ HOK.out HO.out.symm, HB1.out⟩, by simp [intOf]; omega⟩
    · obtain rfl : k = m := by omega
      clear hok hb
      go_wp2_with fail
      go_ret
      exact ⟨_, rfl, .inr ⟨rfl, fun i hi => HOK.out i (by rw [HLen.out] at hi; exact hi)⟩, HB.out⟩
end N16
end Go.Proofs.YtfhaloclbbmbeaaGreat
