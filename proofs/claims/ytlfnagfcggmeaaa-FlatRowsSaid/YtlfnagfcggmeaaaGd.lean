/- Proved here: rows of glyphs as the law makes them in memory. No condition. -/
import Derived.Test.YtlfnagfcggmeaaaFE
import Derived.Test.YtlfnagfcggmeaaaFD
namespace Go.Proofs.Ytlfnagfcggmeaaa
open Go.RowKit

/-- A row of glyphs: glyph i + 1 has the glyph G i as a part, moved by D i. -/
def rowL (G : Nat → Int) (D : Nat → Int × Int) (k : Nat) : List Shp := ([[(3, 4, true)]], []) :: (List.range k).map fun i => ([], [prR (G i) (D i)])
theorem rowL_len (G : Nat → Int) (D : Nat → Int × Int) (k : Nat) : (rowL G D k).length = k + 1 := by simp [rowL]
theorem rowL_zero (G : Nat → Int) (D : Nat → Int × Int) (k : Nat) : sh (rowL G D k) 0 = ([[(3, 4, true)]], []) := rfl
theorem rowL_get {G : Nat → Int} {D : Nat → Int × Int} {k i : Nat} (h : i < k) : sh (rowL G D k) (i + 1) = ([], [prR (G i) (D i)]) := by
  simp [sh, rowL, h]
theorem rowL_row {D : Nat → Int × Int} {k : Nat} {back : Int} {G : Nat → Int} (hG0 : 0 < k → G 0 = back) (hG : ∀ i, 1 ≤ i → G i = (i : Int)) (hD : DOk D) : RowS (rowL G D k) k D back :=
  ⟨rowL_len _ _ _, rowL_zero _ _ _, fun h => by rw [rowL_get h, hG0 h], fun i h1 h2 => by rw [rowL_get h2, hG i h1], hD⟩
def prO (q : C.Prt) : Obj := .cells #[.int .i64 q.1, .int .i64 q.2.1, .int .i64 q.2.2.1, .int .i64 q.2.2.2.1, .int .i64 q.2.2.2.2.1, .int .i64 q.2.2.2.2.2.1, .int .i64 q.2.2.2.2.2.2] 54
/-- While the row is made, and behind that. -/
structure RoW (w W : World) (v : Value) (k : Nat) (G : Nat → Int) (D : Nat → Int × Int) (cs : List Value) (g : Nat → Nat) (c0 c1 : Nat) : Prop where
  bel : Below w.heap.size w W
  own : W.ownsRow w.heap.size 50 2 v (k + 1) cs
  z0 : cs[0]? = some (.slice (some ⟨c1, 0, none⟩) 1 1)
  z1 : cs[1]? = some (.slice none 0 0)
  h0 : W.heap[c0]? = some (.cells #[.int .i64 3, .int .i64 4, .bool true] 46 (0, 0))
  h1 : W.heap[c1]? = some (.cells #[.slice (some ⟨c0, 0, none⟩) 1 1] 47 (0, 0))
  get : ∀ i, i < k → cs[(i + 1) * 2]? = some (.slice none 0 0) ∧ cs[(i + 1) * 2 + 1]? = some (.slice (some ⟨g i, 0, none⟩) 1 1) ∧ W.heap[g i]? = some (.cells #[.int .i64 (G i), .int .i64 (D i).1, .int .i64 (D i).2, .int .i64 16384, .int .i64 0, .int .i64 0, .int .i64 16384] 54 (0, 0))
  mono : ∀ i j, i < j → j < k → g i < g j
  base : ∀ i, i < k → w.heap.size ≤ g i
section
variable {w W W' : World} {v : Value} {k : Nat} {G : Nat → Int} {D : Nat → Int × Int} {cs : List Value} {g : Nat → Nat} {c0 c1 : Nat}
theorem RoW.next (h : RoW w W v k G D cs g c0 c1) (hb : Below W.heap.size W W') : RoW w W' v k G D cs g c0 c1 :=
  ⟨h.bel.trans (hb.mono h.bel.size), own_bel h.own hb, h.z0, h.z1, (hb.block _ (heap_lt h.h0)).trans h.h0, (hb.block _ (heap_lt h.h1)).trans h.h1, fun i hi => by
    obtain ⟨e1, e2, e3⟩ := h.get i hi
    exact ⟨e1, e2, (hb.block _ (heap_lt e3)).trans e3⟩, h.mono, h.base⟩
theorem RoW.push (h : RoW w W v k G D cs g c0 c1) {v' : Value} {p : Nat} (hp : W.heap[p]? = some (.cells #[.int .i64 (G k), .int .i64 (D k).1, .int .i64 (D k).2, .int .i64 16384, .int .i64 0, .int .i64 0, .int .i64 16384] 54 (0, 0))) (hpl : ∀ i, i < k → g i < p) (hpb : w.heap.size ≤ p)
    (ho : W'.ownsRow w.heap.size 50 2 v' (k + 1 + 1) (cs ++ [.slice none 0 0, .slice (some ⟨p, 0, none⟩) 1 1])) (hg : W.grownBy W' v.ownBlock) : RoW w W' v' (k + 1) G D (cs ++ [.slice none 0 0, .slice (some ⟨p, 0, none⟩) 1 1]) (fun i => if i < k then g i else p) c0 c1 := by
  have kk := K26.grown h.own hg
  have hl := h.own.1
  refine ⟨below_grown h.bel h.own hg, ho, by rw [List.getElem?_append_left (by omega)]; exact h.z0, by rw [List.getElem?_append_left (by omega)]; exact h.z1, kk.keep _ _ _ _ h.h0 (by decide), kk.keep _ _ _ _ h.h1 (by decide), fun i hi => ?_, fun i j hij hj => ?_, fun i hi => ?_⟩
  · rcases Nat.lt_or_ge i k with h1 | h1
    · obtain ⟨e1, e2, e3⟩ := h.get i h1
      try dsimp only
      rw [if_pos h1]
      exact ⟨by rw [List.getElem?_append_left (by omega)]; exact e1, by rw [List.getElem?_append_left (by omega)]; exact e2, kk.keep _ _ _ _ e3 (by decide)⟩
    · obtain rfl : i = k := by omega
      try dsimp only
      rw [if_neg (by omega)]
      exact ⟨by rw [List.getElem?_append_right (by omega), hl, Nat.sub_self]; rfl, by rw [List.getElem?_append_right (by omega), hl, show (i + 1) * 2 + 1 - (i + 1) * 2 = 1 by omega]; rfl, kk.keep _ _ _ _ hp (by decide)⟩
  · try dsimp only
    rcases Nat.lt_or_ge j k with h1 | h1
    · rw [if_pos (show i < k by omega), if_pos h1]; exact h.mono i j hij h1
    · rw [if_pos (show i < k by omega), if_neg (show ¬ j < k by omega)]; exact hpl i (by omega)
  · try dsimp only
    rcases Nat.lt_or_ge i k with h1 | h1
    · rw [if_pos h1]; exact h.base i h1
    · rw [if_neg (by omega)]; exact hpb
/-- The first part goes elsewhere. -/
theorem RoW.set (h : RoW w W v k G D cs g c0 c1) (hk : 0 < k) (back : Int) : RoW w (W.setCell ⟨g 0, 0, none⟩ (.int .i64 back)) v k (fun i => if i = 0 then back else G i) D cs g c0 c1 := by
  have ho := Onl.set (g 0) W 0 (.int .i64 back)
  obtain ⟨_, _, hg0⟩ := h.get 0 hk
  have ne : ∀ {b : Nat} {cs' : Array Value} {T : TypeId} {fr : Nat × Nat}, W.heap[b]? = some (.cells cs' T fr) → T ≠ 54 → (W.setCell ⟨g 0, 0, none⟩ (.int .i64 back)).heap[b]? = some (.cells cs' T fr) := fun {b cs' T fr} hb hT =>
    (ho.block b (heap_lt hb) (fun e => by
      subst e
      rw [hg0] at hb
      injection hb with hb
      injection hb with _ hb _
      exact hT hb.symm)).trans hb
  refine ⟨h.bel.trans (ho.below (h.base 0 hk) h.bel.size), ⟨h.own.1, ?_⟩, h.z0, h.z1, ne h.h0 (by decide), ne h.h1 (by decide), fun i hi => ?_, h.mono, h.base⟩
  · rcases h.own.2 with h1 | ⟨b, cap, cur, h1, h3, h4, h5⟩
    · exact .inl h1
    · exact .inr ⟨b, cap, cur, h1, h3, ne h4 (by decide), h5⟩
  · obtain ⟨e1, e2, e3⟩ := h.get i hi
    refine ⟨e1, e2, ?_⟩
    by_cases h0 : i = 0
    · subst h0
      simp [World.setCell, Array.getElem?_modify, hg0]
    · have := h.mono 0 i (by omega) hi
      try dsimp only
      rw [if_neg h0]
      exact (ho.block _ (heap_lt e3) (by omega)).trans e3
theorem RoW.shl {A : Option Addr} {c : Nat} (h : RoW w W (.slice A (k + 1) c) k G D cs g c0 c1) : Shl W A (k + 1) (rowL G D k) := by
  have ea : ∀ b j, (⟨b, 0, none⟩ : Addr).add j = ⟨b, j, none⟩ := fun b j => by unfold Addr.add; split <;> simp_all
  refine ⟨rowL_len _ _ _, fun i hi => ?_⟩
  obtain ⟨ad, h1, h2, h3⟩ := own_cell h.own (by omega)
  match i, hi with
  | 0, _ =>
    refine ⟨ad, some ⟨c1, 0, none⟩, 1, none, 0, h1, h2, h3 _ _ h.z0, h3 _ _ h.z1, ⟨rfl, fun i hi => ?_⟩, C.Prl.nil _⟩
    have hi : i < 1 := hi
    obtain rfl : i = 0 := by omega
    refine ⟨⟨c1, 0, none⟩, some ⟨c0, 0, none⟩, 1, rfl, heap_lt h.h1, by rw [ea]; exact cell_of_row _ _ 0 _ _ _ h.h1, ⟨rfl, fun i hi => ?_⟩⟩
    have hi : i < 1 := hi
    obtain rfl : i = 0 := by omega
    exact ⟨⟨c0, 0, none⟩, rfl, heap_lt h.h0, by rw [ea]; exact cell_of_row _ _ 0 _ _ _ h.h0, by rw [ea]; exact cell_of_row _ _ 1 _ _ _ h.h0, by rw [ea]; exact cell_of_row _ _ 2 _ _ _ h.h0⟩
  | i + 1, hi =>
    obtain ⟨e1, e2, e3⟩ := h.get i (by omega)
    rw [rowL_get (by omega)]
    refine ⟨ad, none, 0, some ⟨g i, 0, none⟩, 1, h1, h2, h3 _ _ e1, h3 _ _ e2, Ctl.nil _, ⟨rfl, fun j hj => ?_⟩⟩
    have hj : j < 1 := hj
    obtain rfl : j = 0 := by omega
    refine ⟨⟨g i, 0, none⟩, rfl, heap_lt e3, fun j u hu => ?_⟩
    rw [ea, show 0 * 7 + j = j by omega]
    rw [cell_of_row _ _ j _ _ _ e3]
    simpa [C.prC, C.qp, prR] using hu
end
end Go.Proofs.Ytlfnagfcggmeaaa
