/- Proved here: words for the document's row: its two boxes, and the spans of the tables ahead. No condition. -/
import Derived.Test.YtlidagofjkilgaaUf
namespace Go.Proofs.Ytlidagofjkilgaa
open Go.RowKit

/-- The two results' boxes. -/
structure RwS (w W : World) (b c : Nat) (x y : ByteArray) (p q : Int) : Prop where
  bel : Below w.heap.size w W
  ob : w.heap.size ≤ b
  oc : w.heap.size ≤ c
  ne : b ≠ c
  bb : W.heap[b]? = some (.cells #[.string x, .string y] 25 (0, 0))
  bc : W.heap[c]? = some (.cells #[.int .i64 p, .int .i64 q] 74 (0, 0))
section
variable {w W W' : World} {b c : Nat} {x y : ByteArray} {p q : Int}
theorem RwS.start (w : World) : RwS w ((w.alloc (.cells #[.string ⟨#[]⟩, .string ⟨#[]⟩] 25)).alloc (.cells #[.int .i64 0, .int .i64 0] 74)) w.heap.size (w.heap.size + 1) ⟨#[]⟩ ⟨#[]⟩ 0 0 := by
  refine ⟨((Below.refl _ _).alloc (Nat.le_refl _) _).alloc (by simp) _, Nat.le_refl _, by omega, by omega, ?_, ?_⟩
  · rw [Below.heap_alloc _ _ _ (by simp)]; exact heap_alloc_new w _
  · have h := heap_alloc_new (w.alloc (.cells #[.string ⟨#[]⟩, .string ⟨#[]⟩] 25)) (.cells #[.int .i64 0, .int .i64 0] 74)
    simpa using h
theorem RwS.next (h : RwS w W b c x y p q) (hb : Below W.heap.size W W') : RwS w W' b c x y p q :=
  ⟨h.bel.trans (hb.mono h.bel.size), h.ob, h.oc, h.ne, (hb.block b (heap_lt h.bb)).trans h.bb, (hb.block c (heap_lt h.bc)).trans h.bc⟩
theorem RwS.cells (h : RwS w W b c x y p q) : W.cell? ⟨b, 0, none⟩ = some (.string x) ∧ W.cell? ⟨b, 1, none⟩ = some (.string y) ∧ W.cell? ⟨c, 0, none⟩ = some (.int .i64 p) ∧ W.cell? ⟨c, 1, none⟩ = some (.int .i64 q) :=
  ⟨cell_of_row W b 0 _ 25 (0, 0) h.bb, cell_of_row W b 1 _ 25 (0, 0) h.bb, cell_of_row W c 0 _ 74 (0, 0) h.bc, cell_of_row W c 1 _ 74 (0, 0) h.bc⟩
theorem RwS.frs (h : RwS w W b c x y p q) : W.frozen? ⟨b, 0, none⟩ = false ∧ W.frozen? ⟨b, 1, none⟩ = false ∧ W.frozen? ⟨c, 0, none⟩ = false ∧ W.frozen? ⟨c, 1, none⟩ = false := by
  have h1 := h.bb
  have h2 := h.bc
  refine ⟨?_, ?_, ?_, ?_⟩ <;> simp [World.frozen?, h1, h2]
theorem RwS.put (h : RwS w W b c x y p q) (x' y' : ByteArray) (p' q' : Int) : RwS w ((((W.setCell ⟨b, 0, none⟩ (.string x')).setCell ⟨b, 1, none⟩ (.string y')).setCell ⟨c, 0, none⟩ (.int .i64 p')).setCell ⟨c, 1, none⟩ (.int .i64 q')) b c x' y' p' q' := by
  obtain ⟨h1, h2, h3, h4, h5, h6⟩ := h
  refine ⟨(((h1.setCell h2 _).setCell h2 _).setCell h3 _).setCell h3 _, h2, h3, h4, ?_, ?_⟩
  · have e : ∀ (V : World) (j : Nat) (u : Value), (V.setCell ⟨c, j, none⟩ u).heap[b]? = V.heap[b]? := fun V j u => Below.heap_setCell V _ u b h4
    rw [e, e]
    simp [World.setCell, Array.getElem?_modify, h5]
  · have e : ∀ (V : World) (j : Nat) (u : Value), (V.setCell ⟨b, j, none⟩ u).heap[c]? = V.heap[c]? := fun V j u => Below.heap_setCell V _ u c h4.symm
    have h7 : (((W.setCell ⟨b, 0, none⟩ (.string x')).setCell ⟨b, 1, none⟩ (.string y'))).heap[c]? = some (.cells #[.int .i64 p, .int .i64 q] 74 (0, 0)) := by rw [e, e]; exact h6
    generalize (W.setCell ⟨b, 0, none⟩ (.string x')).setCell ⟨b, 1, none⟩ (.string y') = V at h7
    simp [World.setCell, Array.getElem?_modify, h7]
end
theorem ret_rw {fn : Func} {pt pu pv : Tmp} {tmps : Array Value} {w W : World} {b c : Nat} {x y : ByteArray} {p q : Int} {v : Value} (h : fn.results = #[.cell pt 25, .cell pu 74, .tmp pv]) (hp : tmps.getD pt undef = .pointer (some ⟨b, 0, none⟩)) (hq : tmps.getD pu undef = .pointer (some ⟨c, 0, none⟩)) (hv : tmps.getD pv undef = v) (hb : RwS w W b c x y p q) :
    (results fn tmps).run Try.prog W = .ok (.tuple #[.agg #[.string x, .string y], .agg #[.int .i64 p, .int .i64 q], v]) W := by
  obtain ⟨c0, c1, c2, c3⟩ := hb.cells
  rw [Array.getD_eq_getD_getElem?] at hp hq hv
  simp [results, h, hp, hq, hv, go_sem, c0, c1, c2, c3]
/-- The spans of rows. -/
def spC (R : List Row) : List Value := R.flatMap fun r => [.int .i64 (r.place : Int), .int .i64 ((r.place + r.size : Nat) : Int)]
theorem spC_snoc (R : List Row) (r : Row) : spC (R ++ [r]) = spC R ++ [.int .i64 (r.place : Int), .int .i64 ((r.place + r.size : Nat) : Int)] := by simp [spC]
theorem spC_get : ∀ (R : List Row) (i : Nat) (h : i < R.length), (spC R)[i * 2]? = some (.int .i64 (R[i].place : Int)) ∧ (spC R)[i * 2 + 1]? = some (.int .i64 ((R[i].place + R[i].size : Nat) : Int))
  | r :: R, 0, _ => ⟨rfl, rfl⟩
  | r :: R, i + 1, h => by
    have ih := spC_get R i (by simp at h; omega)
    have e : spC (r :: R) = .int .i64 (r.place : Int) :: .int .i64 ((r.place + r.size : Nat) : Int) :: spC R := rfl
    rw [e, show (i + 1) * 2 = i * 2 + 2 by omega]
    exact ih
/-- A list of spans, as it lies in memory. -/
structure Sl (w : World) (A : Option Addr) (m : Nat) (R : List Row) : Prop where
  len : R.length = m
  get : ∀ i (hi : i < m), ∃ ad, A = some ad ∧ ad.block < w.heap.size ∧ w.cell? (ad.add (i * 2)) = some (.int .i64 ((R[i]'(by omega)).place : Int)) ∧ w.cell? (ad.add (i * 2 + 1)) = some (.int .i64 (((R[i]'(by omega)).place + (R[i]'(by omega)).size : Nat) : Int))
theorem Sl.at_ {w : World} {A : Option Addr} {m : Nat} {R : List Row} (h : Sl w A m R) {W : World} (hb : Below w.heap.size w W) {i : Nat} (hi : i < m) :
    ∃ ad, A = some ad ∧ W.cell? (ad.add (i * 2)) = some (.int .i64 ((R[i]'(by have := h.len; omega)).place : Int)) ∧ W.cell? { block := (ad.add (i * 2)).block, off := (ad.add (i * 2)).off + 1 } = some (.int .i64 (((R[i]'(by have := h.len; omega)).place + (R[i]'(by have := h.len; omega)).size : Nat) : Int)) ∧
      W.cell? ((ad.add (i * 2)).add 1) = some (.int .i64 (((R[i]'(by have := h.len; omega)).place + (R[i]'(by have := h.len; omega)).size : Nat) : Int)) := by
  obtain ⟨ad, h1, h2, h3, h4⟩ := h.get i hi
  have e : ∀ j, W.cell? (ad.add j) = w.cell? (ad.add j) := fun j => hb.cell (by rw [block_of_add]; exact h2)
  have e1 : (⟨(ad.add (i * 2)).block, (ad.add (i * 2)).off + 1, none⟩ : Addr) = ad.add (i * 2 + 1) := add_next ad (i * 2)
  have e2 : (ad.add (i * 2)).add 1 = ad.add (i * 2 + 1) := by
    rw [← e1]
    generalize ad.add (i * 2) = z
    unfold Addr.add
    rw [if_neg (by decide)]
  exact ⟨ad, h1, (e _).trans h3, by rw [e1]; exact (e _).trans h4, by rw [e2]; exact (e _).trans h4⟩
theorem own_sl {w : World} {base n c : Nat} {A : Option Addr} {R : List Row} (h : w.ownsRow base 74 2 (.slice A n c) n (spC R)) (hn : R.length = n) : Sl w A n R := by
  refine ⟨hn, fun i hi => ?_⟩
  obtain ⟨ad, h1, h2, h3⟩ := own_cell h (by omega)
  obtain ⟨g1, g2⟩ := spC_get R i (by omega)
  exact ⟨ad, h1, h2, h3 _ _ g1, h3 _ _ g2⟩
/-- Have two tables a byte together? As the document asks it. -/
theorem meet_iff (a b : Row) : meet a b = decide (0 < a.size ∧ b.place < b.place + b.size ∧ a.place < b.place + b.size ∧ b.place < a.place + a.size) := by
  unfold meet
  apply decide_eq_decide.2
  omega
theorem ru32_same (s : ByteArray) (a : Nat) (w : World) (hs : s.size ≤ 1000000000) (ha : a + 4 ≤ s.size) :
    Calls Try.prog 52 #[.string s, .int .i64 (a : Int)] w fun e w' => e = .returned (.tuple #[.int .u32 (bv (piece s.data.toList a 4) 0 : Int), .int .i64 0]) ∧ w = w' := by
  have h := ru32_any s (a : Int) w hs (by omega)
  have h2 := cutL_in (l := s.data.toList) (a := a) (n := 4) (by rw [size_list]; exact ha)
  rw [show ((4 : Nat) : Int) = 4 from rfl] at h2
  rw [h2.1, h2.2] at h
  exact h
theorem rsum_q (t d : ByteArray) (w : World) (hs : d.data.toList.length ≤ 1000000 - 10) : Calls Try.prog 26 #[.string t, .string d] w fun e w' => e = .returned (.int .u32 (total t.data.toList d.data.toList : Int)) ∧ ∃ q, w' = w.drewN q :=
  (rsum_any t d w hs).mono fun _ _ ⟨q, h1, h2⟩ => ⟨h1, q, h2⟩
end Go.Proofs.Ytlidagofjkilgaa
