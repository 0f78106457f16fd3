/- Proved here: words for the font that Make writes into a builder. Condition: lists that lie in memory. -/
import Derived.Test.YtlidagofjkilgaaTf
namespace Go.Proofs.Ytlidagofjkilgaa
open Go.RowKit

/-- While a table is written: the builder, and the table's own cells. -/
structure MkS (w W : World) (b g : Nat) (l : List UInt8) (X D : ByteArray) : Prop where
  bel : Below w.heap.size w W
  hb : w.heap.size ≤ b
  hbW : b ≤ W.heap.size
  bld : Bld b b l W
  blk : W.heap[g]? = some (.cells #[.string X, .string D] 25 (0, 0))
  safe : ∀ v, W.cell? ⟨b, 1, none⟩ = some v → v.ownBlock ≠ some g
  ne : g ≠ b
theorem heap_lt {w : World} {g : Nat} {o : Obj} (h : w.heap[g]? = some o) : g < w.heap.size := by
  rcases Nat.lt_or_ge g w.heap.size with hl | hl
  · exact hl
  · rw [Array.getElem?_eq_none hl] at h; cases h
theorem Bld.blk {B b : Nat} {l : List UInt8} {W : World} (h : Bld B b l W) : ∃ p v, W.heap[b]? = some (.cells #[p, v] 46 (0, 0)) ∧ W.ownsRow B 5 1 v (Lib.byteCells l).length (Lib.byteCells l) := by
  rcases h with ⟨_, v, hbk, ho, _⟩ | ⟨_, v, hbk, ho, _⟩
  · exact ⟨_, v, hbk, ho⟩
  · exact ⟨_, v, hbk, ho⟩
theorem Bld.lt {B b : Nat} {l : List UInt8} {W : World} (h : Bld B b l W) : b < W.heap.size := by
  obtain ⟨p, v, h1, _⟩ := h.blk
  exact heap_lt h1
section
variable {w W W' : World} {b g : Nat} {l : List UInt8} {X D : ByteArray}
theorem MkS.start (hbel : Below w.heap.size w W) (hb : w.heap.size ≤ b) (h : Bld b b l W) (X D : ByteArray) : MkS w (W.alloc (.cells #[.string X, .string D] 25)) b W.heap.size l X D := by
  obtain ⟨p, v, h1, h2⟩ := h.blk
  have hlt := h.lt
  refine ⟨hbel.alloc hbel.size _, hb, by simp; omega, h.bel ((Below.refl _ _).alloc (Nat.le_refl _) _), heap_alloc_new W _, fun u hu he => ?_, by omega⟩
  have h3 : (W.alloc (.cells #[.string X, .string D] 25)).heap[b]? = some (.cells #[p, v] 46 (0, 0)) := (Below.heap_alloc W _ b hlt).trans h1
  rw [cell_of_row _ b 1 _ 46 (0, 0) h3] at hu
  injection hu with hu
  subst hu
  have := (h2.lt _ he).2
  omega
theorem MkS.next (h : MkS w W b g l X D) (hb : Below W.heap.size W W') : MkS w W' b g l X D := by
  refine ⟨h.bel.trans (hb.mono h.bel.size), h.hb, Nat.le_trans h.hbW hb.size, h.bld.bel hb, (hb.block g (heap_lt h.blk)).trans h.blk, fun v hv => h.safe v ?_, h.ne⟩
  rw [← hv, hb.cell h.bld.lt]
theorem MkS.drewN (h : MkS w W b g l X D) (n : Nat) : MkS w (W.drewN n) b g l X D := h.next (below_drewN (Below.refl _ _) n)
theorem MkS.drew (h : MkS w W b g l X D) : MkS w W.drew b g l X D := h.next ((Below.refl _ _).drew)
theorem MkS.c0 (h : MkS w W b g l X D) : W.cell? ⟨g, 0, none⟩ = some (.string X) := cell_of_row W g 0 _ 25 (0, 0) h.blk
theorem MkS.c1 (h : MkS w W b g l X D) : W.cell? ⟨g, 1, none⟩ = some (.string D) := cell_of_row W g 1 _ 25 (0, 0) h.blk
theorem MkS.both (h : MkS w W b g l X D) : W.cell? ⟨g, 0, none⟩ = some (.string X) ∧ W.cell? ⟨g, 1, none⟩ = some (.string D) := ⟨h.c0, h.c1⟩
/-- Behind a text that was written: the builder with it, and the table's cells. -/
structure MkE (w W : World) (b g : Nat) (l : List UInt8) (X D : ByteArray) : Prop where
  bel : Below w.heap.size w W
  hb : w.heap.size ≤ b
  hbW : b ≤ W.heap.size
  bld : Bld b b l W
  blk : W.heap[g]? = some (.cells #[.string X, .string D] 25 (0, 0))
theorem MkS.wrote {l' : List UInt8} (h : MkS w W b g l X D) (h1 : Bld b b l' W') (h2 : Below b W W') (h3 : KeptB b W W') : MkE w W' b g l' X D :=
  ⟨h.bel.trans (h2.mono h.hb), h.hb, Nat.le_trans h.hbW h2.size, h1, (h3 g (heap_lt h.blk) h.ne h.safe).trans h.blk⟩
theorem MkE.next (h : MkE w W b g l X D) (hb : Below W.heap.size W W') : MkE w W' b g l X D :=
  ⟨h.bel.trans (hb.mono h.bel.size), h.hb, Nat.le_trans h.hbW hb.size, h.bld.bel hb, (hb.block g (heap_lt h.blk)).trans h.blk⟩
theorem MkE.drewN (h : MkE w W b g l X D) (n : Nat) : MkE w (W.drewN n) b g l X D := h.next (below_drewN (Below.refl _ _) n)
theorem MkE.both (h : MkE w W b g l X D) : W.cell? ⟨g, 0, none⟩ = some (.string X) ∧ W.cell? ⟨g, 1, none⟩ = some (.string D) := ⟨cell_of_row W g 0 _ 25 (0, 0) h.blk, cell_of_row W g 1 _ 25 (0, 0) h.blk⟩
theorem MkE.c0 (h : MkE w W b g l X D) : W.cell? ⟨g, 0, none⟩ = some (.string X) := cell_of_row W g 0 _ 25 (0, 0) h.blk
theorem MkE.c1 (h : MkE w W b g l X D) : W.cell? ⟨g, 1, none⟩ = some (.string D) := cell_of_row W g 1 _ 25 (0, 0) h.blk
end
/-- At each round's head: the builder alone. -/
structure MkH (w W : World) (b : Nat) (l : List UInt8) : Prop where
  bel : Below w.heap.size w W
  hb : w.heap.size ≤ b
  bld : Bld b b l W
theorem MkH.start {w W : World} {b : Nat} {l : List UInt8} (h : MkH w W b l) (X D : ByteArray) : MkS w (W.alloc (.cells #[.string X, .string D] 25)) b W.heap.size l X D := MkS.start h.bel h.hb h.bld X D
theorem MkE.head {w W : World} {b g : Nat} {l : List UInt8} {X D : ByteArray} (h : MkE w W b g l X D) : MkH w W b l := ⟨h.bel, h.hb, h.bld⟩
theorem MkH.next {w W W' : World} {b : Nat} {l : List UInt8} (h : MkH w W b l) (hb : Below W.heap.size W W') : MkH w W' b l := ⟨h.bel.trans (hb.mono h.bel.size), h.hb, h.bld.bel hb⟩
theorem MkH.new {w W : World} (h : Below w.heap.size w W) : MkH w (W.alloc (.cells #[.pointer none, .slice none 0 0] 46)) W.heap.size [] := ⟨h.alloc h.size _, h.size, Bld.new W⟩
theorem MkH.wrote {w W W' : World} {b : Nat} {l l' : List UInt8} (h : MkH w W b l) (h1 : Bld b b l' W') (h2 : Below b W W') : MkH w W' b l' := ⟨h.bel.trans (h2.mono h.hb), h.hb, h1⟩
theorem zer_rep : ∀ p, p < 4 → Lib.repeatL [(0 : UInt8)] p = zer p := by decide
theorem dir_next {L : List (List UInt8 × List UInt8)} {i : Nat} (hi : i < L.length) (a : Nat) : dir a (L.take (i + 1)) = dir a (L.take i) ++ line (tg L i, dt L i) (a + (body (L.take i)).length) := by
  have h1 : L.take (i + 1) = L.take i ++ [(tg L i, dt L i)] := by
    rw [List.take_succ_eq_append_getElem hi, tg_get hi]
  rw [h1, dir_app]
  simp [dir]
theorem line_cat (X T1 T2 T3 : ByteArray) (x : List UInt8) (d : List UInt8) (a : Nat) (hX : X = ⟨x.toArray⟩) (h1 : T1 = ⟨(byt 4 (total x d)).toArray⟩) (h2 : T2 = ⟨(byt 4 a).toArray⟩) (h3 : T3 = ⟨(byt 4 d.length).toArray⟩) :
    (X ++ T1 ++ T2 ++ T3).data.toList = line (x, d) a := by
  rw [hX, h1, h2, h3, app_four]
  unfold line
  simp
end Go.Proofs.Ytlidagofjkilgaa
