/- Proved here: points in boxes; what stays. No condition. -/
import Derived.Test.YtiififjbljiggaaProg
import Derived.WalkKit
import Derived.WalkSpells
import Derived.WalkLawsBesides
import Derived.Deep.DeepFit
import Derived.Deep.QuietTactic
import Derived.BigQuiet
import Derived.Lib.Hide
import Derived.StillTailTactics
import Derived.Deep.RegionHeld3
import Derived.ChangeAlike
import Derived.RegionTactic
import Derived.IntWalk
import Derived.Laws.BitsAllLaws
import Derived.Laws.Bits64b
import Derived.Laws.IdiomStrings
import Derived.Deep.CutBlock
import Derived.Deep.CutRange
import Derived.Deep.DeepCutAuto
import Derived.LoadGo2
import Derived.Laws.AppendOwn
import Derived.Laws.Append
import Derived.Laws.OwnMore
import Derived.Lib.Builder
import Derived.Lib.AppendStr
import Derived.Deep.RegionLaw
import Derived.BigRegion
namespace Go.Proofs.Ytiififjbljiggaa
open Go.RowKit

/-- Nothing but one block has turned. -/
structure Onl (g : Nat) (w w' : World) : Prop where
  os : w'.os = w.os
  tape : w'.tape = w.tape
  output : w'.output = w.output
  size : w.heap.size ≤ w'.heap.size
  block : ∀ k, k < w.heap.size → k ≠ g → w'.heap[k]? = w.heap[k]?
theorem Onl.trans {g : Nat} {a b c : World} (h : Onl g a b) (k : Onl g b c) : Onl g a c :=
  ⟨k.os.trans h.os, k.tape.trans h.tape, k.output.trans h.output, Nat.le_trans h.size k.size, fun i hi h2 => (k.block i (Nat.lt_of_lt_of_le hi h.size) h2).trans (h.block i hi h2)⟩
theorem Onl.set (g : Nat) (w : World) (j : Nat) (u : Value) : Onl g w (w.setCell ⟨g, j, none⟩ u) := ⟨rfl, rfl, rfl, by simp [World.setCell], fun _ _ h => Below.heap_setCell w _ u _ h⟩
open Go.RowKit

theorem heap_lt {w : World} {g : Nat} {o : Obj} (h : w.heap[g]? = some o) : g < w.heap.size := by
  rcases Nat.lt_or_ge g w.heap.size with hl | hl
  · exact hl
  · rw [Array.getElem?_eq_none hl] at h; cases h
open Go.RowKit

theorem block_of_add (a : Addr) (n : Nat) : (a.add n).block = a.block := by unfold Addr.add; split <;> rfl
open Go.RowKit

abbrev P2 := Int × Int
/-- An edge: its contour's place, is it a curve, A, B, C. -/
abbrev Edg := Int × Bool × P2 × P2 × P2
/-- Are all points of an edge the same? -/
def smE (e : Edg) : Prop := e.2.2.1 = e.2.2.2.2 ∧ (e.2.1 = false ∨ e.2.2.1 = e.2.2.2.1)
instance (e : Edg) : Decidable (smE e) := inferInstanceAs (Decidable (_ ∧ _))
open Go.RowKit

def fiP (p : P2) : Prop := (-33554432 ≤ p.1 ∧ p.1 ≤ 33554432) ∧ (-33554432 ≤ p.2 ∧ p.2 ≤ 33554432)
instance (p : P2) : Decidable (fiP p) := inferInstanceAs (Decidable (_ ∧ _))
/-- May an edge be? -/
def oneE (e : Edg) : Prop := fiP e.2.2.1 ∧ fiP e.2.2.2.1 ∧ fiP e.2.2.2.2 ∧ ¬ smE e ∧ (e.2.1 = true ∨ e.2.2.2.1 = (0, 0))
instance (e : Edg) : Decidable (oneE e) := inferInstanceAs (Decidable (_ ∧ _))
open Go.RowKit

def e0 : Edg := (0, false, (0, 0), (0, 0), (0, 0))
open Go.RowKit

theorem add_nextk (a : Addr) (n k : Nat) (hk : 0 < k) : (⟨(a.add n).block, (a.add n).off + k, none⟩ : Addr) = a.add (n + k) := by
  unfold Addr.add
  have hnk : n + k ≠ 0 := by omega
  by_cases hn : n = 0
  · subst hn; simp [show k ≠ 0 by omega]
  · simp [hn]; omega
open Go.RowKit

theorem cell_lt2 {w : World} {a : Addr} {v : Value} (h : w.cell? a = some v) : a.block < w.heap.size := World.block_lt_of_cell? w a h
theorem add_z (g j : Nat) : (⟨g, 0, none⟩ : Addr).add j = ⟨g, j, none⟩ := by unfold Addr.add; split <;> simp_all
open Go.RowKit

theorem size_a (w : World) (o : Obj) : (w.alloc o).heap.size = w.heap.size + 1 := by simp
open Go.RowKit

theorem below_st2 {B : Nat} {w W : World} {g j : Nat} {u : Value} (h : Below B w W) (hg : B ≤ g) : Below B w (W.setCell ⟨g, j, none⟩ u) := h.setCell (p := ⟨g, j, none⟩) hg u
/-- A point in a box. -/
def Pbx (W : World) (b : Nat) (p : P2) : Prop := W.heap[b]? = some (.cells #[.int .i64 p.1, .int .i64 p.2] 23 (0, 0))
section
variable {W W' : World} {b : Nat} {p : P2}
theorem Pbx.bel (h : Pbx W b p) (hb : Below W.heap.size W W') : Pbx W' b p := (hb.block b (heap_lt h)).trans h
theorem Pbx.onl (h : Pbx W b p) {g : Nat} (ho : Onl g W W') (hn : b ≠ g) : Pbx W' b p := (ho.block b (heap_lt h) hn).trans h
theorem Pbx.cells (h : Pbx W b p) : W.cell? ⟨b, 0, none⟩ = some (.int .i64 p.1) ∧ W.cell? ⟨b, 1, none⟩ = some (.int .i64 p.2) ∧ W.frozen? ⟨b, 0, none⟩ = false ∧ W.frozen? ⟨b, 1, none⟩ = false :=
  ⟨cell_of_row W b 0 _ 23 (0, 0) h, cell_of_row W b 1 _ 23 (0, 0) h, by unfold Pbx at h; simp [World.frozen?, h], by unfold Pbx at h; simp [World.frozen?, h]⟩
theorem Pbx.set (h : Pbx W b p) (q : P2) : Pbx ((W.setCell ⟨b, 0, none⟩ (.int .i64 q.1)).setCell ⟨b, 1, none⟩ (.int .i64 q.2)) b q := by
  unfold Pbx at h ⊢
  simp [World.setCell, Array.getElem?_modify, h]
theorem Pbx.new (W : World) (p : P2) : Pbx (W.alloc (.cells #[.int .i64 p.1, .int .i64 p.2] 23)) W.heap.size p := heap_alloc_new W _
end
section
variable {w W W' : World} {b : Nat} {lo hi : P2}
theorem on2 (b : Nat) (W : World) (u v : Value) : Onl b W ((W.setCell ⟨b, 0, none⟩ u).setCell ⟨b, 1, none⟩ v) := (Onl.set b _ _ _).trans (Onl.set b _ _ _)
end
theorem ret_box3 {fn : Func} {p q u : Tmp} {tmps : Array Value} {W : World} {g h : Nat} {a b : P2} {v : Value} (hf : fn.results = #[.cell p 23, .cell q 23, .tmp u]) (hp : tmps.getD p undef = .pointer (some ⟨g, 0, none⟩)) (hq : tmps.getD q undef = .pointer (some ⟨h, 0, none⟩)) (hv : tmps.getD u undef = v) (ha : Pbx W g a) (hb : Pbx W h b) :
    (results fn tmps).run Try.prog W = .ok (.tuple #[.agg #[.int .i64 a.1, .int .i64 a.2], .agg #[.int .i64 b.1, .int .i64 b.2], v]) W := by
  obtain ⟨c0, c1, _, _⟩ := ha.cells
  obtain ⟨d0, d1, _, _⟩ := hb.cells
  rw [Array.getD_eq_getD_getElem?] at hp hq hv
  simp [results, hf, hp, hq, hv, go_sem, c0, c1, d0, d1]
open Go.RowKit

theorem bel_onl {w W W' : World} {b : Nat} (h : Below w.heap.size w W) (ho : Onl b W W') (hb : w.heap.size ≤ b) : Below w.heap.size w W' :=
  ⟨ho.os.trans h.os, ho.tape.trans h.tape, ho.output.trans h.output, Nat.le_trans h.size ho.size, fun q hq => (ho.block q (Nat.lt_of_lt_of_le hq h.size) (by omega)).trans (h.block q hq)⟩
open Go.RowKit

theorem add_add (ad : Addr) (i j : Nat) : (ad.add i).add j = ad.add (i + j) := by
  unfold Addr.add
  by_cases hi : i = 0
  · subst hi; simp
  · by_cases hj : j = 0
    · subst hj; simp [hi]
    · simp [hi, hj]; omega
end Go.Proofs.Ytiififjbljiggaa
