/- Proved here: lists of tables, as they lie in memory. No condition. -/
import Derived.Test.YtphnapnmeidgkaaOd
namespace Go.Proofs.Ytphnapnmeidgkaa
open Go.RowKit

def tg (L : List (List UInt8 × List UInt8)) (i : Nat) : List UInt8 := (L.getD i ([], [])).1
def dt (L : List (List UInt8 × List UInt8)) (i : Nat) : List UInt8 := (L.getD i ([], [])).2
/-- A list of tables, as it lies in memory: each a tag and its bytes. -/
structure Tl (w : World) (A : Option Addr) (m : Nat) (L : List (List UInt8 × List UInt8)) : Prop where
  len : L.length = m
  get : ∀ i, i < m → ∃ ad, A = some ad ∧ ad.block < w.heap.size ∧ w.cell? (ad.add (i * 2)) = some (.string ⟨(tg L i).toArray⟩) ∧ w.cell? (ad.add (i * 2 + 1)) = some (.string ⟨(dt L i).toArray⟩)
theorem block_of_add (a : Addr) (n : Nat) : (a.add n).block = a.block := by unfold Addr.add; split <;> rfl
theorem add_next (a : Addr) (n : Nat) : (⟨(a.add n).block, (a.add n).off + 1, none⟩ : Addr) = a.add (n + 1) := by
  unfold Addr.add
  split
  · next h => subst h; simp
  · simp [Nat.add_assoc]
theorem Tl.bel {w w' : World} {A : Option Addr} {m : Nat} {L : List (List UInt8 × List UInt8)} (h : Tl w A m L) (hb : Below w.heap.size w w') : Tl w' A m L :=
  ⟨h.len, fun i hi => by
    obtain ⟨ad, h1, h2, h3, h4⟩ := h.get i hi
    exact ⟨ad, h1, Nat.lt_of_lt_of_le h2 hb.size, by rw [hb.cell (by rw [block_of_add]; exact h2)]; exact h3, by rw [hb.cell (by rw [block_of_add]; exact h2)]; exact h4⟩⟩
/-- The i-th table's cells, as the walk asks for them. -/
theorem Tl.at_ {w : World} {A : Option Addr} {m : Nat} {L : List (List UInt8 × List UInt8)} (h : Tl w A m L) {W : World} (hb : Below w.heap.size w W) {i : Nat} (hi : i < m) :
    ∃ ad, A = some ad ∧ W.cell? (ad.add (i * 2)) = some (.string ⟨(tg L i).toArray⟩) ∧ W.cell? { block := (ad.add (i * 2)).block, off := (ad.add (i * 2)).off + 1 } = some (.string ⟨(dt L i).toArray⟩) := by
  obtain ⟨ad, h1, h2, h3, h4⟩ := h.get i hi
  exact ⟨ad, h1, by rw [hb.cell (by rw [block_of_add]; exact h2)]; exact h3, by rw [add_next, hb.cell (by rw [block_of_add]; exact h2)]; exact h4⟩
end Go.Proofs.Ytphnapnmeidgkaa
