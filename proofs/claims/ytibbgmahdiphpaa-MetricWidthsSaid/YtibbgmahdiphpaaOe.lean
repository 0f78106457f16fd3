/- Proved here: what a reader is in memory, and what New, Err, At and Left answer. Condition: the reader lies in a block of its own. -/
import Derived.Test.YtibbgmahdiphpaaOd
namespace Go.Proofs.Ytibbgmahdiphpaa
open Go.RowKit

/-- Nothing but one block has turned. -/
structure Onl (g : Nat) (w w' : World) : Prop where
  os : w'.os = w.os
  tape : w'.tape = w.tape
  output : w'.output = w.output
  size : w.heap.size ≤ w'.heap.size
  block : ∀ k, k < w.heap.size → k ≠ g → w'.heap[k]? = w.heap[k]?
theorem Onl.below {g B : Nat} {w w' : World} (h : Onl g w w') (h1 : B ≤ g) (h2 : B ≤ w.heap.size) : Below B w w' := ⟨h.os, h.tape, h.output, h.size, fun k hk => h.block k (by omega) (by omega)⟩
theorem Onl.of {g : Nat} {w w' : World} (h : Below w.heap.size w w') : Onl g w w' := ⟨h.os, h.tape, h.output, h.size, fun k hk _ => h.block k hk⟩
theorem Onl.refl (g : Nat) (w : World) : Onl g w w := Onl.of (Below.refl _ _)
theorem Onl.trans {g : Nat} {a b c : World} (h : Onl g a b) (k : Onl g b c) : Onl g a c :=
  ⟨k.os.trans h.os, k.tape.trans h.tape, k.output.trans h.output, Nat.le_trans h.size k.size, fun i hi h2 => (k.block i (Nat.lt_of_lt_of_le hi h.size) h2).trans (h.block i hi h2)⟩
theorem Onl.set (g : Nat) (w : World) (j : Nat) (u : Value) : Onl g w (w.setCell ⟨g, j, none⟩ u) := ⟨rfl, rfl, rfl, by simp [World.setCell], fun _ _ h => Below.heap_setCell w _ u _ h⟩
section
variable {T : TypeId} {w w' : World} {g : Nat} {s : ByteArray} {a : Nat} {f : Bool}
end
end Go.Proofs.Ytibbgmahdiphpaa
