/- Proved here: what strings.Builder's WriteString and String do, at a builder in a block of the call's own. Condition: fewer than 2^47 bytes. -/
import Derived.Test.YtnnanlilnlimaaaHa
import Derived.Lib.Builder
import Derived.Lib.AppendStr
namespace Go.Proofs.Ytnnanlilnlimaaa
open Go.RowKit

theorem Try.info5 : (Try.prog.info? 5).map (fun i => (i.zero, i.size, i.bytes)) = some (some (.int .u8 0), 1, 1) := by kernel_rfl
/-- Nothing but block b's first cell has turned. -/
structure Chk (b : Nat) (w w' : World) : Prop where
  size : w'.heap.size = w.heap.size
  keep : ∀ k, k ≠ b → w'.heap[k]? = w.heap[k]?
  c1 : w'.cell? ⟨b, 1, none⟩ = w.cell? ⟨b, 1, none⟩
theorem own_slice {w : World} {B n m : Nat} {v : Value} {xs : List Value} (h : w.ownsRow B 5 1 v n xs) (hn : n = m := by rfl) : ∃ A c, v = .slice A m c := by
  subst hn
  rcases h.2 with ⟨hv, h0⟩ | ⟨g, cap, cur, hv, _⟩
  · exact ⟨none, 0, by rw [hv, h0]⟩
  · exact ⟨_, _, hv⟩
/-- What is neither the builder's block nor its row's is as it was. -/
def KeptB (b : Nat) (w w' : World) : Prop := ∀ k, k < w.heap.size → k ≠ b → (∀ v, w.cell? ⟨b, 1, none⟩ = some v → v.ownBlock ≠ some k) → w'.heap[k]? = w.heap[k]?
theorem Chk.kept {b : Nat} {w w1 w2 : World} {v : Value} (h : Chk b w w1) (hc : w1.cell? ⟨b, 1, none⟩ = some v) (hg : w1.grownBy w2 v.ownBlock) (v' : Value) : KeptB b w (w2.setCell ⟨b, 1, none⟩ v') := by
  intro k hk hkb hv
  rw [Below.heap_setCell w2 ⟨b, 1, none⟩ v' k hkb, hg.block k (by rw [h.size]; exact hk) (fun e => hv v (by rw [← h.c1]; exact hc) e.symm), h.keep k hkb]
end Go.Proofs.Ytnnanlilnlimaaa
