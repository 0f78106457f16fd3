/- Proved here: texts as lists of bytes; a block that holds something is there. No condition. -/
import Derived.Test.YtnnanlilnlimaaaOe
namespace Go.Proofs.Ytnnanlilnlimaaa
open Go.RowKit

theorem size_list (s : ByteArray) : s.data.toList.length = s.size := by simp
theorem app_list (a b : ByteArray) : (a ++ b).data.toList = a.data.toList ++ b.data.toList := by simp
theorem of_list {s : ByteArray} {l : List UInt8} (h : s.data.toList = l) : s = ⟨l.toArray⟩ := by
  subst h
  apply ByteArray.ext
  simp
theorem heap_lt {w : World} {g : Nat} {o : Obj} (h : w.heap[g]? = some o) : g < w.heap.size := by
  rcases Nat.lt_or_ge g w.heap.size with hl | hl
  · exact hl
  · rw [Array.getElem?_eq_none hl] at h; cases h
end Go.Proofs.Ytnnanlilnlimaaa
