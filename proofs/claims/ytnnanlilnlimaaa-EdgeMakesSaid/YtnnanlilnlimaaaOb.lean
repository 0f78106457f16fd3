/- Proved here: what has, Cut, U16 and U32 answer, the program's and the document's. Condition: a text of at most a billion bytes, places of 64 bits. -/
import Derived.Test.YtnnanlilnlimaaaOa
namespace Go.Proofs.Ytnnanlilnlimaaa
open Go.RowKit

/-- Whether n bytes stand at a place of a text of L bytes. -/
def Has (L : Nat) (a n : Int) : Prop := 0 ≤ a ∧ 0 ≤ n ∧ n ≤ (L : Int) - a
instance (L : Nat) (a n : Int) : Decidable (Has L a n) := inferInstanceAs (Decidable (_ ∧ _ ∧ _))
/-- The n bytes at a place. -/
def piece (l : List UInt8) (a n : Nat) : List UInt8 := (l.drop a).take n
theorem piece_len {l : List UInt8} {a n : Nat} (h : a + n ≤ l.length) : (piece l a n).length = n := by
  unfold piece
  rw [List.length_take, List.length_drop]
  omega
theorem piece_len_le (l : List UInt8) (a n : Nat) : (piece l a n).length ≤ n := by
  unfold piece
  rw [List.length_take]
  omega
theorem sub_run (s : ByteArray) (a b : Int) (h0 : 0 ≤ a) (h1 : a ≤ b) (h2 : b ≤ s.size) (W : World) :
    (Instr.slice 9 (.string s) (some (.int .i64 a)) (some (.int .i64 b)) none).run Try.prog W = .ok (.string ⟨(piece s.data.toList a.toNat (b - a).toNat).toArray⟩) W := by
  have hex : s.extract a.toNat b.toNat = ⟨(piece s.data.toList a.toNat (b - a).toNat).toArray⟩ := by
    apply ByteArray.ext
    apply Array.toList_inj.1
    have e1 : (s.extract a.toNat b.toNat).data.toList = (s.data.toList.drop a.toNat).take (b.toNat - a.toNat) := by
      simp [List.extract]
    rw [e1]
    unfold piece
    rw [show (b - a).toNat = b.toNat - a.toNat by omega]
  have h := run_slice_string (P := Try.prog) W 9 s .i64 .i64 a b Try.underlying9 h0 h1 h2
  rw [h, hex]
theorem i64_in (x : Int) (h : -9223372036854775808 ≤ x ∧ x ≤ 9223372036854775807) : IntKind.i64.wrap x = x := by rw [IntKind.wrap_i64]; omega
/-- What Cut answers: the bytes, and how it ended. -/
def cutL (l : List UInt8) (a n : Int) : List UInt8 := if Has l.length a n then piece l a.toNat n.toNat else []
def cutE (l : List UInt8) (a n : Int) : Int := if Has l.length a n then 0 else 3
theorem cutL_len (l : List UInt8) (a : Int) (n : Nat) : (cutL l a n).length ≤ n := by
  unfold cutL
  split
  · simpa using piece_len_le l a.toNat n
  · simp
end Go.Proofs.Ytnnanlilnlimaaa
