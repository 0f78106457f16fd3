/- Proved here: what a reader's pass and next answer, and the document's Take and Num. Condition: the reader lies in a block of its own, its text has at most a billion bytes. -/
import Derived.Test.YtphnapnmeidgkaaOe
namespace Go.Proofs.Ytphnapnmeidgkaa
open Go.RowKit

/-- Whether n bytes are passed. -/
def okR (L a : Nat) (f : Bool) (n : Int) : Bool := !f && decide (Has L a n)
def nxA (L a : Nat) (f : Bool) (n : Int) : Nat := if okR L a f n then a + n.toNat else a
def outR (l : List UInt8) (a : Nat) (f : Bool) (n : Int) : List UInt8 := if okR l.length a f n then piece l a n.toNat else []
theorem nxA_le {L a : Nat} {f : Bool} {n : Int} (h : a ≤ L) : nxA L a f n ≤ L := by
  unfold nxA
  split
  · rename_i h1
    unfold okR at h1
    simp only [Bool.and_eq_true] at h1
    have := (of_decide_eq_true h1.2)
    obtain ⟨h2, h3, h4⟩ := this
    omega
  · exact h
theorem outR_len (l : List UInt8) (a : Nat) (f : Bool) (n : Nat) : (outR l a f (n : Int)).length ≤ n := by
  unfold outR
  split
  · simpa using piece_len_le l a n
  · simp
/-- What a call that passes bytes leaves in memory. -/
def PsE (T : TypeId) (g : Nat) (s : ByteArray) (a : Nat) (f : Bool) (n : Int) (w w' : World) : Prop := Rd T w' g s (nxA s.size a f n) (!okR s.size a f n) ∧ Onl g w w'
end Go.Proofs.Ytphnapnmeidgkaa
