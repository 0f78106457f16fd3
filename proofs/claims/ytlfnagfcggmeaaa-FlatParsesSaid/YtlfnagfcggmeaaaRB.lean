/- Proved here: what stands in memory while points are told: a row of flags, two builders, and two boxes. No condition. · what tellPoints answers. Condition: contours that may be, one at least, that lie in memory. · a glyph's bytes (plain); what Make answers. Condition: at most 1000 contours that lie in memory, of at most 5000 points each. -/
import Derived.Test.YtlfnagfcggmeaaaRA
import Derived.Test.YtlfnagfcggmeaaaPA
namespace Go.Proofs.Ytlfnagfcggmeaaa
open Go.RowKit

section
variable {w W W' : World} {b1 b2 g : Nat} {v : Value} {l0 l1 l2 : List UInt8} {r1 r2 : Option Nat} {ax ay : Int} {ao : Bool}
theorem row_far {B : Nat} {x y : Int} {o : Bool} (h : W.ownsRow B 5 1 v l0.length (Lib.byteCells l0)) (hg : Pz W g x y o) (j : Nat) (u : Value) : (W.setCell ⟨g, j, none⟩ u).ownsRow B 5 1 v l0.length (Lib.byteCells l0) := by
  refine ⟨h.1, ?_⟩
  rcases h.2 with h0 | ⟨k, cap, cur, hv, hg2, hh, rest⟩
  · exact .inl h0
  · refine .inr ⟨k, cap, cur, hv, hg2, ?_, rest⟩
    rw [Below.heap_setCell W ⟨g, j, none⟩ u k (fun e => ?_)]
    · exact hh
    · have h2 : W.heap[g]? = _ := hg
      have e : k = g := e
      rw [← e, hh] at h2
      injection h2 with h2
      injection h2 with _ h2 _
      exact absurd h2 (by decide)
end
section
variable {w W W' : World} {b1 b2 g b3 : Nat} {v : Value} {l0 l1 l2 : List UInt8} {r1 r2 : Option Nat} {ax ay x y : Int} {ao o : Bool}
end
structure Tp1 (w W : World) (v : Value) (l0 : List UInt8) : Prop where
  bel : Below w.heap.size w W
  row : W.ownsRow w.heap.size 5 1 v l0.length (Lib.byteCells l0)
section
variable {w W W' : World} {b1 b2 g : Nat} {v : Value} {l0 l1 l2 : List UInt8} {r1 r2 : Option Nat} {ax ay : Int} {ao : Bool}
theorem Tp1.next (h : Tp1 w W v l0) (hb : Below W.heap.size W W') : Tp1 w W' v l0 := ⟨h.bel.trans (hb.mono h.bel.size), own_bel h.row hb⟩
theorem row_conv {B : Nat} (h : W.ownsRow B 5 1 v l0.length (Lib.byteCells l0)) (h0 : 0 < l0.length) : (convert 141 9 v).run Try.prog W = .ok (.string ⟨l0.toArray⟩) W := by
  rcases h.2 with ⟨_, hz⟩ | ⟨j, cap, cur, hv, hg, hh, rest⟩
  · omega
  · subst hv
    refine run_convert_bytes_back _ 141 9 5 _ _ l0 Try.underlying141 Try.underlying5 Try.underlying9 fun i hi => ?_
    rw [h.cells (g := j) rfl i (.int .u8 (l0[i].toNat : Int)) (by simp [Lib.byteCells, hi])]
end
end Go.Proofs.Ytlfnagfcggmeaaa
namespace Go.Proofs.Ytlfnagfcggmeaaa
open Go.RowKit

/-- All flags, x and y of contours; and whether they may be told. -/
def tpE (LL : List (List Pt)) (m : Nat) : Int := if okSt 0 0 (preP LL m) then 0 else 2
def tpB (LL : List (List Pt)) (m : Nat) : List UInt8 := if okSt 0 0 (preP LL m) then encF 0 0 (preP LL m) ++ encX 0 (preP LL m) ++ encY 0 (preP LL m) else []
end Go.Proofs.Ytlfnagfcggmeaaa
namespace Go.Proofs.Ytlfnagfcggmeaaa
open Go.RowKit

/-- What Make answers: an error, and the bytes. -/
def mkE (LL : List (List Pt)) : Int := if MayG LL then (if LL.length = 0 then 0 else tpE LL LL.length) else 1
def mkB (LL : List (List Pt)) : List UInt8 := if MayG LL ∧ LL.length ≠ 0 ∧ okSt 0 0 (preP LL LL.length) then u2 (LL.length : Int) ++ boxB LL LL.length ++ plc LL LL.length ++ u2 0 ++ tpB LL LL.length else []
theorem u2_nat (n : Nat) (h : n < 65536) : u2 (n : Int) = byt 2 n := by
  unfold u2
  rw [show ((n : Int) % 65536).toNat = n by omega]
theorem tpB_len {LL : List (List Pt)} {m : Nat} (h : tot LL m ≤ 4096) : (tpB LL m).length ≤ 30000 := by
  unfold tpB
  have q7 := encF_len (preP LL m) 0 0
  have q8 := encX_len (preP LL m) 0
  have q9 := encY_len (preP LL m) 0
  rw [preP_len] at q7 q8 q9
  split
  · simp only [List.length_append]; omega
  · simp
end Go.Proofs.Ytlfnagfcggmeaaa
