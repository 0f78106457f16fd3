/- Proved here: what the document's square and bit-by-bit root of a number answer and leave in memory. Condition: halves of 64 bits. -/
import Derived.Test.YtmbpehhbfbmacaaLDRm
import Derived.StillTailTactics
namespace Go.Proofs.Ytmbpehhbfbmacaa
open Go.RowKit

theorem numW0 (r : Nat) : numW 0 r = r := by simp [numW]
theorem digits_lo (r : Nat) (w : World) (hr : r < 18446744073709551616) :
    Calls Try.prog 31 #[.agg #[.int .u64 0, .int .u64 (r : Int)]] w fun e w' => ∃ z, e = .returned z ∧ Num w' z r 8 ∧ Below w.heap.size w w' :=
  (digits_num 0 r w (by decide) hr).mono fun _ _ ⟨z, he, hn, hb⟩ => ⟨z, he, numW0 r ▸ hn, hb⟩
end Go.Proofs.Ytmbpehhbfbmacaa
