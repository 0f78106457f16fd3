/- Proved here: what the document's square and bit-by-bit root of a number answer and leave in memory. Condition: halves of 64 bits. -/
import Derived.Test.YtbkoeiofofhinaaRm
import Derived.Test.YtbkoeiofofhinaaMr
import Derived.StillTailTactics
namespace Go.Proofs.Ytbkoeiofofhinaa
open Go.RowKit

theorem numW0 (r : Nat) : numW 0 r = r := by simp [numW]
theorem digits_lo (r : Nat) (w : World) (hr : r < 18446744073709551616) :
    Calls Try.prog 20 #[.agg #[.int .u64 0, .int .u64 (r : Int)]] w fun e w' => ∃ z, e = .returned z ∧ Num w' z r 8 ∧ Below w.heap.size w w' :=
  (digits_num 0 r w (by decide) hr).mono fun _ _ ⟨z, he, hn, hb⟩ => ⟨z, he, numW0 r ▸ hn, hb⟩
set_option maxHeartbeats 1000000 in
theorem square_num (r : Nat) (w : World) (hr : r < 18446744073709551616) :
    Calls Try.prog 19 #[.int .u64 (r : Int)] w fun e w' => ∃ z, e = .returned z ∧ Num w' z (r * r) 17 ∧ Below w.heap.size w w' := by
  have HR := Lib.hid hr
  clear hr
  go_enter Try.func19, Try.ntmps19
  go_wp2_with (first
    | (go_at_call 20; (with_reducible refine (digits_lo r _ HR.out).mono ?_); rintro e w1 ⟨z1, rfl, hn1, hb1⟩; have HN1 := Lib.hid hn1; have HB1 := Lib.hid hb1; clear hn1 hb1)
    | (go_at_call 24; (with_reducible refine (times_num z1 z1 r r _ HN1.out HN1.out).mono ?_); rintro e w2 ⟨z2, rfl, hn2, hb2⟩; have HN2 := Lib.hid hn2; have HB2 := Lib.hid hb2; clear hn2 hb2))
  go_ret
  exact ⟨_, rfl, HN2.out, HB1.out.trans (HB2.out.mono HB1.out.size)⟩
/-- A number in a box. -/
structure OnH (w W : World) (a b : Nat) : Prop where
  box : Box W w.heap.size a b
  bel : Below w.heap.size w W
section
variable {w W W' : World} {a b : Nat}
theorem OnH.start (w : World) (a b : Nat) : OnH w (w.alloc (.cells #[.int .u64 (a : Int), .int .u64 (b : Int)] 24)) a b := ⟨Box.new w a b, (Below.refl _ _).alloc (Nat.le_refl _) _⟩
theorem OnH.next (h : OnH w W a b) (hb : Below W.heap.size W W') : OnH w W' a b := ⟨h.box.below hb h.box.lt, h.bel.trans (hb.mono h.bel.size)⟩
theorem OnH.drew (h : OnH w W a b) : OnH w W.drew a b := ⟨h.box, h.bel.drew⟩
theorem OnH.facts (h : OnH w W a b) : W.cell? ⟨w.heap.size, 0, none⟩ = some (.int .u64 (a : Int)) ∧ W.cell? ⟨w.heap.size, 1, none⟩ = some (.int .u64 (b : Int)) := ⟨h.box.c0, h.box.c1⟩
end
/-- 2 to the power k, as the walk writes it, and the number that is tried. -/
theorem shl_one {k : Nat} (hk : k < 64) : IntKind.u64.wrap (2 ^ k) = ((2 ^ k : Nat) : Int) := by
  have h : 2 ^ k < 2 ^ 64 := Nat.pow_lt_pow_right (by decide) hk
  rw [show (2 : Int) ^ k = ((2 ^ k : Nat) : Int) by simp]
  generalize 2 ^ k = P at *
  exact IntWalk.u64_in _ (by omega)
theorem add_one_ {r P : Nat} (h : r + P < 18446744073709551616) : IntKind.u64.wrap ((r : Int) + (P : Int)) = ((r + P : Nat) : Int) := by
  rw [← Int.natCast_add]
  exact IntWalk.u64_in _ (by omega)
end Go.Proofs.Ytbkoeiofofhinaa
