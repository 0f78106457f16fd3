/- Proved here: awake answers true; what the law LineOf answers, over memory. Condition: halves of 64 bits. -/
import Derived.Test.YtmbpehhbfbmacaaMi
namespace Go.Proofs.Ytmbpehhbfbmacaa
open Go.RowKit

set_option maxHeartbeats 4000000 in
set_option maxRecDepth 100000 in
theorem awake19_any (w : World) : Calls Try.prog 6 #[] w fun e w' => e = .returned (.bool true) ∧ Below w.heap.size w w' := by
  have C1 := Lib.hid (fun W => show Calls Try.prog 8 #[.agg #[.int .i64 0, .int .i64 3], .agg #[.int .i64 (-5), .int .i64 0], .agg #[.int .i64 5, .int .i64 0], .int .i64 4, .int .i64 4] W fun e w' => e = .returned (.tuple #[.int .i64 3, .int .i64 0]) ∧ Below W.heap.size W w' from by
    have h := pseg_any 0 3 (-5) 0 5 0 4 4 W
    rw [show sgA (0, 3) (-5, 0) (5, 0) 4 4 = (3, 0) by decide +kernel] at h
    exact h)
  have C2 := Lib.hid (fun W => show Calls Try.prog 7 #[.agg #[.int .i64 3, .int .i64 4], .agg #[.int .i64 0, .int .i64 0], .int .i64 10, .int .i64 10] W fun e w' => e = .returned (.tuple #[.int .i64 5, .int .i64 0]) ∧ Below W.heap.size W w' from by
    have h := ppoint_any 3 4 0 0 10 10 W
    rw [show ptA (3, 4) (0, 0) 10 10 = (5, 0) by decide +kernel] at h
    exact h)
  have C3 := Lib.hid (fun W => show Calls Try.prog 14 #[.agg #[.int .u64 0, .int .u64 18], .agg #[.int .u64 0, .int .u64 2], .int .i64 4, .int .i64 4] W fun e w' => e = .returned (.tuple #[.int .i64 3, .int .i64 0]) ∧ Below W.heap.size W w' from by
    have h := pof_any 0 18 0 2 4 4 W (by decide) (by decide) (by decide) (by decide)
    rw [show ofA 0 18 0 2 4 4 = (3, 0) by decide +kernel] at h
    exact h)
  go_enter Try.func6, Try.ntmps6
  go_wp2_with (first
    | (go_at_call 8; (with_reducible refine (C1.out _).mono ?_); rintro e w1 ⟨rfl, hb⟩; have B1 := Lib.hid hb; clear hb C1)
    | (go_at_call 7; (with_reducible refine (C2.out _).mono ?_); rintro e w2 ⟨rfl, hb⟩; have B2 := Lib.hid (B1.out.trans (hb.mono B1.out.size)); clear hb C2)
    | (go_at_call 14; (with_reducible refine (C3.out _).mono ?_); rintro e w3 ⟨rfl, hb⟩; have B3 := Lib.hid (B2.out.trans (hb.mono B2.out.size)); clear hb C3))
  go_ret
  exact ⟨rfl, B3.out⟩
/-- Two numbers of two halves and an array of two, in boxes, one after the other. -/
structure LoS (w W : World) (sh sl bh bl r n : Int) : Prop where
  of : OfS w W sh sl bh bl
  h2 : W.heap[w.heap.size + 1 + 1]? = some (.cells #[.int .i64 r, .int .i64 n] 38 (0, 0))
section
variable {w W W' : World} {sh sl bh bl r n : Int}
theorem LoS.next (h : LoS w W sh sl bh bl r n) (hb : Below W.heap.size W W') : LoS w W' sh sl bh bl r n := ⟨h.of.next hb, (hb.block _ (heap_lt h.h2)).trans h.h2⟩
theorem LoS.cells (h : LoS w W sh sl bh bl r n) : W.cell? ⟨w.heap.size + 1 + 1, 0, none⟩ = some (.int .i64 r) ∧ W.cell? ⟨w.heap.size + 1 + 1, 1, none⟩ = some (.int .i64 n) :=
  ⟨cell_of_row W _ 0 _ 38 (0, 0) h.h2, cell_of_row W _ 1 _ 38 (0, 0) h.h2⟩
end
theorem LoS.new (w : World) (sh sl bh bl r n : Int) : LoS w (((w.alloc (.cells #[.int .u64 sh, .int .u64 sl] 37)).alloc (.cells #[.int .u64 bh, .int .u64 bl] 37)).alloc (.cells #[.int .i64 r, .int .i64 n] 38)) sh sl bh bl r n := by
  have h := OfS.new w sh sl bh bl
  obtain ⟨w2, e2⟩ : ∃ W, W = (w.alloc (.cells #[.int .u64 sh, .int .u64 sl] 37)).alloc (.cells #[.int .u64 bh, .int .u64 bl] 37) := ⟨_, rfl⟩
  have s2 : w2.heap.size = w.heap.size + 1 + 1 := by rw [e2]; simp
  rw [← e2] at h ⊢
  refine ⟨h.next ((Below.refl _ _).alloc (Nat.le_refl _) _), ?_⟩
  rw [← s2]
  exact heap_alloc_new w2 _
set_option maxHeartbeats 8000000 in
set_option maxRecDepth 100000 in
theorem law_of (sh sl bh bl : Nat) (r n : Int) (w : World) (h1 : sh < 18446744073709551616) (h2 : sl < 18446744073709551616) (h3 : bh < 18446744073709551616) (h4 : bl < 18446744073709551616) : Calls Try.prog 4 #[.agg #[.int .u64 (sh : Int), .int .u64 (sl : Int)], .agg #[.int .u64 (bh : Int), .int .u64 (bl : Int)], .agg #[.int .i64 r, .int .i64 n]] w fun e w' => e = .returned (.bool true) ∧ Below w.heap.size w w' := by
  have CA := Lib.hid (fun W => awake19_any W)
  have C1 := Lib.hid (fun W => pof_any sh sl bh bl r n W h1 h2 h3 h4)
  have C2 := Lib.hid (fun W => of_any sh sl bh bl r n W h1 h2 h3 h4)
  obtain ⟨⟨x, y⟩, hx⟩ : ∃ x, x = ofA sh sl bh bl r n := ⟨_, rfl⟩
  rw [← hx] at C1 C2
  have Q0 := Lib.hid (LoS.new w (sh : Int) (sl : Int) (bh : Int) (bl : Int) r n)
  obtain ⟨k0, k1, k2, k3⟩ := Q0.out.of.cells
  obtain ⟨k4, k5⟩ := Q0.out.cells
  clear hx h1 h2 h3 h4
  go_enter Try.func4, Try.ntmps4
  go_wp2_with (first
    | (go_at_call 6; (with_reducible refine (CA.out _).mono ?_); rintro e w1 ⟨rfl, hb⟩; have Q1 := Lib.hid (Q0.out.next hb); clear hb CA k0 k1 k2 k3 k4 k5; obtain ⟨k0, k1, k2, k3⟩ := Q1.out.of.cells; obtain ⟨k4, k5⟩ := Q1.out.cells)
    | (go_at_call 14; (with_reducible refine (C1.out _).mono ?_); rintro e w2 ⟨rfl, hb⟩; have Q2 := Lib.hid (Q1.out.next hb); clear hb C1 k0 k1 k2 k3 k4 k5; obtain ⟨k0, k1, k2, k3⟩ := Q2.out.of.cells; obtain ⟨k4, k5⟩ := Q2.out.cells)
    | (go_at_call 15; (with_reducible refine (C2.out _).mono ?_); rintro e w3 ⟨rfl, hb⟩; have Q3 := Lib.hid (Q2.out.next hb); clear hb C2 k0 k1 k2 k3 k4 k5))
  go_ret
  exact ⟨rfl, Q3.out.of.bel⟩
end Go.Proofs.Ytmbpehhbfbmacaa
