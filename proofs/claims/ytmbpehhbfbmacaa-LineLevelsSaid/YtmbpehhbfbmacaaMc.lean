/- Proved here: what line's times and above answer. Condition: words of 64 bits. -/
import Derived.Test.YtmbpehhbfbmacaaMb
namespace Go.Proofs.Ytmbpehhbfbmacaa
open Go.RowKit

theorem times_any (a b n : Nat) (w : World) (ha : a < 18446744073709551616) (hb : b < 18446744073709551616) (hn : n < 18446744073709551616) :
    Calls Try.prog 27 #[.agg #[.int .u64 (a : Int), .int .u64 (b : Int)], .int .u64 (n : Int)] w fun e w' => ∃ x y z : Nat, e = .returned (.agg #[.int .u64 (x : Int), .int .u64 (y : Int), .int .u64 (z : Int)]) ∧ num3 x y z = numW a b * n ∧ x < 18446744073709551616 ∧ y < 18446744073709551616 ∧ z < 18446744073709551616 ∧ Below w.heap.size w w' := by
  obtain ⟨h1, h2, h3, h4, h5⟩ := words_in ha hb hn
  refine (times_core a b n (pHi a n) (pLo a n) (pHi b n) (pLo b n) _ w (fun W => mul_any b n W hb hn) (fun W => mul_any a n W ha hn) (fun W => add_pt _ _ _ _ rfl h2 h3 h4 h1 W)).mono ?_
  rintro e w' ⟨rfl, hb⟩
  refine ⟨_, _, _, rfl, words_of rfl, ?_, Nat.mod_lt _ (by decide), h5, hb⟩
  rw [e8] at h1
  unfold hiW
  omega
/-- Two numbers of 192 bits in boxes, one after the other. -/
structure AbS (w W : World) (a b c d e f : Nat) : Prop where
  bel : Below w.heap.size w W
  b0 : B3 W w.heap.size a b c
  b1 : B3 W (w.heap.size + 1) d e f
section
variable {w W W' : World} {a b c d e f : Nat}
theorem AbS.next (h : AbS w W a b c d e f) (hb : Below W.heap.size W W') : AbS w W' a b c d e f := ⟨h.bel.trans (hb.mono h.bel.size), h.b0.bel hb, h.b1.bel hb⟩
theorem AbS.cells (h : AbS w W a b c d e f) : W.cell? ⟨w.heap.size, 0, none⟩ = some (.int .u64 (a : Int)) ∧ W.cell? ⟨w.heap.size, 1, none⟩ = some (.int .u64 (b : Int)) ∧ W.cell? ⟨w.heap.size, 2, none⟩ = some (.int .u64 (c : Int)) ∧
    W.cell? ⟨w.heap.size + 1, 0, none⟩ = some (.int .u64 (d : Int)) ∧ W.cell? ⟨w.heap.size + 1, 1, none⟩ = some (.int .u64 (e : Int)) ∧ W.cell? ⟨w.heap.size + 1, 2, none⟩ = some (.int .u64 (f : Int)) :=
  ⟨h.b0.cells.1, h.b0.cells.2.1, h.b0.cells.2.2, h.b1.cells.1, h.b1.cells.2.1, h.b1.cells.2.2⟩
end
theorem AbS.new (w : World) (a b c d e f : Nat) : AbS w ((w.alloc (.cells #[.int .u64 (a : Int), .int .u64 (b : Int), .int .u64 (c : Int)] 59)).alloc (.cells #[.int .u64 (d : Int), .int .u64 (e : Int), .int .u64 (f : Int)] 59)) a b c d e f := by
  have a1 : Below w.heap.size w (w.alloc (.cells #[.int .u64 (a : Int), .int .u64 (b : Int), .int .u64 (c : Int)] 59)) := (Below.refl _ _).alloc (Nat.le_refl _) _
  have s1 : (w.alloc (.cells #[.int .u64 (a : Int), .int .u64 (b : Int), .int .u64 (c : Int)] 59)).heap.size = w.heap.size + 1 := by simp
  have g0 : B3 (w.alloc (.cells #[.int .u64 (a : Int), .int .u64 (b : Int), .int .u64 (c : Int)] 59)) w.heap.size a b c := heap_alloc_new w _
  generalize (w.alloc (.cells #[.int .u64 (a : Int), .int .u64 (b : Int), .int .u64 (c : Int)] 59)) = w2 at *
  have a2 : Below w2.heap.size w2 (w2.alloc (.cells #[.int .u64 (d : Int), .int .u64 (e : Int), .int .u64 (f : Int)] 59)) := (Below.refl _ _).alloc (Nat.le_refl _) _
  refine ⟨a1.trans (a2.mono (by omega)), g0.bel a2, ?_⟩
  rw [← s1]
  exact heap_alloc_new w2 _
set_option maxHeartbeats 4000000 in
set_option maxRecDepth 100000 in
theorem above_any (a b c d e f : Nat) (w : World) (hb : b < 18446744073709551616) (he : e < 18446744073709551616) (hc : c < 18446744073709551616) (hf : f < 18446744073709551616) :
    Calls Try.prog 30 #[.agg #[.int .u64 (a : Int), .int .u64 (b : Int), .int .u64 (c : Int)], .agg #[.int .u64 (d : Int), .int .u64 (e : Int), .int .u64 (f : Int)]] w fun r w' => r = .returned (.bool (decide (num3 d e f < num3 a b c))) ∧ Below w.heap.size w w' := by
  have Q0 := Lib.hid (AbS.new w a b c d e f)
  obtain ⟨k0, k1, k2, k3, k4, k5⟩ := Q0.out.cells
  have C1 := Lib.hid (fun W => cmp_any a b d e W hb he)
  obtain ⟨X, hX⟩ : ∃ X, X = numW a b := ⟨_, rfl⟩
  obtain ⟨Y, hY⟩ : ∃ Y, Y = numW d e := ⟨_, rfl⟩
  have e1 : num3 a b c = X * 18446744073709551616 + c := by rw [hX]; rfl
  have e2 : num3 d e f = Y * 18446744073709551616 + f := by rw [hY]; rfl
  rw [← hX, ← hY] at C1
  rw [e1, e2]
  clear hX hY e1 e2 hb he
  rcases Nat.lt_trichotomy X Y with h | h | h
  · have HX := Lib.hid (show decide (Y * 18446744073709551616 + f < X * 18446744073709551616 + c) = false from decide_eq_false (by omega))
    rw [show cmpI X Y = -1 from if_pos h] at C1
    clear h hc hf
    go_enter Try.func30, Try.ntmps30
    go_wp2_with (go_at_call 41; (with_reducible refine (C1.out _).mono ?_); rintro e w1 ⟨rfl, hb⟩; have Q1 := Lib.hid (Q0.out.next hb); clear hb; clear k0 k1 k2 k3 k4 k5; obtain ⟨k0, k1, k2, k3, k4, k5⟩ := Q1.out.cells)
    go_ret
    exact ⟨by rw [HX.out]; rfl, Q1.out.bel⟩
  · have HX := Lib.hid (show decide (Y * 18446744073709551616 + f < X * 18446744073709551616 + c) = decide (f < c) from decide_eq_decide.2 (by omega))
    rw [show cmpI X Y = 0 by unfold cmpI; rw [if_neg (by omega), if_neg (by omega)]] at C1
    clear h hc hf
    go_enter Try.func30, Try.ntmps30
    go_wp2_with (go_at_call 41; (with_reducible refine (C1.out _).mono ?_); rintro e w1 ⟨rfl, hb⟩; have Q1 := Lib.hid (Q0.out.next hb); clear hb; clear k0 k1 k2 k3 k4 k5; obtain ⟨k0, k1, k2, k3, k4, k5⟩ := Q1.out.cells)
    go_ret
    exact ⟨by rw [HX.out]; rfl, Q1.out.bel⟩
  · have HX := Lib.hid (show decide (Y * 18446744073709551616 + f < X * 18446744073709551616 + c) = true from decide_eq_true (by omega))
    rw [show cmpI X Y = 1 by unfold cmpI; rw [if_neg (by omega), if_pos h]] at C1
    clear h hc hf
    go_enter Try.func30, Try.ntmps30
    go_wp2_with (go_at_call 41; (with_reducible refine (C1.out _).mono ?_); rintro e w1 ⟨rfl, hb⟩; have Q1 := Lib.hid (Q0.out.next hb); clear hb; clear k0 k1 k2 k3 k4 k5; obtain ⟨k0, k1, k2, k3, k4, k5⟩ := Q1.out.cells)
    go_ret
    exact ⟨by rw [HX.out]; rfl, Q1.out.bel⟩
end Go.Proofs.Ytmbpehhbfbmacaa
