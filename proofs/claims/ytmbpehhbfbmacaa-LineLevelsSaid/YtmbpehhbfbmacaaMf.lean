/- Proved here: what line's Of answers, of a reach and steps that may be. Condition: the calls of it. -/
import Derived.Test.YtmbpehhbfbmacaaMe
import Derived.OrdersHeld
import Derived.Deep.RegionHeld
namespace Go.Proofs.Ytmbpehhbfbmacaa
open Go.RowKit

set_option maxHeartbeats 8000000 in
set_option maxRecDepth 100000 in
theorem of_zero (sh sl R M : Nat) (w : World) (h1 : 1 ≤ R) (h2 : R ≤ 1048576) (h3 : 1 ≤ M) (h4 : M ≤ 255) : Calls Try.prog 14 #[.agg #[.int .u64 (sh : Int), .int .u64 (sl : Int)], .agg #[.int .u64 0, .int .u64 0], .int .i64 (R : Int), .int .i64 (M : Int)] w fun e w' => e = .returned (.tuple #[.int .i64 0, .int .i64 13]) ∧ Below w.heap.size w w' := by
  have Q0 := Lib.hid (OgS.new w sh sl 0 0 R)
  obtain ⟨k0, k1, k2, k3, k4⟩ := Q0.out.cells
  have g1 : decide ((R : Int) < 1) = false := decide_eq_false (by omega)
  have g2 : decide (1048576 < (R : Int)) = false := decide_eq_false (by omega)
  have g3 : decide ((M : Int) < 1) = false := decide_eq_false (by omega)
  have g4 : decide (255 < (M : Int)) = false := decide_eq_false (by omega)
  have C0 := Lib.hid (fun W => show Calls Try.prog 17 #[.int .u64 0] W fun e w' => e = .returned (.agg #[.int .u64 0, .int .u64 0]) ∧ Below W.heap.size W w' from of_pt 0 W)
  clear h1 h2 h3 h4
  go_enter Try.func14, Try.ntmps14
  go_wp2_with fail
  go_region_held3 (fun w' => w'.cell? ⟨w.heap.size + 1, 0, none⟩ = some (.int .u64 0) ∧ w'.cell? ⟨w.heap.size + 1, 1, none⟩ = some (.int .u64 0))
    (first | exact ⟨k2, k3⟩ | go_keep)
    (first | (go_at_call 17; (with_reducible refine (C0.out _).mono ?_); rintro e w1 ⟨rfl, hb⟩; have Q1 := Lib.hid (Q0.out.next ((Below.drew (Below.refl _ _)).trans hb)); clear hb C0; clear k0 k1 k2 k3 k4; obtain ⟨k0, k1, k2, k3, k4⟩ := Q1.out.cells))
  go_wp2_with fail
  go_ret2
  exact ⟨rfl, Q1.out.bel⟩
set_option maxHeartbeats 8000000 in
set_option maxRecDepth 100000 in
theorem of_hi (sh sl R M q : Nat) (BH BL : Int) (S : Nat → Prop) (w : World) (h1 : 1 ≤ R) (h2 : R ≤ 1048576) (h3 : 1 ≤ M) (h4 : M ≤ 255) (hq : q = M * M) (g0 : ¬ BH = 0)
    (C1 : ∀ W, Calls Try.prog 27 #[.agg #[.int .u64 (sh : Int), .int .u64 (sl : Int)], .int .u64 (q : Int)] W fun e w' => ∃ x y z : Nat, e = .returned (.agg #[.int .u64 (x : Int), .int .u64 (y : Int), .int .u64 (z : Int)]) ∧ (num3 x y z = numW sh sl * q ∧ x < 18446744073709551616 ∧ y < 18446744073709551616 ∧ z < 18446744073709551616) ∧ Below W.heap.size W w')
    (C2 : ∀ (gr gb gu x y z : Nat) W, QuI W gr gb gu R BH BL x y z → num3 x y z = numW sh sl * q ∧ x < 18446744073709551616 ∧ y < 18446744073709551616 ∧ z < 18446744073709551616 → Calls Try.prog 28 #[.int .i64 (M : Int), .func (.func 29) #[] #[.pointer (some ⟨gr, 0, none⟩), .pointer (some ⟨gb, 0, none⟩), .pointer (some ⟨gu, 0, none⟩)]] W fun e w' => ∃ n : Nat, e = .returned (.int .i64 (n : Int)) ∧ S n ∧ Below W.heap.size W w') :
    Calls Try.prog 14 #[.agg #[.int .u64 (sh : Int), .int .u64 (sl : Int)], .agg #[.int .u64 BH, .int .u64 BL], .int .i64 (R : Int), .int .i64 (M : Int)] w fun e w' => ∃ k : Nat, e = .returned (.tuple #[.int .i64 (k : Int), .int .i64 0]) ∧ S k ∧ Below w.heap.size w w' := by
  have Q0 := Lib.hid (OgS.new w sh sl BH BL R)
  obtain ⟨k0, k1, k2, k3, k4⟩ := Q0.out.cells
  have g1 : decide ((R : Int) < 1) = false := decide_eq_false (by omega)
  have g2 : decide (1048576 < (R : Int)) = false := decide_eq_false (by omega)
  have g3 : decide ((M : Int) < 1) = false := decide_eq_false (by omega)
  have g4 : decide (255 < (M : Int)) = false := decide_eq_false (by omega)
  have C0 := Lib.hid (fun W => show Calls Try.prog 17 #[.int .u64 0] W fun e w' => e = .returned (.agg #[.int .u64 0, .int .u64 0]) ∧ Below W.heap.size W w' from of_pt 0 W)
  have hq2 : q ≤ 255 * 255 := by rw [hq]; exact Nat.mul_le_mul h4 h4
  have e1 : IntKind.i64.wrap ((M : Int) * (M : Int)) = (q : Int) := by rw [← Int.natCast_mul, ← hq, i64_in _ (by omega)]
  have e2 : IntKind.u64.wrap (q : Int) = (q : Int) := by rw [IntKind.wrap_u64]; omega
  have K1 := Lib.hid C1
  have K2 := Lib.hid C2
  clear h1 h2 h3 h4 hq hq2 C1 C2
  go_enter Try.func14, Try.ntmps14
  go_wp2_with fail
  go_region_held3 (fun w' => w'.cell? ⟨w.heap.size + 1, 0, none⟩ = some (.int .u64 BH) ∧ w'.cell? ⟨w.heap.size + 1, 1, none⟩ = some (.int .u64 BL))
    (first | exact ⟨k2, k3⟩ | go_keep)
    (first | (go_at_call 17; (with_reducible refine (C0.out _).mono ?_); rintro e w1 ⟨rfl, hb⟩; have Q1 := Lib.hid (Q0.out.next ((Below.drew (Below.refl _ _)).trans hb)); clear hb C0; clear k0 k1 k2 k3 k4; obtain ⟨k0, k1, k2, k3, k4⟩ := Q1.out.cells))
  go_wp2_with (first
    | (go_at_call 27; (with_reducible refine (K1.out _).mono ?_); rintro e w2 ⟨x, y, z, rfl, hx, hb⟩; have Q2 := Lib.hid (Q1.out.next hb); have T := Lib.hid hx; clear hb hx K1)
    | (go_at_call 28; (with_reducible refine (K2.out _ _ _ x y z _ (que_new Q2.out x y z) T.out).mono ?_); rintro e w3 ⟨k, rfl, hk, hb⟩; have Q3 := Lib.hid ((Q2.out.bel.alloc Q2.out.bel.size _).trans (hb.mono (by have := Q2.out.bel.size; simp; omega))); have K := Lib.hid hk; clear hb hk K2))
  go_ret2
  exact ⟨k, rfl, K.out, Q3.out⟩
set_option maxHeartbeats 8000000 in
set_option maxRecDepth 100000 in
theorem of_lo (sh sl R M q : Nat) (BL : Int) (S : Nat → Prop) (w : World) (h1 : 1 ≤ R) (h2 : R ≤ 1048576) (h3 : 1 ≤ M) (h4 : M ≤ 255) (hq : q = M * M) (g0 : ¬ BL = 0)
    (C1 : ∀ W, Calls Try.prog 27 #[.agg #[.int .u64 (sh : Int), .int .u64 (sl : Int)], .int .u64 (q : Int)] W fun e w' => ∃ x y z : Nat, e = .returned (.agg #[.int .u64 (x : Int), .int .u64 (y : Int), .int .u64 (z : Int)]) ∧ (num3 x y z = numW sh sl * q ∧ x < 18446744073709551616 ∧ y < 18446744073709551616 ∧ z < 18446744073709551616) ∧ Below W.heap.size W w')
    (C2 : ∀ (gr gb gu x y z : Nat) W, QuI W gr gb gu R 0 BL x y z → num3 x y z = numW sh sl * q ∧ x < 18446744073709551616 ∧ y < 18446744073709551616 ∧ z < 18446744073709551616 → Calls Try.prog 28 #[.int .i64 (M : Int), .func (.func 29) #[] #[.pointer (some ⟨gr, 0, none⟩), .pointer (some ⟨gb, 0, none⟩), .pointer (some ⟨gu, 0, none⟩)]] W fun e w' => ∃ n : Nat, e = .returned (.int .i64 (n : Int)) ∧ S n ∧ Below W.heap.size W w') :
    Calls Try.prog 14 #[.agg #[.int .u64 (sh : Int), .int .u64 (sl : Int)], .agg #[.int .u64 0, .int .u64 BL], .int .i64 (R : Int), .int .i64 (M : Int)] w fun e w' => ∃ k : Nat, e = .returned (.tuple #[.int .i64 (k : Int), .int .i64 0]) ∧ S k ∧ Below w.heap.size w w' := by
  have Q0 := Lib.hid (OgS.new w sh sl 0 BL R)
  obtain ⟨k0, k1, k2, k3, k4⟩ := Q0.out.cells
  have g1 : decide ((R : Int) < 1) = false := decide_eq_false (by omega)
  have g2 : decide (1048576 < (R : Int)) = false := decide_eq_false (by omega)
  have g3 : decide ((M : Int) < 1) = false := decide_eq_false (by omega)
  have g4 : decide (255 < (M : Int)) = false := decide_eq_false (by omega)
  have C0 := Lib.hid (fun W => show Calls Try.prog 17 #[.int .u64 0] W fun e w' => e = .returned (.agg #[.int .u64 0, .int .u64 0]) ∧ Below W.heap.size W w' from of_pt 0 W)
  have hq2 : q ≤ 255 * 255 := by rw [hq]; exact Nat.mul_le_mul h4 h4
  have e1 : IntKind.i64.wrap ((M : Int) * (M : Int)) = (q : Int) := by rw [← Int.natCast_mul, ← hq, i64_in _ (by omega)]
  have e2 : IntKind.u64.wrap (q : Int) = (q : Int) := by rw [IntKind.wrap_u64]; omega
  have K1 := Lib.hid C1
  have K2 := Lib.hid C2
  clear h1 h2 h3 h4 hq hq2 C1 C2
  go_enter Try.func14, Try.ntmps14
  go_wp2_with fail
  go_region_held3 (fun w' => w'.cell? ⟨w.heap.size + 1, 0, none⟩ = some (.int .u64 0) ∧ w'.cell? ⟨w.heap.size + 1, 1, none⟩ = some (.int .u64 BL))
    (first | exact ⟨k2, k3⟩ | go_keep)
    (first | (go_at_call 17; (with_reducible refine (C0.out _).mono ?_); rintro e w1 ⟨rfl, hb⟩; have Q1 := Lib.hid (Q0.out.next ((Below.drew (Below.refl _ _)).trans hb)); clear hb C0; clear k0 k1 k2 k3 k4; obtain ⟨k0, k1, k2, k3, k4⟩ := Q1.out.cells))
  go_wp2_with (first
    | (go_at_call 27; (with_reducible refine (K1.out _).mono ?_); rintro e w2 ⟨x, y, z, rfl, hx, hb⟩; have Q2 := Lib.hid (Q1.out.next hb); have T := Lib.hid hx; clear hb hx K1)
    | (go_at_call 28; (with_reducible refine (K2.out _ _ _ x y z _ (que_new Q2.out x y z) T.out).mono ?_); rintro e w3 ⟨k, rfl, hk, hb⟩; have Q3 := Lib.hid ((Q2.out.bel.alloc Q2.out.bel.size _).trans (hb.mono (by have := Q2.out.bel.size; simp; omega))); have K := Lib.hid hk; clear hb hk K2))
  go_ret2
  exact ⟨k, rfl, K.out, Q3.out⟩
end Go.Proofs.Ytmbpehhbfbmacaa
