/- Proved here: what line's Of answers. Condition: halves of 64 bits. -/
import Derived.Test.YtmbpehhbfbmacaaMf
namespace Go.Proofs.Ytmbpehhbfbmacaa
open Go.RowKit

theorem of_out {r n : Int} (h : ¬ riP r n) : r < 1 ∨ (¬ r < 1 ∧ 1048576 < r) ∨ (¬ r < 1 ∧ ¬ 1048576 < r ∧ n < 1) ∨ (¬ r < 1 ∧ ¬ 1048576 < r ∧ ¬ n < 1 ∧ 255 < n) := by
  unfold riP at h
  omega
set_option maxHeartbeats 8000000 in
set_option maxRecDepth 100000 in
theorem of_wrong (sh sl bh bl : Nat) (r n : Int) (w : World) (h : ¬ riP r n) : Calls Try.prog 14 #[.agg #[.int .u64 (sh : Int), .int .u64 (sl : Int)], .agg #[.int .u64 (bh : Int), .int .u64 (bl : Int)], .int .i64 r, .int .i64 n] w fun e w' => e = .returned (.tuple #[.int .i64 0, .int .i64 1]) ∧ Below w.heap.size w w' := by
  have Q0 := Lib.hid (OgS.new w sh sl bh bl r)
  obtain ⟨k0, k1, k2, k3, k4⟩ := Q0.out.cells
  rcases of_out h with h1 | ⟨h1, h2⟩ | ⟨h1, h2, h3⟩ | ⟨h1, h2, h3, h4⟩
  · have g1 : decide (r < 1) = true := decide_eq_true h1
    clear h h1
    go_enter Try.func14, Try.ntmps14
    go_wp2_with fail
    go_ret2
    exact ⟨rfl, Q0.out.bel⟩
  · have g1 : decide (r < 1) = false := decide_eq_false h1
    have g2 : decide (1048576 < r) = true := decide_eq_true h2
    clear h h1 h2
    go_enter Try.func14, Try.ntmps14
    go_wp2_with fail
    go_ret2
    exact ⟨rfl, Q0.out.bel⟩
  · have g1 : decide (r < 1) = false := decide_eq_false h1
    have g2 : decide (1048576 < r) = false := decide_eq_false h2
    have g3 : decide (n < 1) = true := decide_eq_true h3
    clear h h1 h2 h3
    go_enter Try.func14, Try.ntmps14
    go_wp2_with fail
    go_ret2
    exact ⟨rfl, Q0.out.bel⟩
  · have g1 : decide (r < 1) = false := decide_eq_false h1
    have g2 : decide (1048576 < r) = false := decide_eq_false h2
    have g3 : decide (n < 1) = false := decide_eq_false h3
    have g4 : decide (255 < n) = true := decide_eq_true h4
    clear h h1 h2 h3 h4
    go_enter Try.func14, Try.ntmps14
    go_wp2_with fail
    go_ret2
    exact ⟨rfl, Q0.out.bel⟩
theorem pof_any (sh sl bh bl : Nat) (r n : Int) (w : World) (h1 : sh < 18446744073709551616) (h2 : sl < 18446744073709551616) (h3 : bh < 18446744073709551616) (h4 : bl < 18446744073709551616) : Calls Try.prog 14 #[.agg #[.int .u64 (sh : Int), .int .u64 (sl : Int)], .agg #[.int .u64 (bh : Int), .int .u64 (bl : Int)], .int .i64 r, .int .i64 n] w fun e w' => e = .returned (.tuple #[.int .i64 (ofA sh sl bh bl r n).1, .int .i64 (ofA sh sl bh bl r n).2]) ∧ Below w.heap.size w w' := by
  by_cases hr : riP r n
  · obtain ⟨R, rfl⟩ : ∃ R : Nat, r = (R : Int) := ⟨r.toNat, by have := hr.1.1; omega⟩
    obtain ⟨M, rfl⟩ : ∃ M : Nat, n = (M : Int) := ⟨n.toNat, by have := hr.2.1; omega⟩
    have r1 : 1 ≤ R := by have := hr.1.1; omega
    have r2 : R ≤ 1048576 := by have := hr.1.2; omega
    have m1 : 1 ≤ M := by have := hr.2.1; omega
    have m2 : M ≤ 255 := by have := hr.2.2; omega
    by_cases hz : bh = 0 ∧ bl = 0
    · rw [show ofA sh sl bh bl R M = (0, 13) by unfold ofA; rw [if_pos hr, if_pos hz]]
      obtain ⟨rfl, rfl⟩ := hz
      exact of_zero sh sl R M w r1 r2 m1 m2
    · rw [show ofA sh sl bh bl R M = ((lev (numW sh sl) (numW bh bl) R M : Int), 0) by unfold ofA; rw [if_pos hr, if_neg hz]; rfl]
      have hq : M * M ≤ 255 * 255 := Nat.mul_le_mul m2 m2
      have C1 : ∀ W, Calls Try.prog 27 #[.agg #[.int .u64 (sh : Int), .int .u64 (sl : Int)], .int .u64 ((M * M : Nat) : Int)] W fun e w' => ∃ x y z : Nat, e = .returned (.agg #[.int .u64 (x : Int), .int .u64 (y : Int), .int .u64 (z : Int)]) ∧ (num3 x y z = numW sh sl * (M * M) ∧ x < 18446744073709551616 ∧ y < 18446744073709551616 ∧ z < 18446744073709551616) ∧ Below W.heap.size W w' := fun W =>
        (times_any sh sl (M * M) W h1 h2 (by omega)).mono fun _ _ ⟨x, y, z, e, a, b, c, d, f⟩ => ⟨x, y, z, e, ⟨a, b, c, d⟩, f⟩
      have C2 : ∀ (gr gb gu x y z : Nat) W, QuI W gr gb gu R (bh : Int) (bl : Int) x y z → num3 x y z = numW sh sl * (M * M) ∧ x < 18446744073709551616 ∧ y < 18446744073709551616 ∧ z < 18446744073709551616 → Calls Try.prog 28 #[.int .i64 (M : Int), .func (.func 29) #[] #[.pointer (some ⟨gr, 0, none⟩), .pointer (some ⟨gb, 0, none⟩), .pointer (some ⟨gu, 0, none⟩)]] W fun e w' => ∃ n : Nat, e = .returned (.int .i64 (n : Int)) ∧ lev (numW sh sl) (numW bh bl) R M = n ∧ Below W.heap.size W w' := fun gr gb gu x y z W hQ hx =>
        (search_any gr gb gu R bh bl x y z M W ⟨hQ.xr, hQ.xb, hQ.xu⟩ r2 m2 h3 h4 hx.2.2.1 hx.2.2.2).mono fun _ _ ⟨k, e, a, b, c, d⟩ => ⟨k, e, pas_lev a (fun j hj => by rw [← hx.1]; exact b j hj) (fun hk => by rw [← hx.1]; exact c hk), d⟩
      have hs : ¬ (bh : Int) = 0 ∨ (bh = 0 ∧ ¬ (bl : Int) = 0) := by omega
      rcases hs with g0 | ⟨rfl, g0⟩
      · exact (of_hi sh sl R M (M * M) bh bl _ w r1 r2 m1 m2 rfl g0 C1 C2).mono fun _ _ ⟨k, e, a, b⟩ => ⟨by rw [e, a], b⟩
      · exact (of_lo sh sl R M (M * M) bl _ w r1 r2 m1 m2 rfl g0 C1 C2).mono fun _ _ ⟨k, e, a, b⟩ => ⟨by rw [e, a], b⟩
  · rw [show ofA sh sl bh bl r n = (0, 1) by unfold ofA; rw [if_neg hr]]
    exact of_wrong sh sl bh bl r n w hr
end Go.Proofs.Ytmbpehhbfbmacaa
