/- Proved here: that RootBetween's law answers true, over every number of 64 bits. Condition: a number of 64 bits. -/
import Derived.Test.YtbkoeiofofhinaaYa
namespace Go.Proofs.Ytbkoeiofofhinaa
open Go.RowKit

theorem whole_lo (n r : Nat) (v : Bool) (hv : v = decide (r * r = n)) (hr : Gr n 1 r) (hrl : r < 18446744073709551616) (hn : n < 18446744073709551616) (w : World) :
    Calls Try.prog 10 #[.agg #[.int .u64 0, .int .u64 (n : Int)]] w fun e w' => e = .returned (.bool v) ∧ Below w.heap.size w w' := by
  have h := whole_is 0 n r w (by rw [numW0]; exact hr) hrl (by decide) hn
  rw [numW0, ← hv] at h
  exact h
theorem below_lo (n r : Nat) (v : Bool) (hv : bw r 1 n = v) (hr : r < 18446744073709551616) (hn : n < 18446744073709551616) (w : World) :
    Calls Try.prog 14 #[.int .u64 (r : Int), .agg #[.int .u64 0, .int .u64 (n : Int)], .agg #[.int .u64 0, .int .u64 1]] w fun e w' => e = .returned (.bool v) ∧ Below w.heap.size w w' := by
  have h := below_any r 0 n 0 1 w hr (by decide) hn (by decide) (by decide)
  rw [numW0, numW0, hv] at h
  exact h
set_option maxHeartbeats 4000000 in
set_option maxRecDepth 100000 in
theorem between_core (n r q r1 q1 : Nat) (v u : Bool) (w : World)
    (E1 : IntKind.u64.wrap ((r : Int) * (r : Int)) = (q : Int)) (E2 : IntKind.u64.wrap ((r : Int) + 1) = (r1 : Int)) (E3 : u = false → IntKind.u64.wrap ((r1 : Int) * (r1 : Int)) = (q1 : Int))
    (G1 : r < 4294967296) (G2 : q ≤ n) (G3 : ((r : Int) == 4294967295) = u) (G4 : u = false → n < q1) (G5 : ((q : Int) == (n : Int)) = v)
    (H1 : ∀ W, Calls Try.prog 9 #[.int .u64 (n : Int)] W fun e w' => e = .returned (.int .u64 (r : Int)) ∧ Below W.heap.size W w')
    (H2 : ∀ W, Calls Try.prog 10 #[.agg #[.int .u64 0, .int .u64 (n : Int)]] W fun e w' => e = .returned (.bool v) ∧ Below W.heap.size W w')
    (H3 : ∀ W, Calls Try.prog 14 #[.int .u64 (r : Int), .agg #[.int .u64 0, .int .u64 (n : Int)], .agg #[.int .u64 0, .int .u64 1]] W fun e w' => e = .returned (.bool true) ∧ Below W.heap.size W w')
    (H4 : ∀ W, Calls Try.prog 14 #[.int .u64 (r1 : Int), .agg #[.int .u64 0, .int .u64 (n : Int)], .agg #[.int .u64 0, .int .u64 1]] W fun e w' => e = .returned (.bool false) ∧ Below W.heap.size W w') :
    Calls Try.prog 5 #[.int .u64 (n : Int)] w fun e w' => e = .returned (.bool true) ∧ Below w.heap.size w w' := by
  have K1 := Lib.hid (fun W => H1 W)
  have K2 := Lib.hid (fun W => H2 W)
  have K3 := Lib.hid (fun W => H3 W)
  have K4 := Lib.hid (fun W => H4 W)
  have B0 := Lib.hid (Below.refl w.heap.size w)
  have D1 : decide ((r : Int) < 4294967296) = true := decide_eq_true (by omega)
  clear H1 H2 H3 H4
  cases u
  · have D3 := G4 rfl
    have D4 := E3 rfl
    clear E3 G4 G1
    go_enter Try.func5, Try.ntmps5
    go_wp2_with (first
      | (go_at_call 6; (with_reducible refine (awake_any _).mono ?_); rintro e w1 ⟨rfl, hb⟩; have B1 := Lib.hid (B0.out.trans (hb.mono B0.out.size)); clear hb)
      | (go_at_call 9; (with_reducible refine (K1.out _).mono ?_); rintro e w2 ⟨rfl, hb⟩; have B2 := Lib.hid (B1.out.trans (hb.mono B1.out.size)); clear hb)
      | (go_at_call 10; (with_reducible refine (K2.out _).mono ?_); rintro e w3 ⟨rfl, hb⟩; have B3 := Lib.hid (B2.out.trans (hb.mono B2.out.size)); clear hb)
      | (go_at_call 14; (with_reducible refine (K3.out _).mono ?_); rintro e w4 ⟨rfl, hb⟩; have B4 := Lib.hid (B3.out.trans (hb.mono B3.out.size)); clear hb)
      | (go_at_call 14; (with_reducible refine (K4.out _).mono ?_); rintro e w5 ⟨rfl, hb⟩; have B5 := Lib.hid (B4.out.trans (hb.mono B4.out.size)); clear hb))
    go_ret
    exact ⟨rfl, B5.out⟩
  · clear E3 G4 G1
    go_enter Try.func5, Try.ntmps5
    go_wp2_with (first
      | (go_at_call 6; (with_reducible refine (awake_any _).mono ?_); rintro e w1 ⟨rfl, hb⟩; have B1 := Lib.hid (B0.out.trans (hb.mono B0.out.size)); clear hb)
      | (go_at_call 9; (with_reducible refine (K1.out _).mono ?_); rintro e w2 ⟨rfl, hb⟩; have B2 := Lib.hid (B1.out.trans (hb.mono B1.out.size)); clear hb)
      | (go_at_call 10; (with_reducible refine (K2.out _).mono ?_); rintro e w3 ⟨rfl, hb⟩; have B3 := Lib.hid (B2.out.trans (hb.mono B2.out.size)); clear hb)
      | (go_at_call 14; (with_reducible refine (K3.out _).mono ?_); rintro e w4 ⟨rfl, hb⟩; have B4 := Lib.hid (B3.out.trans (hb.mono B3.out.size)); clear hb)
      | (go_at_call 14; (with_reducible refine (K4.out _).mono ?_); rintro e w5 ⟨rfl, hb⟩; have B5 := Lib.hid (B4.out.trans (hb.mono B4.out.size)); clear hb))
    go_ret
    exact ⟨rfl, B5.out⟩
theorem wrapN {x : Int} {n : Nat} (h : x = (n : Int)) (hn : n < 18446744073709551616) : IntKind.u64.wrap x = (n : Int) := by
  rw [h]
  exact IntWalk.u64_in _ ⟨Int.natCast_nonneg _, by omega⟩
theorem law_between (n : Nat) (w : World) (hn : n < 18446744073709551616) :
    Calls Try.prog 5 #[.int .u64 (n : Int)] w fun e w' => e = .returned (.bool true) ∧ Below w.heap.size w w' := by
  obtain ⟨r, hr, _⟩ := gr_of (n := n) (by omega)
  have hrl : r < 4294967296 := hr.below (by rw [sq_one]; omega)
  have hle := hr.le
  have hlt := hr.lt
  rw [sq_one] at hle hlt
  have hr1 : (r + 1) * (r + 1) ≤ 4294967296 * 4294967296 := Nat.mul_le_mul (by omega) (by omega)
  refine between_core n r (r * r) (r + 1) ((r + 1) * (r + 1)) (decide (r * r = n)) (decide (r = 4294967295)) w (wrapN (by simp) (by omega)) (wrapN (by simp) (by omega)) (fun hu => wrapN (by simp) ?_) hrl hle ?_ (fun _ => hlt) ?_
    (fun W => floor_is n r W hr hn) (fun W => whole_lo n r _ rfl hr (by omega) hn W) (fun W => below_lo n r true (decide_eq_true hr.le) (by omega) hn W) (fun W => below_lo n (r + 1) false (decide_eq_false (Nat.not_le_of_lt hr.lt)) (by omega) hn W)
  · have h1 := of_decide_eq_false hu
    have h2 : (r + 1) * (r + 1) ≤ 4294967295 * 4294967295 := Nat.mul_le_mul (by omega) (by omega)
    omega
  · rw [Bool.eq_iff_iff]
    simp
    omega
  · rw [Bool.eq_iff_iff]
    simp
    omega
end Go.Proofs.Ytbkoeiofofhinaa
