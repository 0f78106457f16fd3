/- Proved here: which fractions may be, as the two packages answer it. Condition: numbers of 64 bits. -/
import Derived.Test.YtpobhegllhhdgaaGreatGG
import Derived.IntWalk
import Derived.BigQuiet
import Derived.Deep.QuietTactic
namespace Go.Proofs.YtpobhegllhhdgaaGreat
open Go.RowKit

theorem size_any (n : Int) (w : World) (h1 : -9223372036854775808 ≤ n) (h2 : n ≤ 9223372036854775807) : Calls Tryz.prog 56 #[.int .i64 n] w fun e w' => e = .returned (.int .u64 (n.natAbs : Int)) ∧ w = w' := by
  by_cases h : n < 0
  · have hd : decide (n < 0) = true := decide_eq_true h
    go_enter Tryz.func56, Tryz.ntmps56
    go_wp2_with fail
    go_ret
    exact ⟨ret_int (by rw [wrap_u64m, wrap_u64m]; omega), rfl⟩
  · have hd : decide (n < 0) = false := decide_eq_false h
    have h0 : 0 ≤ n := by omega
    go_enter Tryz.func56, Tryz.ntmps56
    go_wp2_with fail
    go_ret
    exact ⟨ret_int (by omega), rfl⟩
theorem size_q (n : Int) (w : World) (h1 : -9223372036854775808 ≤ n) (h2 : n ≤ 9223372036854775807) : Calls Tryz.prog 56 #[.int .i64 n] w fun e w' => e = .returned (.int .u64 (n.natAbs : Int)) ∧ w' = w :=
  (size_any n w h1 h2).mono fun _ _ ⟨a, b⟩ => ⟨a, b.symm⟩
theorem common_any (a b : Nat) (w : World) (ha : a < 18446744073709551616) (hb : b < 18446744073709551616) : Calls Tryz.prog 55 #[.int .u64 (a : Int), .int .u64 (b : Int)] w fun e w' => e = .returned (.int .u64 ((a.gcd b : Nat) : Int)) ∧ w = w' := by
  go_enter Tryz.func55, Tryz.ntmps55
  go_wp2_with fail
  go_loop [0, 1, 5] (fun s t _ => ∃ x y : Nat, s = .int .u64 (x : Int) ∧ t = .int .u64 (y : Int) ∧ x < 18446744073709551616 ∧ y < 18446744073709551616 ∧ x.gcd y = a.gcd b) (fun _ t _ => (intOf t).toNat)
  case atStart => exact ⟨a, b, rfl, rfl, ha, hb, rfl⟩
  case round =>
    obtain ⟨x, y, rfl, rfl, hx, hy, hg⟩ := hrel
    have HG := Lib.hid hg
    clear hg
    rcases Nat.eq_zero_or_pos y with h0 | h0
    · subst h0
      go_wp2_with fail
      go_ret
      exact ⟨ret_int (by rw [← HG.out, Nat.gcd_zero_right]), rfl⟩
    · have hd : decide (0 < (y : Int)) = true := decide_eq_true (by omega)
      have hz : ¬ (y : Int) = 0 := by omega
      obtain ⟨r, hr⟩ : ∃ r, r = x % y := ⟨_, rfl⟩
      have F : (x : Int) % (y : Int) = (r : Int) := by rw [hr]; simp
      have F2 : (x : Int).tmod (y : Int) = (r : Int) := by rw [Int.tmod_eq_emod_of_nonneg (Int.natCast_nonneg _), F]
      have hry : r < y := by rw [hr]; exact Nat.mod_lt _ h0
      have HR := Lib.hid hr
      clear hr
      go_wp2_with fail
      exact ⟨⟨y, r, rfl, rfl, hy, by omega, by rw [← HG.out, HR.out, Nat.gcd_comm y, ← Nat.gcd_rec, Nat.gcd_comm]⟩, by simp [intOf]; omega⟩
theorem common_q (a b : Nat) (w : World) (ha : a < 18446744073709551616) (hb : b < 18446744073709551616) : Calls Tryz.prog 55 #[.int .u64 (a : Int), .int .u64 (b : Int)] w fun e w' => e = .returned (.int .u64 ((a.gcd b : Nat) : Int)) ∧ w' = w :=
  (common_any a b w ha hb).mono fun _ _ ⟨a, b⟩ => ⟨a, b.symm⟩
/-- What fits into 64 bits with a sign. -/
def Fit (z : Int) : Prop := -9223372036854775808 ≤ z ∧ z ≤ 9223372036854775807
instance (z : Int) : Decidable (Fit z) := inferInstanceAs (Decidable (_ ∧ _))
/-- A fraction's two numbers as they lie in a block of their own. -/
def Rt (w : World) (g : Nat) (n d : Int) : Prop := w.heap[g]? = some (.cells #[.int .i64 n, .int .i64 d] 24 (0, 0))
section
variable {w w' : World} {g : Nat} {n d : Int}
theorem Rt.lt (h : Rt w g n d) : g < w.heap.size := by
  rcases Nat.lt_or_ge g w.heap.size with hl | hl
  · exact hl
  · unfold Rt at h; rw [Array.getElem?_eq_none hl] at h; cases h
theorem Rt.c0 (h : Rt w g n d) : w.cell? ⟨g, 0, none⟩ = some (.int .i64 n) := cell_of_row w g 0 _ 24 (0, 0) h
theorem Rt.c1 (h : Rt w g n d) : w.cell? ⟨g, 1, none⟩ = some (.int .i64 d) := cell_of_row w g 1 _ 24 (0, 0) h
theorem Rt.below {B : Nat} (h : Rt w g n d) (hb : Below B w w') (hg : g < B) : Rt w' g n d := (hb.block g hg).trans h
theorem Rt.new (w : World) (n d : Int) : Rt (w.alloc (.cells #[.int .i64 n, .int .i64 d] 24)) w.heap.size n d := heap_alloc_new w _
theorem Rt.alloc (h : Rt w g n d) (o : Obj) : Rt (w.alloc o) g n d := h.below ((Below.refl _ _).alloc (Nat.le_refl _) o) h.lt
end
/-- A fraction that may be. -/
def Maybe (n d : Int) : Prop := 0 < d ∧ n.natAbs.gcd d.natAbs = 1
instance (n d : Int) : Decidable (Maybe n d) := inferInstanceAs (Decidable (_ ∧ _))
set_option maxHeartbeats 1000000 in
theorem may_any (n d : Int) (w : World) (hn : Fit n) (hd : Fit d) : Calls Tryz.prog 42 #[.agg #[.int .i64 n, .int .i64 d]] w fun e w' => e = .returned (.bool (decide (Maybe n d))) ∧ Below w.heap.size w w' := by
  by_cases h0 : 0 < d
  · have hd0 : decide (0 < d) = true := decide_eq_true h0
    obtain ⟨x, hx⟩ : ∃ x, x = n.natAbs.gcd d.natAbs := ⟨_, rfl⟩
    have HR := Lib.hid (show ((x : Int) == 1) = decide (Maybe n d) by rw [Bool.eq_iff_iff]; simp [Maybe, h0, ← hx]; omega)
    have HC := Lib.hid (fun W => common_q n.natAbs d.natAbs W (by have := hn.1; have := hn.2; omega) (by have := hd.1; have := hd.2; omega))
    rw [← hx] at HC
    have HN := Lib.hid (fun W => size_q n W hn.1 hn.2)
    have HD := Lib.hid (fun W => size_q d W hd.1 hd.2)
    have HB := Lib.hid (Rt.new w n d)
    have f1 := HB.out.c0
    have f2 := HB.out.c1
    clear hx hn hd
    go_enter Tryz.func42, Tryz.ntmps42
    go_wp2_with fail
    go_quiet (first
      | (go_at_call 56; with_reducible exact Calls.quiet_of_same (HN.out _))
      | (go_at_call 56; with_reducible exact Calls.quiet_of_same (HD.out _))
      | (go_at_call 55; with_reducible exact Calls.quiet_of_same (HC.out _)))
    go_wp2_with fail
    go_ret
    exact ⟨by rw [HR.out]; rfl, below_drewN (bel_a w _) nq⟩
  · have hd0 : decide (0 < d) = false := decide_eq_false h0
    have hr : decide (Maybe n d) = false := decide_eq_false fun h => h0 h.1
    have HB := Lib.hid (Rt.new w n d)
    have f1 := HB.out.c0
    have f2 := HB.out.c1
    go_enter Tryz.func42, Tryz.ntmps42
    go_wp2_with fail
    go_quiet (fail)
    go_wp2_with fail
    go_ret
    exact ⟨by rw [hr]; rfl, below_drewN (bel_a w _) nq⟩
end Go.Proofs.YtpobhegllhhdgaaGreat

namespace Go.Proofs.YtpobhegllhhdgaaGreat
open Go.RowKit

theorem p_abs (n : Int) (w : World) (h : Fit n) : Calls Tryz.prog 77 #[.int .i64 n] w fun e w' => e = .returned (.int .u64 (n.natAbs : Int)) ∧ w = w' := by
  obtain ⟨h1, h2⟩ := h
  by_cases h : n < 0
  · have hd : decide (n < 0) = true := decide_eq_true h
    go_enter Tryz.func77, Tryz.ntmps77
    go_wp2_with fail
    go_ret
    exact ⟨ret_int (by rw [wrap_u64m, wrap_u64m]; omega), rfl⟩
  · have hd : decide (n < 0) = false := decide_eq_false h
    have h0 : 0 ≤ n := by omega
    go_enter Tryz.func77, Tryz.ntmps77
    go_wp2_with fail
    go_ret
    exact ⟨ret_int (by omega), rfl⟩
theorem p_gcd (a b : Nat) (w : World) (ha : a < 18446744073709551616) (hb : b < 18446744073709551616) : Calls Tryz.prog 76 #[.int .u64 (a : Int), .int .u64 (b : Int)] w fun e w' => e = .returned (.int .u64 ((a.gcd b : Nat) : Int)) ∧ w = w' := by
  go_enter Tryz.func76, Tryz.ntmps76
  go_wp2_with fail
  go_loop [0, 1] (fun s t => ∃ x y : Nat, s = .int .u64 (x : Int) ∧ t = .int .u64 (y : Int) ∧ x < 18446744073709551616 ∧ y < 18446744073709551616 ∧ x.gcd y = a.gcd b) (fun s _ => (intOf s).toNat)
  case atStart => exact ⟨a, b, rfl, rfl, ha, hb, rfl⟩
  case round =>
    obtain ⟨x, y, rfl, rfl, hx, hy, hg⟩ := hrel
    have HG := Lib.hid hg
    clear hg
    rcases Nat.eq_zero_or_pos x with h0 | h0
    · subst h0
      go_wp2_with fail
      go_ret
      exact ⟨ret_int (by rw [← HG.out, Nat.gcd_zero_left]), rfl⟩
    · have hd : ((x : Int) != 0) = true := by simp; omega
      have hz : ¬ (x : Int) = 0 := by omega
      obtain ⟨r, hr⟩ : ∃ r, r = y % x := ⟨_, rfl⟩
      have F : (y : Int) % (x : Int) = (r : Int) := by rw [hr]; simp
      have F2 : (y : Int).tmod (x : Int) = (r : Int) := by rw [Int.tmod_eq_emod_of_nonneg (Int.natCast_nonneg _), F]
      have hry : r < x := by rw [hr]; exact Nat.mod_lt _ h0
      have HR := Lib.hid hr
      clear hr
      go_wp2_with fail
      exact ⟨⟨r, x, rfl, rfl, by omega, hx, by rw [← HG.out, HR.out, ← Nat.gcd_rec]⟩, by simp [intOf]; omega⟩
set_option maxHeartbeats 1000000 in
theorem p_may (n d : Int) (w : World) (hn : Fit n) (hd : Fit d) : Calls Tryz.prog 39 #[.agg #[.int .i64 n, .int .i64 d]] w fun e w' => e = .returned (.bool (decide (Maybe n d))) ∧ Below w.heap.size w w' := by
  by_cases h0 : 0 < d
  · have hd0 : decide (0 < d) = true := decide_eq_true h0
    obtain ⟨x, hx⟩ : ∃ x, x = n.natAbs.gcd d.natAbs := ⟨_, rfl⟩
    have HR := Lib.hid (show ((x : Int) == 1) = decide (Maybe n d) by rw [Bool.eq_iff_iff]; simp [Maybe, h0, ← hx]; omega)
    have HC := Lib.hid (fun W => (p_gcd n.natAbs d.natAbs W (by have := hn.1; have := hn.2; omega) (by have := hd.1; have := hd.2; omega)).mono fun _ _ (h : _ ∧ W = _) => (⟨h.1, h.2.symm⟩ : _ ∧ _ = W))
    rw [← hx] at HC
    obtain ⟨b, hb⟩ : ∃ b, b = d.natAbs := ⟨_, rfl⟩
    have F : IntKind.u64.wrap d = (b : Int) := by rw [hb, wrap_u64m]; have := hd.2; omega
    rw [← hb] at HC
    have HN := Lib.hid (fun W => (p_abs n W hn).mono fun _ _ (h : _ ∧ W = _) => (⟨h.1, h.2.symm⟩ : _ ∧ _ = W))
    have HB := Lib.hid (Rt.new w n d)
    have f1 := HB.out.c0
    have f2 := HB.out.c1
    clear hx hb hn hd
    go_enter Tryz.func39, Tryz.ntmps39
    go_wp2_with fail
    go_quiet (first
      | (go_at_call 77; with_reducible exact Calls.quiet_of_same (HN.out _))
      | (go_at_call 76; with_reducible exact Calls.quiet_of_same (HC.out _)))
    go_wp2_with fail
    go_ret
    exact ⟨by rw [HR.out]; rfl, below_drewN (bel_a w _) nq⟩
  · have hd0 : decide (0 < d) = false := decide_eq_false h0
    have hr : decide (Maybe n d) = false := decide_eq_false fun h => h0 h.1
    have HB := Lib.hid (Rt.new w n d)
    have f1 := HB.out.c0
    have f2 := HB.out.c1
    go_enter Tryz.func39, Tryz.ntmps39
    go_wp2_with fail
    go_quiet (fail)
    go_wp2_with fail
    go_ret
    exact ⟨by rw [hr]; rfl, below_drewN (bel_a w _) nq⟩
end Go.Proofs.YtpobhegllhhdgaaGreat
