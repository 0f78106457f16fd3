/- Proved here: what the reference package's common, size, signed, May and both answer. Condition: numbers of 64 bits. -/
import Derived.Test.YtjjinncecfilpaaDoorGE
import Derived.IntWalk
import Derived.BigQuiet
import Derived.Deep.QuietTactic
namespace Go.Proofs.YtjjinncecfilpaaDoor
open Go.RowKit

theorem size_any (n : Int) (w : World) (h1 : -9223372036854775808 ≤ n) (h2 : n ≤ 9223372036854775807) : Calls Tryd.prog 36 #[.int .i64 n] w fun e w' => e = .returned (.int .u64 (n.natAbs : Int)) ∧ w = w' := by
  by_cases h : n < 0
  · have hd : decide (n < 0) = true := decide_eq_true h
    go_enter Tryd.func36, Tryd.ntmps36
    go_wp2_with fail
    go_ret
    exact ⟨ret_int (by rw [wrap_u64m, wrap_u64m]; omega), rfl⟩
  · have hd : decide (n < 0) = false := decide_eq_false h
    have h0 : 0 ≤ n := by omega
    go_enter Tryd.func36, Tryd.ntmps36
    go_wp2_with fail
    go_ret
    exact ⟨ret_int (by omega), rfl⟩
theorem size_q (n : Int) (w : World) (h1 : -9223372036854775808 ≤ n) (h2 : n ≤ 9223372036854775807) : Calls Tryd.prog 36 #[.int .i64 n] w fun e w' => e = .returned (.int .u64 (n.natAbs : Int)) ∧ w' = w :=
  (size_any n w h1 h2).mono fun _ _ ⟨a, b⟩ => ⟨a, b.symm⟩
theorem common_any (a b : Nat) (w : World) (ha : a < 18446744073709551616) (hb : b < 18446744073709551616) : Calls Tryd.prog 35 #[.int .u64 (a : Int), .int .u64 (b : Int)] w fun e w' => e = .returned (.int .u64 ((a.gcd b : Nat) : Int)) ∧ w = w' := by
  go_enter Tryd.func35, Tryd.ntmps35
  go_wp2_with fail
  go_loop [0, 1, 5] (fun s t _ => ∃ x y : Nat, s = .int .u64 (x : Int) ∧ t = .int .u64 (y : Int) ∧ x < 18446744073709551616 ∧ y < 18446744073709551616 ∧ x.gcd y = a.gcd b) (fun _ t _ => (intOf t).toNat)
  case atStart => exact ⟨a, b, rfl, rfl, ha, hb, rfl⟩
  case round =>
    obtain ⟨x, y, rfl, rfl, hx, hy, hg⟩ := hrel
    have HG := Lib.hid hg
    clear hg
    rcases Nat.eq_zero_or_pos y with h0 | h0
    · subst h0
      go_wp2_with fail
      go_ret
      exact ⟨ret_int (by rw [← HG.out, Nat.gcd_zero_right]), rfl⟩
    · have hd : decide (0 < (y : Int)) = true := decide_eq_true (by omega)
      have hz : ¬ (y : Int) = 0 := by omega
      obtain ⟨r, hr⟩ : ∃ r, r = x % y := ⟨_, rfl⟩
      have F : (x : Int) % (y : Int) = (r : Int) := by rw [hr]; simp
      have F2 : (x : Int).tmod (y : Int) = (r : Int) := by rw [Int.tmod_eq_emod_of_nonneg (Int.natCast_nonneg _), F]
      have hry : r < y := by rw [hr]; exact Nat.mod_lt _ h0
      have HR := Lib.hid hr
      clear hr
      go_wp2_with fail
      exact ⟨⟨y, r, rfl, rfl, hy, by omega, by rw [← HG.out, HR.out, Nat.gcd_comm y, ← Nat.gcd_rec, Nat.gcd_comm]⟩, by simp [intOf]; omega⟩
theorem common_q (a b : Nat) (w : World) (ha : a < 18446744073709551616) (hb : b < 18446744073709551616) : Calls Tryd.prog 35 #[.int .u64 (a : Int), .int .u64 (b : Int)] w fun e w' => e = .returned (.int .u64 ((a.gcd b : Nat) : Int)) ∧ w' = w :=
  (common_any a b w ha hb).mono fun _ _ ⟨a, b⟩ => ⟨a, b.symm⟩
/-- What fits into 64 bits with a sign. -/
def Fit (z : Int) : Prop := -9223372036854775808 ≤ z ∧ z ≤ 9223372036854775807
instance (z : Int) : Decidable (Fit z) := inferInstanceAs (Decidable (_ ∧ _))
theorem signed_any (neg : Bool) (u : Nat) (w : World) (hu : u < 18446744073709551616) : Calls Tryd.prog 37 #[.bool neg, .int .u64 (u : Int)] w fun e w' => (∃ v : Int, e = .returned (.tuple #[.int .i64 v, .bool (decide (Fit (sv neg u)))]) ∧ (Fit (sv neg u) → v = sv neg u) ∧ Fit v) ∧ w = w' := by
  cases neg
  · go_enter Tryd.func37, Tryd.ntmps37
    go_wp2_with fail
    go_ret2
    have e : decide ((u : Int) < 9223372036854775808) = decide (Fit (sv false u)) := by rw [decide_eq_decide]; simp [Fit, sv]; try omega
    exact ⟨⟨wrap64 (u : Int), by rw [e]; rfl, fun h => by simp only [Fit, sv] at h ⊢; unfold wrap64; simp at h ⊢; omega, by unfold Fit wrap64; omega⟩, rfl⟩
  · go_enter Tryd.func37, Tryd.ntmps37
    go_wp2_with fail
    go_ret2
    have e : decide ((u : Int) ≤ 9223372036854775808) = decide (Fit (sv true u)) := by rw [decide_eq_decide]; simp [Fit, sv]; try omega
    exact ⟨⟨wrap64 (IntKind.u64.wrap (-(u : Int))), by rw [e]; rfl, fun h => by simp only [Fit, sv] at h ⊢; rw [wrap_u64m]; unfold wrap64; simp at h ⊢; omega, by rw [wrap_u64m]; unfold Fit wrap64; omega⟩, rfl⟩
/-- A fraction's two numbers as they lie in a block of their own. -/
def Rt (w : World) (g : Nat) (n d : Int) : Prop := w.heap[g]? = some (.cells #[.int .i64 n, .int .i64 d] 24 (0, 0))
section
variable {w w' : World} {g : Nat} {n d : Int}
theorem Rt.lt (h : Rt w g n d) : g < w.heap.size := by
  rcases Nat.lt_or_ge g w.heap.size with hl | hl
  · exact hl
  · unfold Rt at h; rw [Array.getElem?_eq_none hl] at h; cases h
theorem Rt.c0 (h : Rt w g n d) : w.cell? ⟨g, 0, none⟩ = some (.int .i64 n) := cell_of_row w g 0 _ 24 (0, 0) h
theorem Rt.c1 (h : Rt w g n d) : w.cell? ⟨g, 1, none⟩ = some (.int .i64 d) := cell_of_row w g 1 _ 24 (0, 0) h
theorem Rt.fr (h : Rt w g n d) (j : Nat) : w.frozen? ⟨g, j, none⟩ = false := by
  unfold Rt at h
  simp [World.frozen?, h]
theorem Rt.below {B : Nat} (h : Rt w g n d) (hb : Below B w w') (hg : g < B) : Rt w' g n d := (hb.block g hg).trans h
theorem Rt.bel (h : Rt w g n d) (hb : Below w.heap.size w w') : Rt w' g n d := h.below hb h.lt
theorem Rt.new (w : World) (n d : Int) : Rt (w.alloc (.cells #[.int .i64 n, .int .i64 d] 24)) w.heap.size n d := heap_alloc_new w _
theorem Rt.newg {G : Nat} (hG : G = w.heap.size) : Rt (w.alloc (.cells #[.int .i64 n, .int .i64 d] 24)) G n d := hG ▸ Rt.new w n d
theorem Rt.alloc (h : Rt w g n d) (o : Obj) : Rt (w.alloc o) g n d := h.below ((Below.refl _ _).alloc (Nat.le_refl _) o) h.lt
theorem Rt.drew (h : Rt w g n d) : Rt w.drew g n d := h
theorem Rt.set0 (h : Rt w g n d) (m : Int) : Rt (w.setCell ⟨g, 0, none⟩ (.int .i64 m)) g m d := by
  unfold Rt at h ⊢
  simp [World.setCell, Array.getElem?_modify, h]
theorem Rt.set1 (h : Rt w g n d) (m : Int) : Rt (w.setCell ⟨g, 1, none⟩ (.int .i64 m)) g n m := by
  unfold Rt at h ⊢
  simp [World.setCell, Array.getElem?_modify, h]
theorem Rt.far (h : Rt w g n d) {p : Addr} (hp : g ≠ p.block) (u : Value) : Rt (w.setCell p u) g n d := (Below.heap_setCell w p u g hp).trans h
end
/-- A fraction that may be. -/
def Maybe (n d : Int) : Prop := 0 < d ∧ n.natAbs.gcd d.natAbs = 1
instance (n d : Int) : Decidable (Maybe n d) := inferInstanceAs (Decidable (_ ∧ _))
set_option maxHeartbeats 1000000 in
theorem may_any (n d : Int) (w : World) (hn : Fit n) (hd : Fit d) : Calls Tryd.prog 12 #[.agg #[.int .i64 n, .int .i64 d]] w fun e w' => e = .returned (.bool (decide (Maybe n d))) ∧ Below w.heap.size w w' := by
  by_cases h0 : 0 < d
  · have hd0 : decide (0 < d) = true := decide_eq_true h0
    obtain ⟨x, hx⟩ : ∃ x, x = n.natAbs.gcd d.natAbs := ⟨_, rfl⟩
    have HR := Lib.hid (show ((x : Int) == 1) = decide (Maybe n d) by rw [Bool.eq_iff_iff]; simp [Maybe, h0, ← hx]; omega)
    have HC := Lib.hid (fun W => common_q n.natAbs d.natAbs W (by have := hn.1; have := hn.2; omega) (by have := hd.1; have := hd.2; omega))
    rw [← hx] at HC
    have HN := Lib.hid (fun W => size_q n W hn.1 hn.2)
    have HD := Lib.hid (fun W => size_q d W hd.1 hd.2)
    have HB := Lib.hid (Rt.new w n d)
    have f1 := HB.out.c0
    have f2 := HB.out.c1
    clear hx hn hd
    go_enter Tryd.func12, Tryd.ntmps12
    go_wp2_with fail
    go_quiet (first
      | (go_at_call 36; with_reducible exact Calls.quiet_of_same (HN.out _))
      | (go_at_call 36; with_reducible exact Calls.quiet_of_same (HD.out _))
      | (go_at_call 35; with_reducible exact Calls.quiet_of_same (HC.out _)))
    go_wp2_with fail
    go_ret
    exact ⟨by rw [HR.out]; rfl, below_drewN (bel_a w _) nq⟩
  · have hd0 : decide (0 < d) = false := decide_eq_false h0
    have hr : decide (Maybe n d) = false := decide_eq_false fun h => h0 h.1
    have HB := Lib.hid (Rt.new w n d)
    have f1 := HB.out.c0
    have f2 := HB.out.c1
    go_enter Tryd.func12, Tryd.ntmps12
    go_wp2_with fail
    go_quiet (fail)
    go_wp2_with fail
    go_ret
    exact ⟨by rw [hr]; rfl, below_drewN (bel_a w _) nq⟩
theorem both_any (n d m c : Int) (w : World) (hn : Fit n) (hd : Fit d) (hm : Fit m) (hc : Fit c) : Calls Tryd.prog 43 #[.agg #[.int .i64 n, .int .i64 d], .agg #[.int .i64 m, .int .i64 c]] w fun e w' => e = .returned (.bool (decide (Maybe n d ∧ Maybe m c))) ∧ Below w.heap.size w w' := by
  have HA := Lib.hid (fun W => may_any n d W hn hd)
  have HC := Lib.hid (fun W => may_any m c W hm hc)
  have b0 := bel_tr (bel_a w (.cells #[.int .i64 n, .int .i64 d] 24)) (bel_a _ (.cells #[.int .i64 m, .int .i64 c] 24))
  have x0 : Rt ((w.alloc (.cells #[.int .i64 n, .int .i64 d] 24)).alloc (.cells #[.int .i64 m, .int .i64 c] 24)) (w.heap.size + 1) m c := Rt.newg (by simp)
  have y0 : Rt ((w.alloc (.cells #[.int .i64 n, .int .i64 d] 24)).alloc (.cells #[.int .i64 m, .int .i64 c] 24)) w.heap.size n d := (Rt.new w n d).alloc _
  have HB := Lib.hid (And.intro b0 (And.intro x0 y0))
  clear hn hd hm hc b0 x0 y0
  by_cases h1 : Maybe n d
  · have hd1 : decide (Maybe n d) = true := decide_eq_true h1
    have HE := Lib.hid (show decide (Maybe m c) = decide (Maybe n d ∧ Maybe m c) by rw [decide_eq_decide]; exact ⟨fun h => ⟨h1, h⟩, fun h => h.2⟩)
    go_enter Tryd.func43, Tryd.ntmps43
    go_wp2_with (first
      | (go_at_call 12; (with_reducible refine (HA.out _).mono ?_); rintro e w1 ⟨he, hb⟩; rw [hd1] at he; subst he; have HB := Lib.hid (And.intro (bel_tr HB.out.1 hb) (And.intro (HB.out.2.1.bel hb) (HB.out.2.2.bel hb))); have f1 := HB.out.2.1.c0; have f2 := HB.out.2.1.c1; clear hb)
      | (go_at_call 12; (with_reducible refine (HC.out _).mono ?_); rintro e w2 ⟨he, hb⟩; subst he; have HB := Lib.hid (bel_tr HB.out.1 hb); clear hb))
    go_ret
    exact ⟨by rw [← HE.out]; rfl, HB.out⟩
  · have hd1 : decide (Maybe n d) = false := decide_eq_false h1
    have HE := Lib.hid (show decide (Maybe n d ∧ Maybe m c) = false from decide_eq_false fun h => h1 h.1)
    go_enter Tryd.func43, Tryd.ntmps43
    go_wp2_with (go_at_call 12; (with_reducible refine (HA.out _).mono ?_); rintro e w1 ⟨he, hb⟩; rw [hd1] at he; subst he; have HB := Lib.hid (bel_tr HB.out.1 hb); clear hb)
    go_ret
    exact ⟨by rw [HE.out]; rfl, HB.out⟩
end Go.Proofs.YtjjinncecfilpaaDoor
