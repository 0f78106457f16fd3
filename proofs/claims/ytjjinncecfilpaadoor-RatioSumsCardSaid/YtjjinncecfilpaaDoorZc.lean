/- Proved here: what package ratio's fit answers. Condition: halves of 64 bits. -/
import Derived.Test.YtjjinncecfilpaaDoorZA
import Derived.Test.YtjjinncecfilpaaDoorXb
namespace Go.Proofs.YtjjinncecfilpaaDoor
open Go.RowKit

/-- A fraction of these numbers, or the code of one that doesn't fit. -/
def fitI (z : Int) (D : Nat) : Int × Int × Int := if Fit z ∧ Fit (D : Int) then (z, (D : Int), 0) else (0, 0, 2)
/-- Two numbers of 128 bits in boxes, and the answer's box. -/
structure FiH (w W : World) (a b c d : Nat) (p q : Int) : Prop where
  ba : O.Box W w.heap.size a b
  bb : O.Box W (w.heap.size + 1) c d
  rr : Rt W (w.heap.size + 1 + 1) p q
  bel : Below w.heap.size w W
section
variable {w W W' : World} {a b c d : Nat} {p q : Int}
theorem FiH.start (w : World) (a b c d : Nat) (p q : Int) : FiH w (((w.alloc (.cells #[.int .u64 (a : Int), .int .u64 (b : Int)] 53)).alloc (.cells #[.int .u64 (c : Int), .int .u64 (d : Int)] 53)).alloc (.cells #[.int .i64 p, .int .i64 q] 24)) a b c d p q :=
  ⟨((O.Box.new w a b).alloc _).alloc _, by have := (O.Box.new (w.alloc (.cells #[.int .u64 (a : Int), .int .u64 (b : Int)] 53)) c d).alloc (.cells #[.int .i64 p, .int .i64 q] 24); simpa using this, Rt.newg (by simp), bel_tr (bel_tr (bel_a w _) (bel_a _ _)) (bel_a _ _)⟩
theorem FiH.next (h : FiH w W a b c d p q) (hb : Below W.heap.size W W') : FiH w W' a b c d p q := ⟨h.ba.below hb h.ba.lt, h.bb.below hb h.bb.lt, h.rr.bel hb, bel_tr h.bel hb⟩
theorem FiH.drew (h : FiH w W a b c d p q) : FiH w W.drew a b c d p q := ⟨h.ba, h.bb, h.rr, h.bel.drew⟩
theorem FiH.facts (h : FiH w W a b c d p q) : W.cell? ⟨w.heap.size, 0, none⟩ = some (.int .u64 (a : Int)) ∧ W.cell? ⟨w.heap.size, 1, none⟩ = some (.int .u64 (b : Int)) ∧ W.cell? ⟨w.heap.size + 1, 0, none⟩ = some (.int .u64 (c : Int)) ∧ W.cell? ⟨w.heap.size + 1, 1, none⟩ = some (.int .u64 (d : Int)) :=
  ⟨h.ba.c0, h.ba.c1, h.bb.c0, h.bb.c1⟩
theorem FiH.res (h : FiH w W a b c d p q) : W.cell? ⟨w.heap.size + 1 + 1, 0, none⟩ = some (.int .i64 p) ∧ W.cell? ⟨w.heap.size + 1 + 1, 1, none⟩ = some (.int .i64 q) ∧ W.frozen? ⟨w.heap.size + 1 + 1, 0, none⟩ = false ∧ W.frozen? ⟨w.heap.size + 1 + 1, 1, none⟩ = false :=
  ⟨h.rr.c0, h.rr.c1, h.rr.fr 0, h.rr.fr 1⟩
theorem FiH.put (h : FiH w W a b c d p q) (x y : Int) : FiH w ((W.setCell ⟨w.heap.size + 1 + 1, 0, none⟩ (.int .i64 x)).setCell ⟨w.heap.size + 1 + 1, 1, none⟩ (.int .i64 y)) a b c d x y :=
  ⟨((h.ba.far (by show _ ≠ _; simp; omega) _).far (by show _ ≠ _; simp; omega) _), ((h.bb.far (by show _ ≠ _; simp) _).far (by show _ ≠ _; simp) _), (h.rr.set0 x).set1 y, bel_set (bel_set h.bel (by omega) _ _) (by omega) _ _⟩
end
theorem numW0 (m : Nat) : O.numW 0 m = m := by unfold O.numW; omega
theorem of_lit0 (w : World) : Calls Tryd.prog 34 #[.int .u64 9223372036854775807] w fun e w' => e = .returned (.agg #[.int .u64 0, .int .u64 9223372036854775807]) ∧ Below w.heap.size w w' := O.of_any 9223372036854775807 w
theorem of_lit1 (w : World) : Calls Tryd.prog 34 #[.int .u64 9223372036854775808] w fun e w' => e = .returned (.agg #[.int .u64 0, .int .u64 9223372036854775808]) ∧ Below w.heap.size w w' := O.of_any 9223372036854775808 w
theorem cmp_lit0 (a b : Nat) (q : Int) (hb : b < 18446744073709551616) (hq : q = O.cmpI (O.numW a b) 9223372036854775807) (w : World) : Calls Tryd.prog 58 #[.agg #[.int .u64 (a : Int), .int .u64 (b : Int)], .agg #[.int .u64 0, .int .u64 9223372036854775807]] w fun e w' => e = .returned (.int .i64 q) ∧ Below w.heap.size w w' := by
  have h := O.cmp_any a b 0 9223372036854775807 w hb (by decide)
  rw [numW0, ← hq] at h
  exact h
theorem cmp_lit1 (a b : Nat) (q : Int) (hb : b < 18446744073709551616) (hq : q = O.cmpI (O.numW a b) 9223372036854775808) (w : World) : Calls Tryd.prog 58 #[.agg #[.int .u64 (a : Int), .int .u64 (b : Int)], .agg #[.int .u64 0, .int .u64 9223372036854775808]] w fun e w' => e = .returned (.int .i64 q) ∧ Below w.heap.size w w' := by
  have h := O.cmp_any a b 0 9223372036854775808 w hb (by decide)
  rw [numW0, ← hq] at h
  exact h
theorem gtr_cmp (N M : Nat) : decide (0 < O.cmpI N M) = decide (M < N) := by
  rw [decide_eq_decide]
  unfold O.cmpI
  split
  · omega
  · split <;> omega
set_option maxHeartbeats 4000000 in
theorem fit_first0 (a b c d : Nat) (q1 : Int) (w : World) (hb : b < 18446744073709551616) (hq1 : q1 = O.cmpI (O.numW a b) 9223372036854775807) (h1 : decide (0 < q1) = true) :
    Calls Tryd.prog 33 #[.bool false, .agg #[.int .u64 (a : Int), .int .u64 (b : Int)], .agg #[.int .u64 (c : Int), .int .u64 (d : Int)]] w (RatE (0, 0, 2) w) := by
  have H := Lib.hid (FiH.start w a b c d 0 0)
  obtain ⟨f1, f2, f3, f4⟩ := H.out.facts
  have HC := Lib.hid (cmp_lit0 a b q1 hb hq1)
  clear hq1 hb
  go_enter Tryd.func33, Tryd.ntmps33
  go_wp2_with fail
  go_region_with (first
    | (go_at_call 34; (with_reducible refine (of_lit0 _).mono ?_); rintro e w1 ⟨rfl, hb⟩; have H := Lib.hid (H.out.next hb); clear hb; obtain ⟨k1, k2, k3, k4⟩ := H.out.res; obtain ⟨f1, f2, f3, f4⟩ := H.out.facts)
    | (go_at_call 34; (with_reducible refine (of_lit0 _).mono ?_); rintro e w1 ⟨rfl, hb⟩; have H := Lib.hid (H.out.drew.next hb); clear hb; obtain ⟨k1, k2, k3, k4⟩ := H.out.res; obtain ⟨f1, f2, f3, f4⟩ := H.out.facts)
    | (go_at_call 58; (with_reducible refine (HC.out _).mono ?_); rintro e w1 ⟨rfl, hb⟩; have H := Lib.hid (H.out.next hb); clear hb; obtain ⟨k1, k2, k3, k4⟩ := H.out.res; obtain ⟨f1, f2, f3, f4⟩ := H.out.facts))
  all_goals
    go_wp2_with fail
    exact bodyPost_ret (ret_rt_2 rfl rfl rfl (H.out.put 0 0).rr) rfl ⟨rfl, (H.out.put 0 0).bel⟩
set_option maxHeartbeats 4000000 in
theorem fit_second0 (a b c d : Nat) (q1 : Int) (q2 : Int) (w : World) (hb : b < 18446744073709551616) (hq1 : q1 = O.cmpI (O.numW a b) 9223372036854775807) (h1 : decide (0 < q1) = false) (hd : d < 18446744073709551616) (hq2 : q2 = O.cmpI (O.numW c d) 9223372036854775807) (h2 : decide (0 < q2) = true) :
    Calls Tryd.prog 33 #[.bool false, .agg #[.int .u64 (a : Int), .int .u64 (b : Int)], .agg #[.int .u64 (c : Int), .int .u64 (d : Int)]] w (RatE (0, 0, 2) w) := by
  have H := Lib.hid (FiH.start w a b c d 0 0)
  obtain ⟨f1, f2, f3, f4⟩ := H.out.facts
  have HC := Lib.hid (cmp_lit0 a b q1 hb hq1)
  have HD := Lib.hid (cmp_lit0 c d q2 hd hq2)
  clear hq1 hb hq2 hd
  go_enter Tryd.func33, Tryd.ntmps33
  go_wp2_with fail
  go_region_with (first
    | (go_at_call 34; (with_reducible refine (of_lit0 _).mono ?_); rintro e w1 ⟨rfl, hb⟩; have H := Lib.hid (H.out.next hb); clear hb; obtain ⟨k1, k2, k3, k4⟩ := H.out.res; obtain ⟨f1, f2, f3, f4⟩ := H.out.facts)
    | (go_at_call 34; (with_reducible refine (of_lit0 _).mono ?_); rintro e w1 ⟨rfl, hb⟩; have H := Lib.hid (H.out.drew.next hb); clear hb; obtain ⟨k1, k2, k3, k4⟩ := H.out.res; obtain ⟨f1, f2, f3, f4⟩ := H.out.facts)
    | (go_at_call 58; (with_reducible refine (HC.out _).mono ?_); rintro e w1 ⟨rfl, hb⟩; have H := Lib.hid (H.out.next hb); clear hb; obtain ⟨k1, k2, k3, k4⟩ := H.out.res; obtain ⟨f1, f2, f3, f4⟩ := H.out.facts)
    | (go_at_call 58; (with_reducible refine (HD.out _).mono ?_); rintro e w1 ⟨rfl, hb⟩; have H := Lib.hid (H.out.next hb); clear hb; obtain ⟨k1, k2, k3, k4⟩ := H.out.res; obtain ⟨f1, f2, f3, f4⟩ := H.out.facts))
  all_goals
    go_wp2_with fail
    exact bodyPost_ret (ret_rt_2 rfl rfl rfl (H.out.put 0 0).rr) rfl ⟨rfl, (H.out.put 0 0).bel⟩
set_option maxHeartbeats 4000000 in
theorem fit_both0 (a b c d : Nat) (q1 : Int) (q2 : Int) (w : World) (hb : b < 18446744073709551616) (hq1 : q1 = O.cmpI (O.numW a b) 9223372036854775807) (h1 : decide (0 < q1) = false) (hd : d < 18446744073709551616) (hq2 : q2 = O.cmpI (O.numW c d) 9223372036854775807) (h2 : decide (0 < q2) = false) (z y : Int) (F1 : IntKind.i64.wrap (b : Int) = z) (F2 : IntKind.i64.wrap (d : Int) = y) :
    Calls Tryd.prog 33 #[.bool false, .agg #[.int .u64 (a : Int), .int .u64 (b : Int)], .agg #[.int .u64 (c : Int), .int .u64 (d : Int)]] w (RatE (z, y, 0) w) := by
  have H := Lib.hid (FiH.start w a b c d 0 0)
  obtain ⟨f1, f2, f3, f4⟩ := H.out.facts
  have HC := Lib.hid (cmp_lit0 a b q1 hb hq1)
  have HD := Lib.hid (cmp_lit0 c d q2 hd hq2)
  clear hq1 hb hq2 hd
  go_enter Tryd.func33, Tryd.ntmps33
  go_wp2_with fail
  go_region_with (first
    | (go_at_call 34; (with_reducible refine (of_lit0 _).mono ?_); rintro e w1 ⟨rfl, hb⟩; have H := Lib.hid (H.out.next hb); clear hb; obtain ⟨k1, k2, k3, k4⟩ := H.out.res; obtain ⟨f1, f2, f3, f4⟩ := H.out.facts)
    | (go_at_call 34; (with_reducible refine (of_lit0 _).mono ?_); rintro e w1 ⟨rfl, hb⟩; have H := Lib.hid (H.out.drew.next hb); clear hb; obtain ⟨k1, k2, k3, k4⟩ := H.out.res; obtain ⟨f1, f2, f3, f4⟩ := H.out.facts)
    | (go_at_call 58; (with_reducible refine (HC.out _).mono ?_); rintro e w1 ⟨rfl, hb⟩; have H := Lib.hid (H.out.next hb); clear hb; obtain ⟨k1, k2, k3, k4⟩ := H.out.res; obtain ⟨f1, f2, f3, f4⟩ := H.out.facts)
    | (go_at_call 58; (with_reducible refine (HD.out _).mono ?_); rintro e w1 ⟨rfl, hb⟩; have H := Lib.hid (H.out.next hb); clear hb; obtain ⟨k1, k2, k3, k4⟩ := H.out.res; obtain ⟨f1, f2, f3, f4⟩ := H.out.facts))
  all_goals
    go_wp2_with fail
    exact bodyPost_ret (ret_rt_2 rfl rfl rfl (H.out.put z y).rr) rfl ⟨rfl, (H.out.put z y).bel⟩
set_option maxHeartbeats 4000000 in
theorem fit_first1 (a b c d : Nat) (q1 : Int) (w : World) (hb : b < 18446744073709551616) (hq1 : q1 = O.cmpI (O.numW a b) 9223372036854775808) (h1 : decide (0 < q1) = true) :
    Calls Tryd.prog 33 #[.bool true, .agg #[.int .u64 (a : Int), .int .u64 (b : Int)], .agg #[.int .u64 (c : Int), .int .u64 (d : Int)]] w (RatE (0, 0, 2) w) := by
  have H := Lib.hid (FiH.start w a b c d 0 0)
  obtain ⟨f1, f2, f3, f4⟩ := H.out.facts
  have HC := Lib.hid (cmp_lit1 a b q1 hb hq1)
  clear hq1 hb
  go_enter Tryd.func33, Tryd.ntmps33
  go_wp2_with fail
  go_region_with (first
    | (go_at_call 34; (with_reducible refine (of_lit1 _).mono ?_); rintro e w1 ⟨rfl, hb⟩; have H := Lib.hid (H.out.next hb); clear hb; obtain ⟨k1, k2, k3, k4⟩ := H.out.res; obtain ⟨f1, f2, f3, f4⟩ := H.out.facts)
    | (go_at_call 34; (with_reducible refine (of_lit1 _).mono ?_); rintro e w1 ⟨rfl, hb⟩; have H := Lib.hid (H.out.drew.next hb); clear hb; obtain ⟨k1, k2, k3, k4⟩ := H.out.res; obtain ⟨f1, f2, f3, f4⟩ := H.out.facts)
    | (go_at_call 58; (with_reducible refine (HC.out _).mono ?_); rintro e w1 ⟨rfl, hb⟩; have H := Lib.hid (H.out.next hb); clear hb; obtain ⟨k1, k2, k3, k4⟩ := H.out.res; obtain ⟨f1, f2, f3, f4⟩ := H.out.facts))
  all_goals
    go_wp2_with fail
    exact bodyPost_ret (ret_rt_2 rfl rfl rfl (H.out.put 0 0).rr) rfl ⟨rfl, (H.out.put 0 0).bel⟩
set_option maxHeartbeats 4000000 in
theorem fit_second1 (a b c d : Nat) (q1 : Int) (q2 : Int) (w : World) (hb : b < 18446744073709551616) (hq1 : q1 = O.cmpI (O.numW a b) 9223372036854775808) (h1 : decide (0 < q1) = false) (hd : d < 18446744073709551616) (hq2 : q2 = O.cmpI (O.numW c d) 9223372036854775807) (h2 : decide (0 < q2) = true) :
    Calls Tryd.prog 33 #[.bool true, .agg #[.int .u64 (a : Int), .int .u64 (b : Int)], .agg #[.int .u64 (c : Int), .int .u64 (d : Int)]] w (RatE (0, 0, 2) w) := by
  have H := Lib.hid (FiH.start w a b c d 0 0)
  obtain ⟨f1, f2, f3, f4⟩ := H.out.facts
  have HC := Lib.hid (cmp_lit1 a b q1 hb hq1)
  have HD := Lib.hid (cmp_lit0 c d q2 hd hq2)
  clear hq1 hb hq2 hd
  go_enter Tryd.func33, Tryd.ntmps33
  go_wp2_with fail
  go_region_with (first
    | (go_at_call 34; (with_reducible refine (of_lit1 _).mono ?_); rintro e w1 ⟨rfl, hb⟩; have H := Lib.hid (H.out.next hb); clear hb; obtain ⟨k1, k2, k3, k4⟩ := H.out.res; obtain ⟨f1, f2, f3, f4⟩ := H.out.facts)
    | (go_at_call 34; (with_reducible refine (of_lit1 _).mono ?_); rintro e w1 ⟨rfl, hb⟩; have H := Lib.hid (H.out.drew.next hb); clear hb; obtain ⟨k1, k2, k3, k4⟩ := H.out.res; obtain ⟨f1, f2, f3, f4⟩ := H.out.facts)
    | (go_at_call 34; (with_reducible refine (of_lit0 _).mono ?_); rintro e w1 ⟨rfl, hb⟩; have H := Lib.hid (H.out.next hb); clear hb; obtain ⟨k1, k2, k3, k4⟩ := H.out.res; obtain ⟨f1, f2, f3, f4⟩ := H.out.facts)
    | (go_at_call 34; (with_reducible refine (of_lit0 _).mono ?_); rintro e w1 ⟨rfl, hb⟩; have H := Lib.hid (H.out.drew.next hb); clear hb; obtain ⟨k1, k2, k3, k4⟩ := H.out.res; obtain ⟨f1, f2, f3, f4⟩ := H.out.facts)
    | (go_at_call 58; (with_reducible refine (HC.out _).mono ?_); rintro e w1 ⟨rfl, hb⟩; have H := Lib.hid (H.out.next hb); clear hb; obtain ⟨k1, k2, k3, k4⟩ := H.out.res; obtain ⟨f1, f2, f3, f4⟩ := H.out.facts)
    | (go_at_call 58; (with_reducible refine (HD.out _).mono ?_); rintro e w1 ⟨rfl, hb⟩; have H := Lib.hid (H.out.next hb); clear hb; obtain ⟨k1, k2, k3, k4⟩ := H.out.res; obtain ⟨f1, f2, f3, f4⟩ := H.out.facts))
  all_goals
    go_wp2_with fail
    exact bodyPost_ret (ret_rt_2 rfl rfl rfl (H.out.put 0 0).rr) rfl ⟨rfl, (H.out.put 0 0).bel⟩
set_option maxHeartbeats 4000000 in
theorem fit_both1 (a b c d : Nat) (q1 : Int) (q2 : Int) (w : World) (hb : b < 18446744073709551616) (hq1 : q1 = O.cmpI (O.numW a b) 9223372036854775808) (h1 : decide (0 < q1) = false) (hd : d < 18446744073709551616) (hq2 : q2 = O.cmpI (O.numW c d) 9223372036854775807) (h2 : decide (0 < q2) = false) (z y : Int) (F1 : IntKind.i64.wrap (IntKind.u64.wrap (-(b : Int))) = z) (F2 : IntKind.i64.wrap (d : Int) = y) :
    Calls Tryd.prog 33 #[.bool true, .agg #[.int .u64 (a : Int), .int .u64 (b : Int)], .agg #[.int .u64 (c : Int), .int .u64 (d : Int)]] w (RatE (z, y, 0) w) := by
  have H := Lib.hid (FiH.start w a b c d 0 0)
  obtain ⟨f1, f2, f3, f4⟩ := H.out.facts
  have HC := Lib.hid (cmp_lit1 a b q1 hb hq1)
  have HD := Lib.hid (cmp_lit0 c d q2 hd hq2)
  clear hq1 hb hq2 hd
  go_enter Tryd.func33, Tryd.ntmps33
  go_wp2_with fail
  go_region_with (first
    | (go_at_call 34; (with_reducible refine (of_lit1 _).mono ?_); rintro e w1 ⟨rfl, hb⟩; have H := Lib.hid (H.out.next hb); clear hb; obtain ⟨k1, k2, k3, k4⟩ := H.out.res; obtain ⟨f1, f2, f3, f4⟩ := H.out.facts)
    | (go_at_call 34; (with_reducible refine (of_lit1 _).mono ?_); rintro e w1 ⟨rfl, hb⟩; have H := Lib.hid (H.out.drew.next hb); clear hb; obtain ⟨k1, k2, k3, k4⟩ := H.out.res; obtain ⟨f1, f2, f3, f4⟩ := H.out.facts)
    | (go_at_call 34; (with_reducible refine (of_lit0 _).mono ?_); rintro e w1 ⟨rfl, hb⟩; have H := Lib.hid (H.out.next hb); clear hb; obtain ⟨k1, k2, k3, k4⟩ := H.out.res; obtain ⟨f1, f2, f3, f4⟩ := H.out.facts)
    | (go_at_call 34; (with_reducible refine (of_lit0 _).mono ?_); rintro e w1 ⟨rfl, hb⟩; have H := Lib.hid (H.out.drew.next hb); clear hb; obtain ⟨k1, k2, k3, k4⟩ := H.out.res; obtain ⟨f1, f2, f3, f4⟩ := H.out.facts)
    | (go_at_call 58; (with_reducible refine (HC.out _).mono ?_); rintro e w1 ⟨rfl, hb⟩; have H := Lib.hid (H.out.next hb); clear hb; obtain ⟨k1, k2, k3, k4⟩ := H.out.res; obtain ⟨f1, f2, f3, f4⟩ := H.out.facts)
    | (go_at_call 58; (with_reducible refine (HD.out _).mono ?_); rintro e w1 ⟨rfl, hb⟩; have H := Lib.hid (H.out.next hb); clear hb; obtain ⟨k1, k2, k3, k4⟩ := H.out.res; obtain ⟨f1, f2, f3, f4⟩ := H.out.facts))
  all_goals
    go_wp2_with fail
    exact bodyPost_ret (ret_rt_2 rfl rfl rfl (H.out.put z y).rr) rfl ⟨rfl, (H.out.put z y).bel⟩
end Go.Proofs.YtjjinncecfilpaaDoor
