/- Proved here: what the document's numbers of any size answer and leave in memory (ported). Conditions stand at each. -/
import Derived.Test.YtpobhegllhhdgaaGreatVC
namespace Go.Proofs.YtpobhegllhhdgaaGreat
open Go.RowKit

/-- A fraction's sign and its two numbers as they lie in a block of their own. -/
def Pt (w : World) (g : Nat) (s : Bool) (n d : Nat) : Prop := w.heap[g]? = some (.cells #[.bool s, .int .u64 (n : Int), .int .u64 (d : Int)] 138 (0, 0))
section
variable {w w' : World} {g : Nat} {s : Bool} {n d : Nat}
theorem Pt.lt (h : Pt w g s n d) : g < w.heap.size := by
  rcases Nat.lt_or_ge g w.heap.size with hl | hl
  · exact hl
  · unfold Pt at h; rw [Array.getElem?_eq_none hl] at h; cases h
theorem Pt.c0 (h : Pt w g s n d) : w.cell? ⟨g, 0, none⟩ = some (.bool s) := cell_of_row w g 0 _ 138 (0, 0) h
theorem Pt.c1 (h : Pt w g s n d) : w.cell? ⟨g, 1, none⟩ = some (.int .u64 (n : Int)) := cell_of_row w g 1 _ 138 (0, 0) h
theorem Pt.c2 (h : Pt w g s n d) : w.cell? ⟨g, 2, none⟩ = some (.int .u64 (d : Int)) := cell_of_row w g 2 _ 138 (0, 0) h
theorem Pt.fr (h : Pt w g s n d) (j : Nat) : w.frozen? ⟨g, j, none⟩ = false := by
  unfold Pt at h
  simp [World.frozen?, h]
theorem Pt.below {B : Nat} (h : Pt w g s n d) (hb : Below B w w') (hg : g < B) : Pt w' g s n d := (hb.block g hg).trans h
theorem Pt.bel (h : Pt w g s n d) (hb : Below w.heap.size w w') : Pt w' g s n d := h.below hb h.lt
theorem Pt.new (w : World) (s : Bool) (n d : Nat) : Pt (w.alloc (.cells #[.bool s, .int .u64 (n : Int), .int .u64 (d : Int)] 138)) w.heap.size s n d := heap_alloc_new w _
theorem Pt.newg {G : Nat} (hG : G = w.heap.size) : Pt (w.alloc (.cells #[.bool s, .int .u64 (n : Int), .int .u64 (d : Int)] 138)) G s n d := hG ▸ Pt.new w s n d
theorem Pt.alloc (h : Pt w g s n d) (o : Obj) : Pt (w.alloc o) g s n d := h.below ((Below.refl _ _).alloc (Nat.le_refl _) o) h.lt
theorem Pt.drew (h : Pt w g s n d) : Pt w.drew g s n d := h
theorem Pt.set0 (h : Pt w g s n d) (x : Bool) : Pt (w.setCell ⟨g, 0, none⟩ (.bool x)) g x n d := by
  unfold Pt at h ⊢
  simp [World.setCell, Array.getElem?_modify, h]
theorem Pt.set1 (h : Pt w g s n d) (x : Nat) : Pt (w.setCell ⟨g, 1, none⟩ (.int .u64 (x : Int))) g s x d := by
  unfold Pt at h ⊢
  simp [World.setCell, Array.getElem?_modify, h]
theorem Pt.set2 (h : Pt w g s n d) (x : Nat) : Pt (w.setCell ⟨g, 2, none⟩ (.int .u64 (x : Int))) g s n x := by
  unfold Pt at h ⊢
  simp [World.setCell, Array.getElem?_modify, h]
theorem Pt.set (h : Pt w g s n d) (x : Bool) (y z : Nat) : Pt (((w.setCell ⟨g, 0, none⟩ (.bool x)).setCell ⟨g, 1, none⟩ (.int .u64 (y : Int))).setCell ⟨g, 2, none⟩ (.int .u64 (z : Int))) g x y z := ((h.set0 x).set1 y).set2 z
theorem Pt.far (h : Pt w g s n d) {p : Addr} (hp : g ≠ p.block) (u : Value) : Pt (w.setCell p u) g s n d := (Below.heap_setCell w p u g hp).trans h
end
theorem ret_pt {fn : Func} {p : Tmp} {tmps : Array Value} {W : World} {g : Nat} {s : Bool} {n d : Nat} (h : fn.results = #[.cell p 138]) (hp : tmps.getD p undef = .pointer (some ⟨g, 0, none⟩)) (hb : Pt W g s n d) :
    (results fn tmps).run Tryz.prog W = .ok (.agg #[.bool s, .int .u64 (n : Int), .int .u64 (d : Int)]) W := by
  have hc0 := hb.c0
  have hc1 := hb.c1
  have hc2 := hb.c2
  rw [Array.getD_eq_getD_getElem?] at hp
  simp [results, h, hp, go_sem, hc0, hc1, hc2]
/-- What a call answers that makes a fraction with its sign beside it. -/
def PtE (s : Bool) (n d : Nat) (w : World) (e : Ending) (w' : World) : Prop := e = .returned (.agg #[.bool s, .int .u64 (n : Int), .int .u64 (d : Int)]) ∧ Below w.heap.size w w'
theorem p_neg (s : Bool) (n d : Nat) (w : World) : Calls Tryz.prog 126 #[.agg #[.bool s, .int .u64 (n : Int), .int .u64 (d : Int)]] w (PtE (!s) n d w) := by
  have HB := Lib.hid (bel_tr (bel_a w (.cells #[.bool s, .int .u64 (n : Int), .int .u64 (d : Int)] 138)) (bel_a _ (.cells #[.bool (!s), .int .u64 (n : Int), .int .u64 (d : Int)] 138)))
  go_enter Tryz.func126, Tryz.ntmps126
  go_wp2_with fail
  exact bodyPost_ret (ret_pt rfl rfl (Pt.newg (by simp))) rfl ⟨rfl, HB.out⟩
end Go.Proofs.YtpobhegllhhdgaaGreat
namespace Go.Proofs.YtpobhegllhhdgaaGreat
open Go.RowKit

/-- A fraction in its box, and the answer's box behind it. -/
structure OpH (w W : World) (n d : Int) (s : Bool) (a b : Nat) : Prop where
  ba : Rt W w.heap.size n d
  rr : Pt W (w.heap.size + 1) s a b
  bel : Below w.heap.size w W
section
variable {w W W' : World} {n d : Int} {s : Bool} {a b : Nat}
theorem OpH.mk' (w : World) (n d : Int) (s : Bool) (a b : Nat) : OpH w ((w.alloc (.cells #[.int .i64 n, .int .i64 d] 24)).alloc (.cells #[.bool s, .int .u64 (a : Int), .int .u64 (b : Int)] 138)) n d s a b :=
  ⟨(Rt.new w n d).alloc _, Pt.newg (by simp), bel_tr (bel_a w _) (bel_a _ _)⟩
theorem OpH.start (w : World) (n d : Int) : OpH w ((w.alloc (.cells #[.int .i64 n, .int .i64 d] 24)).alloc (.cells #[.bool false, .int .u64 0, .int .u64 0] 138)) n d false 0 0 := OpH.mk' w n d false 0 0
theorem OpH.drew (h : OpH w W n d s a b) : OpH w W.drew n d s a b := ⟨h.ba, h.rr, h.bel.drew⟩
theorem OpH.facts (h : OpH w W n d s a b) : W.cell? ⟨w.heap.size, 0, none⟩ = some (.int .i64 n) ∧ W.cell? ⟨w.heap.size, 1, none⟩ = some (.int .i64 d) := ⟨h.ba.c0, h.ba.c1⟩
theorem OpH.res (h : OpH w W n d s a b) : W.cell? ⟨w.heap.size + 1, 0, none⟩ = some (.bool s) ∧ W.cell? ⟨w.heap.size + 1, 1, none⟩ = some (.int .u64 (a : Int)) ∧ W.cell? ⟨w.heap.size + 1, 2, none⟩ = some (.int .u64 (b : Int)) ∧
    W.frozen? ⟨w.heap.size + 1, 0, none⟩ = false ∧ W.frozen? ⟨w.heap.size + 1, 1, none⟩ = false ∧ W.frozen? ⟨w.heap.size + 1, 2, none⟩ = false := ⟨h.rr.c0, h.rr.c1, h.rr.c2, h.rr.fr 0, h.rr.fr 1, h.rr.fr 2⟩
theorem OpH.put (h : OpH w W n d s a b) (x : Bool) (y z : Nat) : OpH w (((W.setCell ⟨w.heap.size + 1, 0, none⟩ (.bool x)).setCell ⟨w.heap.size + 1, 1, none⟩ (.int .u64 (y : Int))).setCell ⟨w.heap.size + 1, 2, none⟩ (.int .u64 (z : Int))) n d x y z :=
  ⟨((h.ba.far (by show _ ≠ _; simp) _).far (by show _ ≠ _; simp) _).far (by show _ ≠ _; simp) _, h.rr.set x y z, bel_set (bel_set (bel_set h.bel (by omega) _ _) (by omega) _ _) (by omega) _ _⟩
end
set_option maxHeartbeats 2000000 in
theorem p_open (n d : Int) (w : World) (hn : Fit n) (hd : Fit d) (h0 : 0 < d) : Calls Tryz.prog 105 #[.agg #[.int .i64 n, .int .i64 d]] w (PtE (decide (n < 0)) n.natAbs d.natAbs w) := by
  have H := Lib.hid (OpH.start w n d)
  obtain ⟨f1, f2⟩ := H.out.facts
  obtain ⟨k1, k2, k3, k4, k5, k6⟩ := H.out.res
  obtain ⟨s, hs⟩ : ∃ s, decide (n < 0) = s := ⟨_, rfl⟩
  obtain ⟨a, ha⟩ : ∃ a, a = n.natAbs := ⟨_, rfl⟩
  obtain ⟨b, hb⟩ : ∃ b, b = d.natAbs := ⟨_, rfl⟩
  have F : IntKind.u64.wrap d = (b : Int) := by rw [hb, wrap_u64m]; have := hd.2; omega
  have HA := Lib.hid (fun W => p_abs n W hn)
  rw [← ha] at HA
  rw [hs, ← ha, ← hb]
  clear ha hb hn hd h0
  go_enter Tryz.func105, Tryz.ntmps105
  go_wp2_with fail
  go_region_held3 (fun w' => w'.cell? ⟨w.heap.size, 0, none⟩ = some (.int .i64 n) ∧ w'.cell? ⟨w.heap.size, 1, none⟩ = some (.int .i64 d))
    (first | with_reducible exact H.out.facts | with_reducible exact H.out.drew.facts | with_reducible exact (H.out.put s a b).facts | go_keep)
    (first | (go_at_call 77; (with_reducible refine (HA.out _).mono ?_); rintro e w1 ⟨rfl, rfl⟩))
  all_goals
    go_wp2_with fail
    exact bodyPost_ret (ret_pt rfl rfl (OpH.mk' w n d s a b).drew.rr) rfl ⟨rfl, (OpH.mk' w n d s a b).drew.bel⟩
end Go.Proofs.YtpobhegllhhdgaaGreat

namespace Go.Proofs.YtpobhegllhhdgaaGreat
open Go.RowKit

/-- A fraction of these numbers, or the code of one that doesn't fit. -/
def fitI (z : Int) (D : Nat) : Int × Int × Int := if Fit z ∧ Fit (D : Int) then (z, (D : Int), 0) else (0, 0, 2)
/-- Two numbers of 128 bits in boxes, and the answer's box. -/
structure FiH (w W : World) (a b c d : Nat) (p q : Int) : Prop where
  ba : O.Box W w.heap.size a b
  bb : O.Box W (w.heap.size + 1) c d
  rr : Rt W (w.heap.size + 1 + 1) p q
  bel : Below w.heap.size w W
section
variable {w W W' : World} {a b c d : Nat} {p q : Int}
theorem FiH.start (w : World) (a b c d : Nat) (p q : Int) : FiH w (((w.alloc (.cells #[.int .u64 (a : Int), .int .u64 (b : Int)] 153)).alloc (.cells #[.int .u64 (c : Int), .int .u64 (d : Int)] 153)).alloc (.cells #[.int .i64 p, .int .i64 q] 24)) a b c d p q :=
  ⟨((O.Box.new w a b).alloc _).alloc _, by have := (O.Box.new (w.alloc (.cells #[.int .u64 (a : Int), .int .u64 (b : Int)] 153)) c d).alloc (.cells #[.int .i64 p, .int .i64 q] 24); simpa using this, Rt.newg (by simp), bel_tr (bel_tr (bel_a w _) (bel_a _ _)) (bel_a _ _)⟩
theorem FiH.next (h : FiH w W a b c d p q) (hb : Below W.heap.size W W') : FiH w W' a b c d p q := ⟨h.ba.below hb h.ba.lt, h.bb.below hb h.bb.lt, h.rr.bel hb, bel_tr h.bel hb⟩
theorem FiH.drew (h : FiH w W a b c d p q) : FiH w W.drew a b c d p q := ⟨h.ba, h.bb, h.rr, h.bel.drew⟩
theorem FiH.facts (h : FiH w W a b c d p q) : W.cell? ⟨w.heap.size, 0, none⟩ = some (.int .u64 (a : Int)) ∧ W.cell? ⟨w.heap.size, 1, none⟩ = some (.int .u64 (b : Int)) ∧ W.cell? ⟨w.heap.size + 1, 0, none⟩ = some (.int .u64 (c : Int)) ∧ W.cell? ⟨w.heap.size + 1, 1, none⟩ = some (.int .u64 (d : Int)) :=
  ⟨h.ba.c0, h.ba.c1, h.bb.c0, h.bb.c1⟩
theorem FiH.res (h : FiH w W a b c d p q) : W.cell? ⟨w.heap.size + 1 + 1, 0, none⟩ = some (.int .i64 p) ∧ W.cell? ⟨w.heap.size + 1 + 1, 1, none⟩ = some (.int .i64 q) ∧ W.frozen? ⟨w.heap.size + 1 + 1, 0, none⟩ = false ∧ W.frozen? ⟨w.heap.size + 1 + 1, 1, none⟩ = false :=
  ⟨h.rr.c0, h.rr.c1, h.rr.fr 0, h.rr.fr 1⟩
theorem FiH.put (h : FiH w W a b c d p q) (x y : Int) : FiH w ((W.setCell ⟨w.heap.size + 1 + 1, 0, none⟩ (.int .i64 x)).setCell ⟨w.heap.size + 1 + 1, 1, none⟩ (.int .i64 y)) a b c d x y :=
  ⟨((h.ba.far (by show _ ≠ _; simp; omega) _).far (by show _ ≠ _; simp; omega) _), ((h.bb.far (by show _ ≠ _; simp) _).far (by show _ ≠ _; simp) _), (h.rr.set0 x).set1 y, bel_set (bel_set h.bel (by omega) _ _) (by omega) _ _⟩
end
theorem numW0 (m : Nat) : O.numW 0 m = m := by unfold O.numW; omega
theorem of_lit0 (w : World) : Calls Tryz.prog 136 #[.int .u64 9223372036854775807] w fun e w' => e = .returned (.agg #[.int .u64 0, .int .u64 9223372036854775807]) ∧ Below w.heap.size w w' := O.of_any 9223372036854775807 w
theorem of_lit1 (w : World) : Calls Tryz.prog 136 #[.int .u64 9223372036854775808] w fun e w' => e = .returned (.agg #[.int .u64 0, .int .u64 9223372036854775808]) ∧ Below w.heap.size w w' := O.of_any 9223372036854775808 w
theorem cmp_lit0 (a b : Nat) (q : Int) (hb : b < 18446744073709551616) (hq : q = O.cmpI (O.numW a b) 9223372036854775807) (w : World) : Calls Tryz.prog 121 #[.agg #[.int .u64 (a : Int), .int .u64 (b : Int)], .agg #[.int .u64 0, .int .u64 9223372036854775807]] w fun e w' => e = .returned (.int .i64 q) ∧ Below w.heap.size w w' := by
  have h := O.cmp_any a b 0 9223372036854775807 w hb (by decide)
  rw [numW0, ← hq] at h
  exact h
theorem cmp_lit1 (a b : Nat) (q : Int) (hb : b < 18446744073709551616) (hq : q = O.cmpI (O.numW a b) 9223372036854775808) (w : World) : Calls Tryz.prog 121 #[.agg #[.int .u64 (a : Int), .int .u64 (b : Int)], .agg #[.int .u64 0, .int .u64 9223372036854775808]] w fun e w' => e = .returned (.int .i64 q) ∧ Below w.heap.size w w' := by
  have h := O.cmp_any a b 0 9223372036854775808 w hb (by decide)
  rw [numW0, ← hq] at h
  exact h
theorem gtr_cmp (N M : Nat) : decide (0 < O.cmpI N M) = decide (M < N) := by
  rw [decide_eq_decide]
  unfold O.cmpI
  split
  · omega
  · split <;> omega
set_option maxHeartbeats 4000000 in
theorem fit_first0 (a b c d : Nat) (q1 : Int) (w : World) (hb : b < 18446744073709551616) (hq1 : q1 = O.cmpI (O.numW a b) 9223372036854775807) (h1 : decide (0 < q1) = true) :
    Calls Tryz.prog 132 #[.bool false, .agg #[.int .u64 (a : Int), .int .u64 (b : Int)], .agg #[.int .u64 (c : Int), .int .u64 (d : Int)]] w (RatE (0, 0, 2) w) := by
  have H := Lib.hid (FiH.start w a b c d 0 0)
  obtain ⟨f1, f2, f3, f4⟩ := H.out.facts
  have HC := Lib.hid (cmp_lit0 a b q1 hb hq1)
  clear hq1 hb
  go_enter Tryz.func132, Tryz.ntmps132
  go_wp2_with fail
  go_region_with (first
    | (go_at_call 136; (with_reducible refine (of_lit0 _).mono ?_); rintro e w1 ⟨rfl, hb⟩; have H := Lib.hid (H.out.next hb); clear hb; obtain ⟨k1, k2, k3, k4⟩ := H.out.res; obtain ⟨f1, f2, f3, f4⟩ := H.out.facts)
    | (go_at_call 136; (with_reducible refine (of_lit0 _).mono ?_); rintro e w1 ⟨rfl, hb⟩; have H := Lib.hid (H.out.drew.next hb); clear hb; obtain ⟨k1, k2, k3, k4⟩ := H.out.res; obtain ⟨f1, f2, f3, f4⟩ := H.out.facts)
    | (go_at_call 121; (with_reducible refine (HC.out _).mono ?_); rintro e w1 ⟨rfl, hb⟩; have H := Lib.hid (H.out.next hb); clear hb; obtain ⟨k1, k2, k3, k4⟩ := H.out.res; obtain ⟨f1, f2, f3, f4⟩ := H.out.facts))
  all_goals
    go_wp2_with fail
    exact bodyPost_ret (ret_rt_2 rfl rfl rfl (H.out.put 0 0).rr) rfl ⟨rfl, (H.out.put 0 0).bel⟩
set_option maxHeartbeats 4000000 in
theorem fit_second0 (a b c d : Nat) (q1 : Int) (q2 : Int) (w : World) (hb : b < 18446744073709551616) (hq1 : q1 = O.cmpI (O.numW a b) 9223372036854775807) (h1 : decide (0 < q1) = false) (hd : d < 18446744073709551616) (hq2 : q2 = O.cmpI (O.numW c d) 9223372036854775807) (h2 : decide (0 < q2) = true) :
    Calls Tryz.prog 132 #[.bool false, .agg #[.int .u64 (a : Int), .int .u64 (b : Int)], .agg #[.int .u64 (c : Int), .int .u64 (d : Int)]] w (RatE (0, 0, 2) w) := by
  have H := Lib.hid (FiH.start w a b c d 0 0)
  obtain ⟨f1, f2, f3, f4⟩ := H.out.facts
  have HC := Lib.hid (cmp_lit0 a b q1 hb hq1)
  have HD := Lib.hid (cmp_lit0 c d q2 hd hq2)
  clear hq1 hb hq2 hd
  go_enter Tryz.func132, Tryz.ntmps132
  go_wp2_with fail
  go_region_with (first
    | (go_at_call 136; (with_reducible refine (of_lit0 _).mono ?_); rintro e w1 ⟨rfl, hb⟩; have H := Lib.hid (H.out.next hb); clear hb; obtain ⟨k1, k2, k3, k4⟩ := H.out.res; obtain ⟨f1, f2, f3, f4⟩ := H.out.facts)
    | (go_at_call 136; (with_reducible refine (of_lit0 _).mono ?_); rintro e w1 ⟨rfl, hb⟩; have H := Lib.hid (H.out.drew.next hb); clear hb; obtain ⟨k1, k2, k3, k4⟩ := H.out.res; obtain ⟨f1, f2, f3, f4⟩ := H.out.facts)
    | (go_at_call 121; (with_reducible refine (HC.out _).mono ?_); rintro e w1 ⟨rfl, hb⟩; have H := Lib.hid (H.out.next hb); clear hb; obtain ⟨k1, k2, k3, k4⟩ := H.out.res; obtain ⟨f1, f2, f3, f4⟩ := H.out.facts)
    | (go_at_call 121; (with_reducible refine (HD.out _).mono ?_); rintro e w1 ⟨rfl, hb⟩; have H := Lib.hid (H.out.next hb); clear hb; obtain ⟨k1, k2, k3, k4⟩ := H.out.res; obtain ⟨f1, f2, f3, f4⟩ := H.out.facts))
  all_goals
    go_wp2_with fail
    exact bodyPost_ret (ret_rt_2 rfl rfl rfl (H.out.put 0 0).rr) rfl ⟨rfl, (H.out.put 0 0).bel⟩
set_option maxHeartbeats 4000000 in
theorem fit_both0 (a b c d : Nat) (q1 : Int) (q2 : Int) (w : World) (hb : b < 18446744073709551616) (hq1 : q1 = O.cmpI (O.numW a b) 9223372036854775807) (h1 : decide (0 < q1) = false) (hd : d < 18446744073709551616) (hq2 : q2 = O.cmpI (O.numW c d) 9223372036854775807) (h2 : decide (0 < q2) = false) (z y : Int) (F1 : IntKind.i64.wrap (b : Int) = z) (F2 : IntKind.i64.wrap (d : Int) = y) :
    Calls Tryz.prog 132 #[.bool false, .agg #[.int .u64 (a : Int), .int .u64 (b : Int)], .agg #[.int .u64 (c : Int), .int .u64 (d : Int)]] w (RatE (z, y, 0) w) := by
  have H := Lib.hid (FiH.start w a b c d 0 0)
  obtain ⟨f1, f2, f3, f4⟩ := H.out.facts
  have HC := Lib.hid (cmp_lit0 a b q1 hb hq1)
  have HD := Lib.hid (cmp_lit0 c d q2 hd hq2)
  clear hq1 hb hq2 hd
  go_enter Tryz.func132, Tryz.ntmps132
  go_wp2_with fail
  go_region_with (first
    | (go_at_call 136; (with_reducible refine (of_lit0 _).mono ?_); rintro e w1 ⟨rfl, hb⟩; have H := Lib.hid (H.out.next hb); clear hb; obtain ⟨k1, k2, k3, k4⟩ := H.out.res; obtain ⟨f1, f2, f3, f4⟩ := H.out.facts)
    | (go_at_call 136; (with_reducible refine (of_lit0 _).mono ?_); rintro e w1 ⟨rfl, hb⟩; have H := Lib.hid (H.out.drew.next hb); clear hb; obtain ⟨k1, k2, k3, k4⟩ := H.out.res; obtain ⟨f1, f2, f3, f4⟩ := H.out.facts)
    | (go_at_call 121; (with_reducible refine (HC.out _).mono ?_); rintro e w1 ⟨rfl, hb⟩; have H := Lib.hid (H.out.next hb); clear hb; obtain ⟨k1, k2, k3, k4⟩ := H.out.res; obtain ⟨f1, f2, f3, f4⟩ := H.out.facts)
    | (go_at_call 121; (with_reducible refine (HD.out _).mono ?_); rintro e w1 ⟨rfl, hb⟩; have H := Lib.hid (H.out.next hb); clear hb; obtain ⟨k1, k2, k3, k4⟩ := H.out.res; obtain ⟨f1, f2, f3, f4⟩ := H.out.facts))
  all_goals
    go_wp2_with fail
    exact bodyPost_ret (ret_rt_2 rfl rfl rfl (H.out.put z y).rr) rfl ⟨rfl, (H.out.put z y).bel⟩
set_option maxHeartbeats 4000000 in
theorem fit_first1 (a b c d : Nat) (q1 : Int) (w : World) (hb : b < 18446744073709551616) (hq1 : q1 = O.cmpI (O.numW a b) 9223372036854775808) (h1 : decide (0 < q1) = true) :
    Calls Tryz.prog 132 #[.bool true, .agg #[.int .u64 (a : Int), .int .u64 (b : Int)], .agg #[.int .u64 (c : Int), .int .u64 (d : Int)]] w (RatE (0, 0, 2) w) := by
  have H := Lib.hid (FiH.start w a b c d 0 0)
  obtain ⟨f1, f2, f3, f4⟩ := H.out.facts
  have HC := Lib.hid (cmp_lit1 a b q1 hb hq1)
  clear hq1 hb
  go_enter Tryz.func132, Tryz.ntmps132
  go_wp2_with fail
  go_region_with (first
    | (go_at_call 136; (with_reducible refine (of_lit1 _).mono ?_); rintro e w1 ⟨rfl, hb⟩; have H := Lib.hid (H.out.next hb); clear hb; obtain ⟨k1, k2, k3, k4⟩ := H.out.res; obtain ⟨f1, f2, f3, f4⟩ := H.out.facts)
    | (go_at_call 136; (with_reducible refine (of_lit1 _).mono ?_); rintro e w1 ⟨rfl, hb⟩; have H := Lib.hid (H.out.drew.next hb); clear hb; obtain ⟨k1, k2, k3, k4⟩ := H.out.res; obtain ⟨f1, f2, f3, f4⟩ := H.out.facts)
    | (go_at_call 121; (with_reducible refine (HC.out _).mono ?_); rintro e w1 ⟨rfl, hb⟩; have H := Lib.hid (H.out.next hb); clear hb; obtain ⟨k1, k2, k3, k4⟩ := H.out.res; obtain ⟨f1, f2, f3, f4⟩ := H.out.facts))
  all_goals
    go_wp2_with fail
    exact bodyPost_ret (ret_rt_2 rfl rfl rfl (H.out.put 0 0).rr) rfl ⟨rfl, (H.out.put 0 0).bel⟩
set_option maxHeartbeats 4000000 in
theorem fit_second1 (a b c d : Nat) (q1 : Int) (q2 : Int) (w : World) (hb : b < 18446744073709551616) (hq1 : q1 = O.cmpI (O.numW a b) 9223372036854775808) (h1 : decide (0 < q1) = false) (hd : d < 18446744073709551616) (hq2 : q2 = O.cmpI (O.numW c d) 9223372036854775807) (h2 : decide (0 < q2) = true) :
    Calls Tryz.prog 132 #[.bool true, .agg #[.int .u64 (a : Int), .int .u64 (b : Int)], .agg #[.int .u64 (c : Int), .int .u64 (d : Int)]] w (RatE (0, 0, 2) w) := by
  have H := Lib.hid (FiH.start w a b c d 0 0)
  obtain ⟨f1, f2, f3, f4⟩ := H.out.facts
  have HC := Lib.hid (cmp_lit1 a b q1 hb hq1)
  have HD := Lib.hid (cmp_lit0 c d q2 hd hq2)
  clear hq1 hb hq2 hd
  go_enter Tryz.func132, Tryz.ntmps132
  go_wp2_with fail
  go_region_with (first
    | (go_at_call 136; (with_reducible refine (of_lit1 _).mono ?_); rintro e w1 ⟨rfl, hb⟩; have H := Lib.hid (H.out.next hb); clear hb; obtain ⟨k1, k2, k3, k4⟩ := H.out.res; obtain ⟨f1, f2, f3, f4⟩ := H.out.facts)
    | (go_at_call 136; (with_reducible refine (of_lit1 _).mono ?_); rintro e w1 ⟨rfl, hb⟩; have H := Lib.hid (H.out.drew.next hb); clear hb; obtain ⟨k1, k2, k3, k4⟩ := H.out.res; obtain ⟨f1, f2, f3, f4⟩ := H.out.facts)
    | (go_at_call 136; (with_reducible refine (of_lit0 _).mono ?_); rintro e w1 ⟨rfl, hb⟩; have H := Lib.hid (H.out.next hb); clear hb; obtain ⟨k1, k2, k3, k4⟩ := H.out.res; obtain ⟨f1, f2, f3, f4⟩ := H.out.facts)
    | (go_at_call 136; (with_reducible refine (of_lit0 _).mono ?_); rintro e w1 ⟨rfl, hb⟩; have H := Lib.hid (H.out.drew.next hb); clear hb; obtain ⟨k1, k2, k3, k4⟩ := H.out.res; obtain ⟨f1, f2, f3, f4⟩ := H.out.facts)
    | (go_at_call 121; (with_reducible refine (HC.out _).mono ?_); rintro e w1 ⟨rfl, hb⟩; have H := Lib.hid (H.out.next hb); clear hb; obtain ⟨k1, k2, k3, k4⟩ := H.out.res; obtain ⟨f1, f2, f3, f4⟩ := H.out.facts)
    | (go_at_call 121; (with_reducible refine (HD.out _).mono ?_); rintro e w1 ⟨rfl, hb⟩; have H := Lib.hid (H.out.next hb); clear hb; obtain ⟨k1, k2, k3, k4⟩ := H.out.res; obtain ⟨f1, f2, f3, f4⟩ := H.out.facts))
  all_goals
    go_wp2_with fail
    exact bodyPost_ret (ret_rt_2 rfl rfl rfl (H.out.put 0 0).rr) rfl ⟨rfl, (H.out.put 0 0).bel⟩
set_option maxHeartbeats 4000000 in
theorem fit_both1 (a b c d : Nat) (q1 : Int) (q2 : Int) (w : World) (hb : b < 18446744073709551616) (hq1 : q1 = O.cmpI (O.numW a b) 9223372036854775808) (h1 : decide (0 < q1) = false) (hd : d < 18446744073709551616) (hq2 : q2 = O.cmpI (O.numW c d) 9223372036854775807) (h2 : decide (0 < q2) = false) (z y : Int) (F1 : IntKind.i64.wrap (IntKind.u64.wrap (-(b : Int))) = z) (F2 : IntKind.i64.wrap (d : Int) = y) :
    Calls Tryz.prog 132 #[.bool true, .agg #[.int .u64 (a : Int), .int .u64 (b : Int)], .agg #[.int .u64 (c : Int), .int .u64 (d : Int)]] w (RatE (z, y, 0) w) := by
  have H := Lib.hid (FiH.start w a b c d 0 0)
  obtain ⟨f1, f2, f3, f4⟩ := H.out.facts
  have HC := Lib.hid (cmp_lit1 a b q1 hb hq1)
  have HD := Lib.hid (cmp_lit0 c d q2 hd hq2)
  clear hq1 hb hq2 hd
  go_enter Tryz.func132, Tryz.ntmps132
  go_wp2_with fail
  go_region_with (first
    | (go_at_call 136; (with_reducible refine (of_lit1 _).mono ?_); rintro e w1 ⟨rfl, hb⟩; have H := Lib.hid (H.out.next hb); clear hb; obtain ⟨k1, k2, k3, k4⟩ := H.out.res; obtain ⟨f1, f2, f3, f4⟩ := H.out.facts)
    | (go_at_call 136; (with_reducible refine (of_lit1 _).mono ?_); rintro e w1 ⟨rfl, hb⟩; have H := Lib.hid (H.out.drew.next hb); clear hb; obtain ⟨k1, k2, k3, k4⟩ := H.out.res; obtain ⟨f1, f2, f3, f4⟩ := H.out.facts)
    | (go_at_call 136; (with_reducible refine (of_lit0 _).mono ?_); rintro e w1 ⟨rfl, hb⟩; have H := Lib.hid (H.out.next hb); clear hb; obtain ⟨k1, k2, k3, k4⟩ := H.out.res; obtain ⟨f1, f2, f3, f4⟩ := H.out.facts)
    | (go_at_call 136; (with_reducible refine (of_lit0 _).mono ?_); rintro e w1 ⟨rfl, hb⟩; have H := Lib.hid (H.out.drew.next hb); clear hb; obtain ⟨k1, k2, k3, k4⟩ := H.out.res; obtain ⟨f1, f2, f3, f4⟩ := H.out.facts)
    | (go_at_call 121; (with_reducible refine (HC.out _).mono ?_); rintro e w1 ⟨rfl, hb⟩; have H := Lib.hid (H.out.next hb); clear hb; obtain ⟨k1, k2, k3, k4⟩ := H.out.res; obtain ⟨f1, f2, f3, f4⟩ := H.out.facts)
    | (go_at_call 121; (with_reducible refine (HD.out _).mono ?_); rintro e w1 ⟨rfl, hb⟩; have H := Lib.hid (H.out.next hb); clear hb; obtain ⟨k1, k2, k3, k4⟩ := H.out.res; obtain ⟨f1, f2, f3, f4⟩ := H.out.facts))
  all_goals
    go_wp2_with fail
    exact bodyPost_ret (ret_rt_2 rfl rfl rfl (H.out.put z y).rr) rfl ⟨rfl, (H.out.put z y).bel⟩
end Go.Proofs.YtpobhegllhhdgaaGreat

namespace Go.Proofs.YtpobhegllhhdgaaGreat
open Go.RowKit

theorem dec_gtr {q : Int} {N M : Nat} (hq : q = O.cmpI N M) (b : Bool) (h : decide (M < N) = b) : decide (0 < q) = b := by rw [hq, gtr_cmp, h]
theorem p_fit (s : Bool) (a b c d : Nat) (w : World) (hb : b < 18446744073709551616) (hd : d < 18446744073709551616) :
    Calls Tryz.prog 132 #[.bool s, .agg #[.int .u64 (a : Int), .int .u64 (b : Int)], .agg #[.int .u64 (c : Int), .int .u64 (d : Int)]] w (RatE (fitI (sv s (O.numW a b)) (O.numW c d)) w) := by
  by_cases h2 : 9223372036854775807 < O.numW c d
  · have e : fitI (sv s (O.numW a b)) (O.numW c d) = (0, 0, 2) := if_neg fun h => by have := h.2.2; omega
    rw [e]
    cases s
    · by_cases h1 : 9223372036854775807 < O.numW a b
      · exact fit_first0 a b c d _ w hb rfl (dec_gtr rfl _ (decide_eq_true h1))
      · exact fit_second0 a b c d _ _ w hb rfl (dec_gtr rfl _ (decide_eq_false h1)) hd rfl (dec_gtr rfl _ (decide_eq_true h2))
    · by_cases h1 : 9223372036854775808 < O.numW a b
      · exact fit_first1 a b c d _ w hb rfl (dec_gtr rfl _ (decide_eq_true h1))
      · exact fit_second1 a b c d _ _ w hb rfl (dec_gtr rfl _ (decide_eq_false h1)) hd rfl (dec_gtr rfl _ (decide_eq_true h2))
  · have hc0 : c = 0 ∧ O.numW c d = d := by unfold O.numW at h2 ⊢; omega
    have F2 : IntKind.i64.wrap (d : Int) = ((O.numW c d : Nat) : Int) := by rw [hc0.2, IntKind.wrap_i64]; omega
    cases s
    · by_cases h1 : 9223372036854775807 < O.numW a b
      · have e : fitI (sv false (O.numW a b)) (O.numW c d) = (0, 0, 2) := if_neg fun h => by have := h.1.2; rw [sv_false] at this; omega
        rw [e]
        exact fit_first0 a b c d _ w hb rfl (dec_gtr rfl _ (decide_eq_true h1))
      · have e : fitI (sv false (O.numW a b)) (O.numW c d) = (sv false (O.numW a b), (O.numW c d : Int), 0) := if_pos ⟨by rw [sv_false]; unfold Fit; omega, by unfold Fit; omega⟩
        rw [e]
        have ha0 : O.numW a b = b := by unfold O.numW at h1 ⊢; omega
        exact fit_both0 a b c d _ _ w hb rfl (dec_gtr rfl _ (decide_eq_false h1)) hd rfl (dec_gtr rfl _ (decide_eq_false h2)) _ _ (by rw [sv_false, ha0, IntKind.wrap_i64]; omega) F2
    · by_cases h1 : 9223372036854775808 < O.numW a b
      · have e : fitI (sv true (O.numW a b)) (O.numW c d) = (0, 0, 2) := if_neg fun h => by have := h.1.1; rw [sv_true] at this; omega
        rw [e]
        exact fit_first1 a b c d _ w hb rfl (dec_gtr rfl _ (decide_eq_true h1))
      · have e : fitI (sv true (O.numW a b)) (O.numW c d) = (sv true (O.numW a b), (O.numW c d : Int), 0) := if_pos ⟨by rw [sv_true]; unfold Fit; omega, by unfold Fit; omega⟩
        rw [e]
        have ha0 : O.numW a b = b := by unfold O.numW at h1 ⊢; omega
        exact fit_both1 a b c d _ _ w hb rfl (dec_gtr rfl _ (decide_eq_false h1)) hd rfl (dec_gtr rfl _ (decide_eq_false h2)) _ _ (by rw [sv_true, ha0, IntKind.wrap_i64, wrap_u64m]; omega) F2
/-- The same with the answer's three numbers named. -/
theorem p_fit_pt (s : Bool) (a b c d : Nat) (p q k : Int) (hr : (p, q, k) = fitI (sv s (O.numW a b)) (O.numW c d)) (hb : b < 18446744073709551616) (hd : d < 18446744073709551616) (w : World) :
    Calls Tryz.prog 132 #[.bool s, .agg #[.int .u64 (a : Int), .int .u64 (b : Int)], .agg #[.int .u64 (c : Int), .int .u64 (d : Int)]] w fun e w' => e = .returned (.tuple #[.agg #[.int .i64 p, .int .i64 q], .int .i64 k]) ∧ Below w.heap.size w w' := by
  have h := p_fit s a b c d w hb hd
  rw [← hr] at h
  exact h
/-- The answer's box. -/
structure NwH (w W : World) (p q : Int) : Prop where
  rr : Rt W w.heap.size p q
  bel : Below w.heap.size w W
section
variable {w W W' : World} {p q : Int}
theorem NwH.start (w : World) (p q : Int) : NwH w (w.alloc (.cells #[.int .i64 p, .int .i64 q] 24)) p q := ⟨Rt.new w p q, bel_a w _⟩
theorem NwH.next (h : NwH w W p q) (hb : Below W.heap.size W W') : NwH w W' p q := ⟨h.rr.bel hb, bel_tr h.bel hb⟩
theorem NwH.drew (h : NwH w W p q) : NwH w W.drew p q := ⟨h.rr, h.bel.drew⟩
theorem NwH.res (h : NwH w W p q) : W.cell? ⟨w.heap.size, 0, none⟩ = some (.int .i64 p) ∧ W.cell? ⟨w.heap.size, 1, none⟩ = some (.int .i64 q) ∧ W.frozen? ⟨w.heap.size, 0, none⟩ = false ∧ W.frozen? ⟨w.heap.size, 1, none⟩ = false := ⟨h.rr.c0, h.rr.c1, h.rr.fr 0, h.rr.fr 1⟩
theorem NwH.put (h : NwH w W p q) (x y : Int) : NwH w ((W.setCell ⟨w.heap.size, 0, none⟩ (.int .i64 x)).setCell ⟨w.heap.size, 1, none⟩ (.int .i64 y)) x y :=
  ⟨(h.rr.set0 x).set1 y, bel_set (bel_set h.bel (by omega) _ _) (by omega) _ _⟩
end
end Go.Proofs.YtpobhegllhhdgaaGreat
