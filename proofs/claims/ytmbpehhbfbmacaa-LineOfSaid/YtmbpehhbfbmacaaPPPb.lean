/- Proved here: ways, crosses and dots (the program's way, cross, dot). Condition: points that may be. -/
import Derived.Test.YtmbpehhbfbmacaaPPAb
namespace Go.Proofs.Ytmbpehhbfbmacaa
open Go.RowKit

/-- Two points in boxes, one after the other. -/
theorem box2 (w : World) (ax ay bx by_ : Int) : Pbx ((w.alloc (.cells #[.int .i64 ax, .int .i64 ay] 23)).alloc (.cells #[.int .i64 bx, .int .i64 by_] 23)) w.heap.size (ax, ay) ∧ Pbx ((w.alloc (.cells #[.int .i64 ax, .int .i64 ay] 23)).alloc (.cells #[.int .i64 bx, .int .i64 by_] 23)) (w.heap.size + 1) (bx, by_) ∧ Below w.heap.size w ((w.alloc (.cells #[.int .i64 ax, .int .i64 ay] 23)).alloc (.cells #[.int .i64 bx, .int .i64 by_] 23)) := by
  obtain ⟨w1, e1⟩ : ∃ W, W = w.alloc (.cells #[.int .i64 ax, .int .i64 ay] 23) := ⟨_, rfl⟩
  have s1 : w1.heap.size = w.heap.size + 1 := by rw [e1]; simp
  have g0 : Pbx w1 w.heap.size (ax, ay) := by rw [e1]; exact Pbx.new w (ax, ay)
  have b1 : Below w.heap.size w w1 := by rw [e1]; exact (Below.refl _ _).alloc (Nat.le_refl _) _
  have b2 : Below w1.heap.size w1 (w1.alloc (.cells #[.int .i64 bx, .int .i64 by_] 23)) := (Below.refl _ _).alloc (Nat.le_refl _) _
  rw [← e1]
  refine ⟨g0.bel b2, ?_, b1.trans (b2.mono (by omega))⟩
  rw [← s1]
  exact Pbx.new w1 (bx, by_)
set_option maxHeartbeats 4000000 in
set_option maxRecDepth 100000 in
theorem pway_any (ax ay bx by_ : Int) (w : World) (ha : fiP (ax, ay)) (hb : fiP (bx, by_)) : Calls Try.prog 43 #[.agg #[.int .i64 ax, .int .i64 ay], .agg #[.int .i64 bx, .int .i64 by_]] w fun e w' => e = .returned (.tuple #[.int .i64 (bx - ax), .int .i64 (by_ - ay)]) ∧ Below w.heap.size w w' := by
  obtain ⟨⟨ha1, ha2⟩, ha3, ha4⟩ := ha
  obtain ⟨⟨hb1, hb2⟩, hb3, hb4⟩ := hb
  dsimp only at ha1 ha2 ha3 ha4 hb1 hb2 hb3 hb4
  have v0 : IntKind.i64.wrap (bx - ax) = bx - ax := IntWalk.i64_in _ (by omega)
  have v1 : IntKind.i64.wrap (by_ - ay) = by_ - ay := IntWalk.i64_in _ (by omega)
  obtain ⟨p0, p1, hbw⟩ := box2 w ax ay bx by_
  have HB := Lib.hid hbw
  obtain ⟨c0, c1, _, _⟩ := p0.cells
  obtain ⟨d0, d1, _, _⟩ := p1.cells
  dsimp only at c0 c1 d0 d1
  clear p0 p1 hbw
  go_enter Try.func43, Try.ntmps43
  go_wp2_with fail
  go_region
  all_goals
    go_wp2_with fail
    go_ret2
    exact ⟨rfl, below_drewN HB.out _⟩
/-- Three points in boxes, one after the other. -/
structure T3S (w W : World) (a b c : P2) : Prop where
  bel : Below w.heap.size w W
  h0 : Pbx W w.heap.size a
  h1 : Pbx W (w.heap.size + 1) b
  h2 : Pbx W (w.heap.size + 1 + 1) c
section
variable {w W W' : World} {a b c : P2}
theorem T3S.next (h : T3S w W a b c) (hb : Below W.heap.size W W') : T3S w W' a b c := ⟨h.bel.trans (hb.mono h.bel.size), h.h0.bel hb, h.h1.bel hb, h.h2.bel hb⟩
theorem T3S.row {o : Obj} (h : T3S w W a b c) (hb : Below (W.alloc o).heap.size (W.alloc o) W') : T3S w W' a b c := (h.next ((Below.refl _ _).alloc (Nat.le_refl _) o)).next hb
theorem T3S.cells (h : T3S w W a b c) : W.cell? ⟨w.heap.size, 0, none⟩ = some (.int .i64 a.1) ∧ W.cell? ⟨w.heap.size, 1, none⟩ = some (.int .i64 a.2) ∧ W.cell? ⟨w.heap.size + 1, 0, none⟩ = some (.int .i64 b.1) ∧ W.cell? ⟨w.heap.size + 1, 1, none⟩ = some (.int .i64 b.2)
    ∧ W.cell? ⟨w.heap.size + 1 + 1, 0, none⟩ = some (.int .i64 c.1) ∧ W.cell? ⟨w.heap.size + 1 + 1, 1, none⟩ = some (.int .i64 c.2) :=
  ⟨h.h0.cells.1, h.h0.cells.2.1, h.h1.cells.1, h.h1.cells.2.1, h.h2.cells.1, h.h2.cells.2.1⟩
end
theorem T3S.new (w : World) (ax ay bx by_ cx cy : Int) : T3S w (((w.alloc (.cells #[.int .i64 ax, .int .i64 ay] 23)).alloc (.cells #[.int .i64 bx, .int .i64 by_] 23)).alloc (.cells #[.int .i64 cx, .int .i64 cy] 23)) (ax, ay) (bx, by_) (cx, cy) := by
  obtain ⟨p0, p1, p2, hb⟩ := box3 w ax ay bx by_ cx cy
  exact ⟨hb, p0, p1, p2⟩
set_option maxHeartbeats 4000000 in
set_option maxRecDepth 100000 in
theorem pcr_any (ax ay bx by_ cx cy : Int) (w : World) (ha : fiP (ax, ay)) (hb : fiP (bx, by_)) (hc : fiP (cx, cy)) : Calls Try.prog 34 #[.agg #[.int .i64 ax, .int .i64 ay], .agg #[.int .i64 bx, .int .i64 by_], .agg #[.int .i64 cx, .int .i64 cy]] w fun e w' => e = .returned (.int .i64 (crs (ax, ay) (bx, by_) (cx, cy))) ∧ Below w.heap.size w w' := by
  have Q0 := Lib.hid (T3S.new w ax ay bx by_ cx cy)
  have W1 := Lib.hid (fun W => pway_any ax ay bx by_ W ha hb)
  have W2 := Lib.hid (fun W => pway_any ax ay cx cy W ha hc)
  obtain ⟨⟨ha1, ha2⟩, ha3, ha4⟩ := ha
  obtain ⟨⟨hb1, hb2⟩, hb3, hb4⟩ := hb
  obtain ⟨⟨hc1, hc2⟩, hc3, hc4⟩ := hc
  dsimp only at ha1 ha2 ha3 ha4 hb1 hb2 hb3 hb4 hc1 hc2 hc3 hc4
  have m1 := mul_in (x := bx - ax) (y := cy - ay) (by omega) (by omega) (by omega) (by omega)
  have m2 := mul_in (x := by_ - ay) (y := cx - ax) (by omega) (by omega) (by omega) (by omega)
  have v4 : IntKind.i64.wrap ((bx - ax) * (cy - ay)) = (bx - ax) * (cy - ay) := IntWalk.i64_in _ (by omega)
  have v5 : IntKind.i64.wrap ((by_ - ay) * (cx - ax)) = (by_ - ay) * (cx - ax) := IntWalk.i64_in _ (by omega)
  have v6 : IntKind.i64.wrap ((bx - ax) * (cy - ay) - (by_ - ay) * (cx - ax)) = (bx - ax) * (cy - ay) - (by_ - ay) * (cx - ax) := IntWalk.i64_in _ (by omega)
  obtain ⟨k0, k1, k2, k3, k4, k5⟩ := Q0.out.cells
  dsimp only at k0 k1 k2 k3 k4 k5
  clear m1 m2 ha1 ha2 ha3 ha4 hb1 hb2 hb3 hb4 hc1 hc2 hc3 hc4
  go_enter Try.func34, Try.ntmps34
  go_wp2_with (first
    | (go_at_call 43; (with_reducible refine (W1.out _).mono ?_); rintro e w1 ⟨rfl, hb⟩; have Q1 := Lib.hid (Q0.out.next hb); clear hb W1 k0 k1 k2 k3 k4 k5; obtain ⟨k0, k1, k2, k3, k4, k5⟩ := Q1.out.cells; dsimp only at k0 k1 k2 k3 k4 k5)
    | (go_at_call 43; (with_reducible refine (W2.out _).mono ?_); rintro e w2 ⟨rfl, hb⟩; have Q2 := Lib.hid (Q1.out.next hb); clear hb W2 k0 k1 k2 k3 k4 k5; obtain ⟨k0, k1, k2, k3, k4, k5⟩ := Q2.out.cells; dsimp only at k0 k1 k2 k3 k4 k5))
  go_ret
  exact ⟨rfl, Q2.out.bel⟩
set_option maxHeartbeats 4000000 in
set_option maxRecDepth 100000 in
theorem pdt_any (ax ay bx by_ cx cy : Int) (w : World) (ha : fiP (ax, ay)) (hb : fiP (bx, by_)) (hc : fiP (cx, cy)) : Calls Try.prog 33 #[.agg #[.int .i64 ax, .int .i64 ay], .agg #[.int .i64 bx, .int .i64 by_], .agg #[.int .i64 cx, .int .i64 cy]] w fun e w' => e = .returned (.int .i64 (dt (ax, ay) (bx, by_) (cx, cy))) ∧ Below w.heap.size w w' := by
  have Q0 := Lib.hid (T3S.new w ax ay bx by_ cx cy)
  have W1 := Lib.hid (fun W => pway_any ax ay bx by_ W ha hb)
  have W2 := Lib.hid (fun W => pway_any ax ay cx cy W ha hc)
  obtain ⟨⟨ha1, ha2⟩, ha3, ha4⟩ := ha
  obtain ⟨⟨hb1, hb2⟩, hb3, hb4⟩ := hb
  obtain ⟨⟨hc1, hc2⟩, hc3, hc4⟩ := hc
  dsimp only at ha1 ha2 ha3 ha4 hb1 hb2 hb3 hb4 hc1 hc2 hc3 hc4
  have m1 := mul_in (x := bx - ax) (y := cx - ax) (by omega) (by omega) (by omega) (by omega)
  have m2 := mul_in (x := by_ - ay) (y := cy - ay) (by omega) (by omega) (by omega) (by omega)
  have v4 : IntKind.i64.wrap ((bx - ax) * (cx - ax)) = (bx - ax) * (cx - ax) := IntWalk.i64_in _ (by omega)
  have v5 : IntKind.i64.wrap ((by_ - ay) * (cy - ay)) = (by_ - ay) * (cy - ay) := IntWalk.i64_in _ (by omega)
  have v6 : IntKind.i64.wrap ((bx - ax) * (cx - ax) + (by_ - ay) * (cy - ay)) = (bx - ax) * (cx - ax) + (by_ - ay) * (cy - ay) := IntWalk.i64_in _ (by omega)
  obtain ⟨k0, k1, k2, k3, k4, k5⟩ := Q0.out.cells
  dsimp only at k0 k1 k2 k3 k4 k5
  clear m1 m2 ha1 ha2 ha3 ha4 hb1 hb2 hb3 hb4 hc1 hc2 hc3 hc4
  go_enter Try.func33, Try.ntmps33
  go_wp2_with (first
    | (go_at_call 43; (with_reducible refine (W1.out _).mono ?_); rintro e w1 ⟨rfl, hb⟩; have Q1 := Lib.hid (Q0.out.next hb); clear hb W1 k0 k1 k2 k3 k4 k5; obtain ⟨k0, k1, k2, k3, k4, k5⟩ := Q1.out.cells; dsimp only at k0 k1 k2 k3 k4 k5)
    | (go_at_call 43; (with_reducible refine (W2.out _).mono ?_); rintro e w2 ⟨rfl, hb⟩; have Q2 := Lib.hid (Q1.out.next hb); clear hb W2 k0 k1 k2 k3 k4 k5; obtain ⟨k0, k1, k2, k3, k4, k5⟩ := Q2.out.cells; dsimp only at k0 k1 k2 k3 k4 k5))
  go_ret
  exact ⟨rfl, Q2.out.bel⟩
end Go.Proofs.Ytmbpehhbfbmacaa
