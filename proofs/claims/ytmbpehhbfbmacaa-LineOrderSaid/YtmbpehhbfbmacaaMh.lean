/- Proved here: what line's Point, Ray and Segment answer. No condition. -/
import Derived.Test.YtmbpehhbfbmacaaMg
namespace Go.Proofs.Ytmbpehhbfbmacaa
open Go.RowKit

/-- Two points in boxes, one after the other. -/
structure TwP (w W : World) (p a : P2) : Prop where
  bel : Below w.heap.size w W
  h0 : Pbx W w.heap.size p
  h1 : Pbx W (w.heap.size + 1) a
section
variable {w W W' : World} {p a : P2}
theorem TwP.next (h : TwP w W p a) (hb : Below W.heap.size W W') : TwP w W' p a := ⟨h.bel.trans (hb.mono h.bel.size), h.h0.bel hb, h.h1.bel hb⟩
theorem TwP.cells (h : TwP w W p a) : W.cell? ⟨w.heap.size, 0, none⟩ = some (.int .i64 p.1) ∧ W.cell? ⟨w.heap.size, 1, none⟩ = some (.int .i64 p.2) ∧ W.cell? ⟨w.heap.size + 1, 0, none⟩ = some (.int .i64 a.1) ∧ W.cell? ⟨w.heap.size + 1, 1, none⟩ = some (.int .i64 a.2) :=
  ⟨h.h0.cells.1, h.h0.cells.2.1, h.h1.cells.1, h.h1.cells.2.1⟩
end
theorem TwP.new (w : World) (px py ax ay : Int) : TwP w ((w.alloc (.cells #[.int .i64 px, .int .i64 py] 23)).alloc (.cells #[.int .i64 ax, .int .i64 ay] 23)) (px, py) (ax, ay) := by
  obtain ⟨p0, p1, hb⟩ := box2 w px py ax ay
  exact ⟨hb, p0, p1⟩
theorem one_pt (W : World) : Calls Try.prog 17 #[.int .u64 1] W fun e w' => e = .returned (.agg #[.int .u64 0, .int .u64 1]) ∧ Below W.heap.size W w' := of_pt 1 W
theorem pt_of (p a : P2) (r n : Int) (h : ok2 p a) (m : Nat) (hm : m = dsq p a) : ptA p a r n = ofA 0 m 0 1 r n := by
  unfold ptA ofA
  by_cases hr : riP r n
  · rw [if_pos ⟨hr, h⟩, if_pos hr, if_neg (by omega), hm]
    unfold nearN
    rw [show numW 0 (dsq p a) = dsq p a by simp [numW], show numW 0 1 = 1 by simp [numW]]
  · rw [if_neg (fun x => hr x.1), if_neg hr]
set_option maxHeartbeats 8000000 in
set_option maxRecDepth 100000 in
theorem ppoint_any (px py ax ay r n : Int) (w : World) : Calls Try.prog 7 #[.agg #[.int .i64 px, .int .i64 py], .agg #[.int .i64 ax, .int .i64 ay], .int .i64 r, .int .i64 n] w fun e w' => e = .returned (.tuple #[.int .i64 (ptA (px, py) (ax, ay) r n).1, .int .i64 (ptA (px, py) (ax, ay) r n).2]) ∧ Below w.heap.size w w' := by
  have Q0 := Lib.hid (TwP.new w px py ax ay)
  obtain ⟨k0, k1, k2, k3⟩ := Q0.out.cells
  dsimp only at k0 k1 k2 k3
  have C1 := Lib.hid (fun W => pfar_any px py ax ay W)
  by_cases h : ok2 (px, py) (ax, ay)
  · obtain ⟨m, hm⟩ : ∃ m, m = dsq (px, py) (ax, ay) := ⟨_, rfl⟩
    have hd := dsq_eq h.1 h.2
    rw [← hm] at hd
    rw [show farA (px, py) (ax, ay) = ((m : Int), 0) by rw [← hd.1]; exact if_pos h] at C1
    have HX := Lib.hid (pt_of (px, py) (ax, ay) r n h m hm)
    have e1 : IntKind.u64.wrap (m : Int) = (m : Int) := by rw [IntKind.wrap_u64]; omega
    have C2 := Lib.hid (of_pt m)
    have C3 := Lib.hid one_pt
    have C4 := Lib.hid (fun W => show Calls Try.prog 14 #[.agg #[.int .u64 0, .int .u64 (m : Int)], .agg #[.int .u64 0, .int .u64 1], .int .i64 r, .int .i64 n] W _ from pof_any 0 m 0 1 r n W (by omega) (by omega) (by omega) (by omega))
    clear h hm hd
    go_enter Try.func7, Try.ntmps7
    go_wp2_with (first
      | (go_at_call 16; (with_reducible refine (C1.out _).mono ?_); rintro e w1 ⟨rfl, hb⟩; have Q1 := Lib.hid (Q0.out.next hb); clear hb)
      | (go_at_call 17; (with_reducible refine (C2.out _).mono ?_); rintro e w2 ⟨rfl, hb⟩; have Q2 := Lib.hid (Q1.out.next hb); clear hb C2)
      | (go_at_call 17; (with_reducible refine (C3.out _).mono ?_); rintro e w3 ⟨rfl, hb⟩; have Q3 := Lib.hid (Q2.out.next hb); clear hb C3)
      | (go_at_call 14; (with_reducible refine (C4.out _).mono ?_); rintro e w4 ⟨rfl, hb⟩; have Q4 := Lib.hid (Q3.out.next hb); clear hb C4))
    go_ret2
    exact ⟨by rw [HX.out]; rfl, Q4.out.bel⟩
  · rw [show farA (px, py) (ax, ay) = (0, 1) from if_neg h] at C1
    have HX := Lib.hid (show ptA (px, py) (ax, ay) r n = (0, 1) from if_neg fun x => h x.2)
    clear h
    go_enter Try.func7, Try.ntmps7
    go_wp2_with (first
      | (go_at_call 16; (with_reducible refine (C1.out _).mono ?_); rintro e w1 ⟨rfl, hb⟩; have Q1 := Lib.hid (Q0.out.next hb); clear hb))
    go_ret2
    exact ⟨by rw [HX.out]; rfl, Q1.out.bel⟩
end Go.Proofs.Ytmbpehhbfbmacaa
