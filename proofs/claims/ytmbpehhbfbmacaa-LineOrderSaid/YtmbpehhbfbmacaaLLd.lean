/- Proved here: the level of a point and a line without ends (the document's Beside). Condition: points that may be; a reach and steps that may be. -/
import Derived.Test.YtmbpehhbfbmacaaLLc
import Derived.Test.YtmbpehhbfbmacaaLPBa
import Derived.OrdersHeld
import Derived.Deep.RegionHeld
namespace Go.Proofs.Ytmbpehhbfbmacaa
open Go.RowKit

/-- Three points in boxes, one after the other. -/
structure TrS (w W : World) (p a b : P2) : Prop where
  bel : Below w.heap.size w W
  h0 : Pbx W w.heap.size p
  h1 : Pbx W (w.heap.size + 1) a
  h2 : Pbx W (w.heap.size + 1 + 1) b
section
variable {w W W' : World} {p a b : P2}
theorem TrS.next (h : TrS w W p a b) (hb : Below W.heap.size W W') : TrS w W' p a b := ⟨h.bel.trans (hb.mono h.bel.size), h.h0.bel hb, h.h1.bel hb, h.h2.bel hb⟩
theorem TrS.drew (h : TrS w W p a b) : TrS w W.drew p a b := h.next (Below.drew (Below.refl _ _))
theorem TrS.cells (h : TrS w W p a b) : W.cell? ⟨w.heap.size, 0, none⟩ = some (.int .i64 p.1) ∧ W.cell? ⟨w.heap.size, 1, none⟩ = some (.int .i64 p.2) ∧ W.cell? ⟨w.heap.size + 1, 0, none⟩ = some (.int .i64 a.1) ∧ W.cell? ⟨w.heap.size + 1, 1, none⟩ = some (.int .i64 a.2)
    ∧ W.cell? ⟨w.heap.size + 1 + 1, 0, none⟩ = some (.int .i64 b.1) ∧ W.cell? ⟨w.heap.size + 1 + 1, 1, none⟩ = some (.int .i64 b.2) :=
  ⟨h.h0.cells.1, h.h0.cells.2.1, h.h1.cells.1, h.h1.cells.2.1, h.h2.cells.1, h.h2.cells.2.1⟩
end
theorem TrS.new (w : World) (px py ax ay bx by_ : Int) : TrS w (((w.alloc (.cells #[.int .i64 px, .int .i64 py] 23)).alloc (.cells #[.int .i64 ax, .int .i64 ay] 23)).alloc (.cells #[.int .i64 bx, .int .i64 by_] 23)) (px, py) (ax, ay) (bx, by_) := by
  obtain ⟨p0, p1, p2, hb⟩ := box3 w px py ax ay bx by_
  exact ⟨hb, p0, p1, p2⟩
/-- How much a line and a point turn, without the sign. -/
def cab (a b p : P2) : Nat := (crs a b p).natAbs
theorem cab_in {p a b : P2} (hp : fiP p) (ha : fiP a) (hb : fiP b) : cab a b p ≤ 9007199254740992 := by
  obtain ⟨⟨hp1, hp2⟩, hp3, hp4⟩ := hp
  obtain ⟨⟨ha1, ha2⟩, ha3, ha4⟩ := ha
  obtain ⟨⟨hb1, hb2⟩, hb3, hb4⟩ := hb
  have m1 := mul_in (x := b.1 - a.1) (y := p.2 - a.2) (by omega) (by omega) (by omega) (by omega)
  have m2 := mul_in (x := b.2 - a.2) (y := p.1 - a.1) (by omega) (by omega) (by omega) (by omega)
  have e : crs a b p = (b.1 - a.1) * (p.2 - a.2) - (b.2 - a.2) * (p.1 - a.1) := rfl
  unfold cab
  omega
/-- The level of a point and a line without ends. -/
def besN (p a b : P2) (r n : Nat) : Nat := lev (cab a b p * cab a b p) (dsq a b) r n
set_option maxHeartbeats 8000000 in
set_option maxRecDepth 100000 in
theorem beside_any (px py ax ay bx by_ : Int) (r n : Nat) (w : World) (hp : fiP (px, py)) (ha : fiP (ax, ay)) (hb : fiP (bx, by_)) (hr : r ≤ 1048576) (hn : n ≤ 255) : Calls Try.prog 26 #[.agg #[.int .i64 px, .int .i64 py], .agg #[.int .i64 ax, .int .i64 ay], .agg #[.int .i64 bx, .int .i64 by_], .int .i64 (r : Int), .int .i64 (n : Int)] w fun e w' => e = .returned (.int .i64 (besN (px, py) (ax, ay) (bx, by_) r n : Int)) ∧ Below w.heap.size w w' := by
  obtain ⟨hq, hqb⟩ := dsq_eq ha hb
  have hmb := cab_in hp ha hb
  have hm : cab (ax, ay) (bx, by_) (px, py) = (crs (ax, ay) (bx, by_) (px, py)).natAbs := rfl
  have HC := Lib.hid (fun W => cross_any ax ay bx by_ px py W ha hb hp)
  have HD := Lib.hid (fun W => dot_any ax ay bx by_ bx by_ W ha hb hb)
  have HN := Lib.hid (show besN (px, py) (ax, ay) (bx, by_) r n = lev (cab (ax, ay) (bx, by_) (px, py) * cab (ax, ay) (bx, by_) (px, py)) (dsq (ax, ay) (bx, by_)) r n from rfl)
  obtain ⟨N, hN⟩ : ∃ N, N = besN (px, py) (ax, ay) (bx, by_) r n := ⟨_, rfl⟩
  rw [← hN] at HN ⊢
  rw [hq] at HD
  obtain ⟨q, hq2⟩ : ∃ q, q = dsq (ax, ay) (bx, by_) := ⟨_, rfl⟩
  rw [← hq2] at HN HD hqb
  obtain ⟨m, hm2⟩ : ∃ m, m = cab (ax, ay) (bx, by_) (px, py) := ⟨_, rfl⟩
  rw [← hm2] at HN hmb hm
  obtain ⟨c, hc⟩ : ∃ c, c = crs (ax, ay) (bx, by_) (px, py) := ⟨_, rfl⟩
  rw [← hc] at HC hm
  have e1 : IntKind.u64.wrap (q : Int) = (q : Int) := IntWalk.u64_in _ (by omega)
  have e2 : IntKind.u64.wrap (m : Int) = (m : Int) := IntWalk.u64_in _ (by omega)
  have K1 := Lib.hid (fun W => digs_any m W (by omega))
  have K2 := Lib.hid (fun W => digs_any q W (by omega))
  have Q0 := Lib.hid (TrS.new w px py ax ay bx by_)
  obtain ⟨k0, k1, k2, k3, k4, k5⟩ := Q0.out.cells
  dsimp only at k0 k1 k2 k3 k4 k5
  clear hq hq2 hN hp ha hb hm2 hc
  by_cases hlt : c < 0
  · have g1 : decide (c < 0) = true := decide_eq_true hlt
    have e3 : IntKind.i64.wrap (-c) = (m : Int) := by rw [IntWalk.i64_in _ (by omega)]; omega
    clear hlt hm
    go_enter Try.func26, Try.ntmps26
    go_wp2_with (first
      | (go_at_call 38; (with_reducible refine (HC.out _).mono ?_); rintro e w1 ⟨rfl, hb⟩; have Q1 := Lib.hid (Q0.out.next hb); clear hb HC; (try clear k0 k1 k2 k3 k4 k5); obtain ⟨k0, k1, k2, k3, k4, k5⟩ := Q1.out.cells; dsimp only at k0 k1 k2 k3 k4 k5)
      | (go_at_call 24; (with_reducible refine (K1.out _).mono ?_); rintro e w2 ⟨z1, rfl, hz, hb⟩; have Q2 := Lib.hid (Q1.out.next hb); have Z1 := Lib.hid hz; clear hz hb K1; (try clear k0 k1 k2 k3 k4 k5); obtain ⟨k0, k1, k2, k3, k4, k5⟩ := Q2.out.cells; dsimp only at k0 k1 k2 k3 k4 k5))
    have R0 := Lib.hid (Q2.out.drew)
    have Y0 := Lib.hid (Z1.out.below (Below.drew (Below.refl _ _)) (Nat.le_refl _))
    go_region_held3 (fun w' => w'.cell? ⟨w.heap.size + 1, 0, none⟩ = some (.int .i64 ax) ∧ w'.cell? ⟨w.heap.size + 1, 1, none⟩ = some (.int .i64 ay) ∧ w'.cell? ⟨w.heap.size + 1 + 1, 0, none⟩ = some (.int .i64 bx) ∧ w'.cell? ⟨w.heap.size + 1 + 1, 1, none⟩ = some (.int .i64 by_))
      (first | exact ⟨k2, k3, k4, k5⟩ | go_keep)
      (first
        | (go_at_call 39; (with_reducible refine (times_num _ _ _ _ _ Y0.out Y0.out).mono ?_); rintro e v1 ⟨z2, rfl, hz, hb⟩; have R1 := Lib.hid (R0.out.next hb); have Z2 := Lib.hid hz; clear hz hb; (try clear k0 k1 k2 k3 k4 k5); obtain ⟨k0, k1, k2, k3, k4, k5⟩ := R1.out.cells; dsimp only at k0 k1 k2 k3 k4 k5)
        | (go_at_call 25; (with_reducible refine (HD.out _).mono ?_); rintro e v2 ⟨rfl, hb⟩; have R2 := Lib.hid (R1.out.next hb); have Z2 := Lib.hid (Z2.out.below hb (Nat.le_refl _)); clear hb HD; (try clear k0 k1 k2 k3 k4 k5); obtain ⟨k0, k1, k2, k3, k4, k5⟩ := R2.out.cells; dsimp only at k0 k1 k2 k3 k4 k5)
        | (go_at_call 24; (with_reducible refine (K2.out _).mono ?_); rintro e v3 ⟨z3, rfl, hz, hb⟩; have R3 := Lib.hid (R2.out.next hb); have Z2 := Lib.hid (Z2.out.below hb (Nat.le_refl _)); have Z3 := Lib.hid hz; clear hz hb K2; (try clear k0 k1 k2 k3 k4 k5); obtain ⟨k0, k1, k2, k3, k4, k5⟩ := R3.out.cells; dsimp only at k0 k1 k2 k3 k4 k5)
        | (go_at_call 23; (with_reducible refine (level_any _ _ (m * m) q r n 17 35 _ Z2.out Z3.out tim17 (by decide) hr hn).mono ?_); rintro e v4 ⟨rfl, hb⟩; have R4 := Lib.hid (R3.out.next hb); clear hb; (try clear k0 k1 k2 k3 k4 k5); obtain ⟨k0, k1, k2, k3, k4, k5⟩ := R4.out.cells; dsimp only at k0 k1 k2 k3 k4 k5))
    go_wp2_with fail
    go_ret
    exact ⟨by rw [HN.out]; rfl, R4.out.bel⟩
  · obtain rfl : c = (m : Int) := by omega
    have g1 : decide ((m : Int) < 0) = false := decide_eq_false hlt
    clear hlt hm
    go_enter Try.func26, Try.ntmps26
    go_wp2_with (first
      | (go_at_call 38; (with_reducible refine (HC.out _).mono ?_); rintro e w1 ⟨rfl, hb⟩; have Q1 := Lib.hid (Q0.out.next hb); clear hb HC; (try clear k0 k1 k2 k3 k4 k5); obtain ⟨k0, k1, k2, k3, k4, k5⟩ := Q1.out.cells; dsimp only at k0 k1 k2 k3 k4 k5)
      | (go_at_call 24; (with_reducible refine (K1.out _).mono ?_); rintro e w2 ⟨z1, rfl, hz, hb⟩; have Q2 := Lib.hid (Q1.out.next hb); have Z1 := Lib.hid hz; clear hz hb K1; (try clear k0 k1 k2 k3 k4 k5); obtain ⟨k0, k1, k2, k3, k4, k5⟩ := Q2.out.cells; dsimp only at k0 k1 k2 k3 k4 k5))
    have R0 := Lib.hid (Q2.out.drew)
    have Y0 := Lib.hid (Z1.out.below (Below.drew (Below.refl _ _)) (Nat.le_refl _))
    go_region_held3 (fun w' => w'.cell? ⟨w.heap.size + 1, 0, none⟩ = some (.int .i64 ax) ∧ w'.cell? ⟨w.heap.size + 1, 1, none⟩ = some (.int .i64 ay) ∧ w'.cell? ⟨w.heap.size + 1 + 1, 0, none⟩ = some (.int .i64 bx) ∧ w'.cell? ⟨w.heap.size + 1 + 1, 1, none⟩ = some (.int .i64 by_))
      (first | exact ⟨k2, k3, k4, k5⟩ | go_keep)
      (first
        | (go_at_call 39; (with_reducible refine (times_num _ _ _ _ _ Y0.out Y0.out).mono ?_); rintro e v1 ⟨z2, rfl, hz, hb⟩; have R1 := Lib.hid (R0.out.next hb); have Z2 := Lib.hid hz; clear hz hb; (try clear k0 k1 k2 k3 k4 k5); obtain ⟨k0, k1, k2, k3, k4, k5⟩ := R1.out.cells; dsimp only at k0 k1 k2 k3 k4 k5)
        | (go_at_call 25; (with_reducible refine (HD.out _).mono ?_); rintro e v2 ⟨rfl, hb⟩; have R2 := Lib.hid (R1.out.next hb); have Z2 := Lib.hid (Z2.out.below hb (Nat.le_refl _)); clear hb HD; (try clear k0 k1 k2 k3 k4 k5); obtain ⟨k0, k1, k2, k3, k4, k5⟩ := R2.out.cells; dsimp only at k0 k1 k2 k3 k4 k5)
        | (go_at_call 24; (with_reducible refine (K2.out _).mono ?_); rintro e v3 ⟨z3, rfl, hz, hb⟩; have R3 := Lib.hid (R2.out.next hb); have Z2 := Lib.hid (Z2.out.below hb (Nat.le_refl _)); have Z3 := Lib.hid hz; clear hz hb K2; (try clear k0 k1 k2 k3 k4 k5); obtain ⟨k0, k1, k2, k3, k4, k5⟩ := R3.out.cells; dsimp only at k0 k1 k2 k3 k4 k5)
        | (go_at_call 23; (with_reducible refine (level_any _ _ (m * m) q r n 17 35 _ Z2.out Z3.out tim17 (by decide) hr hn).mono ?_); rintro e v4 ⟨rfl, hb⟩; have R4 := Lib.hid (R3.out.next hb); clear hb; (try clear k0 k1 k2 k3 k4 k5); obtain ⟨k0, k1, k2, k3, k4, k5⟩ := R4.out.cells; dsimp only at k0 k1 k2 k3 k4 k5))
    go_wp2_with fail
    go_ret
    exact ⟨by rw [HN.out]; rfl, R4.out.bel⟩
end Go.Proofs.Ytmbpehhbfbmacaa
