/- Proved here: which reaches and steps may be (Right, Asked); the level of two points (the document's Near). Condition: points that may be; a reach and steps that may be. -/
import Derived.Test.YtmbpehhbfbmacaaLLb
namespace Go.Proofs.Ytmbpehhbfbmacaa
open Go.RowKit

/-- May a reach and steps be? -/
def riP (r n : Int) : Prop := (1 ≤ r ∧ r ≤ 1048576) ∧ (1 ≤ n ∧ n ≤ 255)
instance (r n : Int) : Decidable (riP r n) := inferInstanceAs (Decidable (_ ∧ _))
set_option maxHeartbeats 4000000 in
set_option maxRecDepth 100000 in
theorem right_any (x y : Int) (w : World) : Calls Try.prog 21 #[.int .i64 x, .int .i64 y] w fun e w' => e = .returned (.bool (decide (riP x y))) ∧ w' = w := by
  have HD := Lib.hid (show decide (riP x y) = ((((decide (1 ≤ x)) && (decide (x ≤ 1048576))) && (decide (1 ≤ y))) && (decide (y ≤ 255))) from by
    have e : decide (riP x y) = decide ((1 ≤ x ∧ x ≤ 1048576) ∧ (1 ≤ y ∧ y ≤ 255)) := rfl
    rw [e, Bool.decide_and, Bool.decide_and, Bool.decide_and, Bool.and_assoc, Bool.and_assoc, Bool.and_assoc])
  by_cases h1 : 1 ≤ x
  · have g1 : decide (1 ≤ x) = true := decide_eq_true h1
    by_cases h2 : x ≤ 1048576
    · have g2 : decide (x ≤ 1048576) = true := decide_eq_true h2
      by_cases h3 : 1 ≤ y
      · have g3 : decide (1 ≤ y) = true := decide_eq_true h3
        rw [g1, g2, g3] at HD
        obtain ⟨r, hr⟩ : ∃ r, r = decide (y ≤ 255) := ⟨_, rfl⟩
        rw [← hr] at HD
        have g4 := hr.symm
        clear h1 h2 h3 hr
        go_enter Try.func21, Try.ntmps21
        go_wp2_with fail
        go_ret
        exact ⟨by rw [HD.out]; rfl, rfl⟩
      · have g3 : decide (1 ≤ y) = false := decide_eq_false h3
        rw [g1, g2, g3] at HD
        clear h1 h2 h3
        go_enter Try.func21, Try.ntmps21
        go_wp2_with fail
        go_ret
        exact ⟨by rw [HD.out]; rfl, rfl⟩
    · have g2 : decide (x ≤ 1048576) = false := decide_eq_false h2
      rw [g1, g2] at HD
      clear h1 h2
      go_enter Try.func21, Try.ntmps21
      go_wp2_with fail
      go_ret
      exact ⟨by rw [HD.out]; rfl, rfl⟩
  · have g1 : decide (1 ≤ x) = false := decide_eq_false h1
    rw [g1] at HD
    clear h1
    go_enter Try.func21, Try.ntmps21
    go_wp2_with fail
    go_ret
    exact ⟨by rw [HD.out]; rfl, rfl⟩
/-- What line's Asked answers. -/
def askL (l : List P2) (r n : Int) : Int := if riP r n then askN l else 1
theorem asked19_any (g m c : Nat) (l : List P2) (r n : Int) (w : World) (h : Prow w g l) (hl : l.length = m) (hm : m ≤ 1000) : Calls Try.prog 10 #[.slice (some ⟨g, 0, none⟩) m c, .int .i64 r, .int .i64 n] w fun e w' => e = .returned (.int .i64 (askL l r n)) ∧ Below w.heap.size w w' := by
  have CA := Lib.hid (asked_any g m c l w h hl hm)
  have CR := Lib.hid (right_any r n w)
  by_cases ha : riP r n
  · rw [decide_eq_true ha] at CR
    have HX := Lib.hid (show askL l r n = askN l from if_pos ha)
    clear h hl ha
    go_enter Try.func10, Try.ntmps10
    go_wp2_with (first
      | (go_at_call 21; (with_reducible refine CR.out.mono ?_); rintro e w1 ⟨rfl, rfl⟩)
      | (go_at_call 22; (with_reducible refine CA.out.mono ?_); rintro e w1 ⟨rfl, hb⟩; have HB := Lib.hid hb; clear hb))
    go_ret
    exact ⟨by rw [HX.out]; rfl, HB.out⟩
  · rw [decide_eq_false ha] at CR
    have HX := Lib.hid (show askL l r n = 1 from if_neg ha)
    clear h hl ha
    go_enter Try.func10, Try.ntmps10
    go_wp2_with (go_at_call 21; (with_reducible refine CR.out.mono ?_); rintro e w1 ⟨rfl, rfl⟩)
    go_ret
    exact ⟨by rw [HX.out]; rfl, Below.refl _ _⟩
theorem sq_in {x : Int} (h1 : -67108864 ≤ x) (h2 : x ≤ 67108864) : 0 ≤ x * x ∧ x * x ≤ 4503599627370496 := by
  have h : (x * x).natAbs ≤ 67108864 * 67108864 := by
    rw [Int.natAbs_mul]
    exact Nat.mul_le_mul (by omega) (by omega)
  have h3 : x * x = ((x.natAbs * x.natAbs : Nat) : Int) := (Int.natAbs_mul_self).symm
  omega
/-- How far a and p are: a square. -/
def dsq (p a : P2) : Nat := (dt p a a).toNat
theorem dsq_eq {p a : P2} (hp : fiP p) (ha : fiP a) : dt p a a = (dsq p a : Int) ∧ dsq p a ≤ 9007199254740992 := by
  obtain ⟨⟨hp1, hp2⟩, hp3, hp4⟩ := hp
  obtain ⟨⟨ha1, ha2⟩, ha3, ha4⟩ := ha
  have m1 := sq_in (x := a.1 - p.1) (by omega) (by omega)
  have m2 := sq_in (x := a.2 - p.2) (by omega) (by omega)
  have e : dt p a a = (a.1 - p.1) * (a.1 - p.1) + (a.2 - p.2) * (a.2 - p.2) := rfl
  unfold dsq
  omega
/-- The level of two points. -/
def nearN (p a : P2) (r n : Nat) : Nat := lev (dsq p a) 1 r n
set_option maxHeartbeats 4000000 in
set_option maxRecDepth 100000 in
theorem near_any (px py ax ay : Int) (r n : Nat) (w : World) (hp : fiP (px, py)) (ha : fiP (ax, ay)) (hr : r ≤ 1048576) (hn : n ≤ 255) : Calls Try.prog 11 #[.agg #[.int .i64 px, .int .i64 py], .agg #[.int .i64 ax, .int .i64 ay], .int .i64 (r : Int), .int .i64 (n : Int)] w fun e w' => e = .returned (.int .i64 (nearN (px, py) (ax, ay) r n : Int)) ∧ Below w.heap.size w w' := by
  obtain ⟨hq, hqb⟩ := dsq_eq hp ha
  have HD := Lib.hid (fun W => dot_any px py ax ay ax ay W hp ha ha)
  have HN := Lib.hid (show nearN (px, py) (ax, ay) r n = lev (dsq (px, py) (ax, ay)) 1 r n from rfl)
  obtain ⟨N, hN⟩ : ∃ N, N = nearN (px, py) (ax, ay) r n := ⟨_, rfl⟩
  rw [← hN] at HN ⊢
  rw [hq] at HD
  obtain ⟨q, hq2⟩ : ∃ q, q = dsq (px, py) (ax, ay) := ⟨_, rfl⟩
  rw [← hq2] at HN HD hqb
  have e1 : IntKind.u64.wrap (q : Int) = (q : Int) := IntWalk.u64_in _ (by omega)
  have K1 := Lib.hid (fun W => digs_any q W (by omega))
  have K2 := Lib.hid (show ∀ W : World, Calls Try.prog 24 #[.int .u64 1] W fun e w' => ∃ z, e = .returned z ∧ Num w' z 1 8 ∧ Below W.heap.size W w' from fun W => digs_any 1 W (by decide))
  obtain ⟨p0, p1, hbw⟩ := box2 w px py ax ay
  have HB := Lib.hid hbw
  obtain ⟨c0, c1, _, _⟩ := p0.cells
  obtain ⟨d0, d1, _, _⟩ := p1.cells
  dsimp only at c0 c1 d0 d1
  clear p0 p1 hbw hq hq2 hN hp ha
  go_enter Try.func11, Try.ntmps11
  go_wp2_with (first
    | (go_at_call 25; (with_reducible refine (HD.out _).mono ?_); rintro e w1 ⟨rfl, hb⟩; have HB1 := Lib.hid (HB.out.trans (hb.mono HB.out.size)); clear hb)
    | (go_at_call 24; (with_reducible refine (K1.out _).mono ?_); rintro e w2 ⟨z1, rfl, hz, hb⟩; have HB2 := Lib.hid (HB1.out.trans (hb.mono HB1.out.size)); have Z1 := Lib.hid hz; clear hz hb)
    | (go_at_call 24; (with_reducible refine (K2.out _).mono ?_); rintro e w3 ⟨z2, rfl, hz, hb⟩; have HB3 := Lib.hid (HB2.out.trans (hb.mono HB2.out.size)); have Z2 := Lib.hid hz; have Z1 := Lib.hid (Z1.out.below hb (Nat.le_refl _)); clear hz hb)
    | (go_at_call 23; (with_reducible refine (level_any _ _ q 1 r n 8 26 _ Z1.out Z2.out tim8 (by decide) hr hn).mono ?_); rintro e w4 ⟨rfl, hb⟩; have HB4 := Lib.hid (HB3.out.trans (hb.mono HB3.out.size)); clear hb))
  go_ret
  exact ⟨by rw [HN.out]; rfl, HB4.out⟩
end Go.Proofs.Ytmbpehhbfbmacaa
