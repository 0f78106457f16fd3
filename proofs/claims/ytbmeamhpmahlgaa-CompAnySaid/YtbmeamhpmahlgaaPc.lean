/- Proved here: which numbers fit, which parts may be: in the program and in the document. No condition. -/
import Derived.Test.YtbmeamhpmahlgaaPb
namespace Go.Proofs.Ytbmeamhpmahlgaa
open Go.RowKit

theorem fits_any (x : Int) (w : World) : Calls Try.prog 45 #[.int .i64 x] w fun e w' => e = .returned (.bool (decide (okF x))) ∧ w = w' := by
  by_cases h1 : -32768 ≤ x
  · by_cases h2 : x ≤ 32767
    · rw [decide_eq_true (show okF x from ⟨h1, h2⟩)]
      go_enter Try.func45, Try.ntmps45
      go_wp2_with fail
      go_ret
      exact ⟨rfl, rfl⟩
    · rw [decide_eq_false (fun h : okF x => h2 h.2)]
      go_enter Try.func45, Try.ntmps45
      go_wp2_with fail
      go_ret
      exact ⟨rfl, rfl⟩
  · rw [decide_eq_false (fun h : okF x => h1 h.1)]
    go_enter Try.func45, Try.ntmps45
    go_wp2_with fail
    go_ret
    exact ⟨rfl, rfl⟩
theorem rshort_any (x : Int) (w : World) : Calls Try.prog 46 #[.int .i64 x] w fun e w' => e = .returned (.bool (decide (okF x))) ∧ w = w' := by
  by_cases h1 : -32768 ≤ x
  · by_cases h2 : x ≤ 32767
    · rw [decide_eq_true (show okF x from ⟨h1, h2⟩)]
      go_enter Try.func46, Try.ntmps46
      go_wp2_with fail
      go_ret
      exact ⟨rfl, rfl⟩
    · rw [decide_eq_false (fun h : okF x => h2 h.2)]
      go_enter Try.func46, Try.ntmps46
      go_wp2_with fail
      go_ret
      exact ⟨rfl, rfl⟩
  · rw [decide_eq_false (fun h : okF x => h1 h.1)]
    go_enter Try.func46, Try.ntmps46
    go_wp2_with fail
    go_ret
    exact ⟨rfl, rfl⟩
theorem unit_any (x : Int) (w : World) : Calls Try.prog 32 #[.int .i64 x] w fun e w' => e = .returned (.bool (decide (okU x))) ∧ w = w' := by
  by_cases h1 : -32767 ≤ x
  · by_cases h2 : x ≤ 32767
    · rw [decide_eq_true (show okU x from ⟨h1, h2⟩)]
      go_enter Try.func32, Try.ntmps32
      go_wp2_with fail
      go_ret
      exact ⟨rfl, rfl⟩
    · rw [decide_eq_false (fun h : okU x => h2 h.2)]
      go_enter Try.func32, Try.ntmps32
      go_wp2_with fail
      go_ret
      exact ⟨rfl, rfl⟩
  · rw [decide_eq_false (fun h : okU x => h1 h.1)]
    go_enter Try.func32, Try.ntmps32
    go_wp2_with fail
    go_ret
    exact ⟨rfl, rfl⟩
theorem runit_any (x : Int) (w : World) : Calls Try.prog 34 #[.int .i64 x] w fun e w' => e = .returned (.bool (decide (okU x))) ∧ w = w' := by
  by_cases h1 : -32767 ≤ x
  · by_cases h2 : x ≤ 32767
    · rw [decide_eq_true (show okU x from ⟨h1, h2⟩)]
      go_enter Try.func34, Try.ntmps34
      go_wp2_with fail
      go_ret
      exact ⟨rfl, rfl⟩
    · rw [decide_eq_false (fun h : okU x => h2 h.2)]
      go_enter Try.func34, Try.ntmps34
      go_wp2_with fail
      go_ret
      exact ⟨rfl, rfl⟩
  · rw [decide_eq_false (fun h : okU x => h1 h.1)]
    go_enter Try.func34, Try.ntmps34
    go_wp2_with fail
    go_ret
    exact ⟨rfl, rfl⟩
theorem short_any (x : Int) (w : World) : Calls Try.prog 58 #[.int .i64 x] w fun e w' => e = .returned (.bool (decide (tin x))) ∧ w = w' := by
  by_cases h1 : -128 ≤ x
  · by_cases h2 : x ≤ 127
    · rw [decide_eq_true (show tin x from ⟨h1, h2⟩)]
      go_enter Try.func58, Try.ntmps58
      go_wp2_with fail
      go_ret
      exact ⟨rfl, rfl⟩
    · rw [decide_eq_false (fun h : tin x => h2 h.2)]
      go_enter Try.func58, Try.ntmps58
      go_wp2_with fail
      go_ret
      exact ⟨rfl, rfl⟩
  · rw [decide_eq_false (fun h : tin x => h1 h.1)]
    go_enter Try.func58, Try.ntmps58
    go_wp2_with fail
    go_ret
    exact ⟨rfl, rfl⟩
theorem rtiny_any (x : Int) (w : World) : Calls Try.prog 21 #[.int .i64 x] w fun e w' => e = .returned (.bool (decide (tin x))) ∧ w = w' := by
  by_cases h1 : -128 ≤ x
  · by_cases h2 : x ≤ 127
    · rw [decide_eq_true (show tin x from ⟨h1, h2⟩)]
      go_enter Try.func21, Try.ntmps21
      go_wp2_with fail
      go_ret
      exact ⟨rfl, rfl⟩
    · rw [decide_eq_false (fun h : tin x => h2 h.2)]
      go_enter Try.func21, Try.ntmps21
      go_wp2_with fail
      go_ret
      exact ⟨rfl, rfl⟩
  · rw [decide_eq_false (fun h : tin x => h1 h.1)]
    go_enter Try.func21, Try.ntmps21
    go_wp2_with fail
    go_ret
    exact ⟨rfl, rfl⟩
theorem glyphs_any (x : Int) (w : World) : Calls Try.prog 23 #[.int .i64 x] w fun e w' => e = .returned (.bool (decide (okG x))) ∧ w = w' := by
  by_cases h1 : 1 ≤ x
  · by_cases h2 : x ≤ 1024
    · rw [decide_eq_true (show okG x from ⟨h1, h2⟩)]
      go_enter Try.func23, Try.ntmps23
      go_wp2_with fail
      go_ret
      exact ⟨rfl, rfl⟩
    · rw [decide_eq_false (fun h : okG x => h2 h.2)]
      go_enter Try.func23, Try.ntmps23
      go_wp2_with fail
      go_ret
      exact ⟨rfl, rfl⟩
  · rw [decide_eq_false (fun h : okG x => h1 h.1)]
    go_enter Try.func23, Try.ntmps23
    go_wp2_with fail
    go_ret
    exact ⟨rfl, rfl⟩
/-- A part as an argument, and in its box. -/
def prA (p : Prt) : Array Value := #[.int .i64 p.1, .int .i64 p.2.1, .int .i64 p.2.2.1, .int .i64 p.2.2.2.1, .int .i64 p.2.2.2.2.1, .int .i64 p.2.2.2.2.2.1, .int .i64 p.2.2.2.2.2.2]
/-- A part in a box. -/
def Bp (w : World) (b : Nat) (p : Prt) : Prop := w.heap[b]? = some (.cells #[.int .i64 p.1, .int .i64 p.2.1, .int .i64 p.2.2.1, .int .i64 p.2.2.2.1, .int .i64 p.2.2.2.2.1, .int .i64 p.2.2.2.2.2.1, .int .i64 p.2.2.2.2.2.2] 38 (0, 0))
theorem Bp.cells {w : World} {h : Nat} {p : Prt} (k : Bp w h p) : w.cell? ⟨h, 0, none⟩ = some (.int .i64 p.1) ∧ w.cell? ⟨h, 1, none⟩ = some (.int .i64 p.2.1) ∧ w.cell? ⟨h, 2, none⟩ = some (.int .i64 p.2.2.1) ∧ w.cell? ⟨h, 3, none⟩ = some (.int .i64 p.2.2.2.1) ∧ w.cell? ⟨h, 4, none⟩ = some (.int .i64 p.2.2.2.2.1) ∧ w.cell? ⟨h, 5, none⟩ = some (.int .i64 p.2.2.2.2.2.1) ∧ w.cell? ⟨h, 6, none⟩ = some (.int .i64 p.2.2.2.2.2.2) :=
  ⟨cell_of_row w h 0 _ 38 (0, 0) k, cell_of_row w h 1 _ 38 (0, 0) k, cell_of_row w h 2 _ 38 (0, 0) k, cell_of_row w h 3 _ 38 (0, 0) k, cell_of_row w h 4 _ 38 (0, 0) k, cell_of_row w h 5 _ 38 (0, 0) k, cell_of_row w h 6 _ 38 (0, 0) k⟩
theorem Bp.lt {w : World} {h : Nat} {p : Prt} (k : Bp w h p) : h < w.heap.size := heap_lt k
theorem Bp.bel {w w' : World} {h : Nat} {p : Prt} (k : Bp w h p) (hb : Below w.heap.size w w') : Bp w' h p := (hb.block h k.lt).trans k
theorem Bp.fr {w : World} {h : Nat} {p : Prt} (k : Bp w h p) (j : Nat) : w.frozen? ⟨h, j, none⟩ = false := by
  unfold Bp at k
  simp [World.frozen?, k]
theorem Bp.new (w : World) (a b c d e f g : Int) : Bp (w.alloc (.cells #[.int .i64 a, .int .i64 b, .int .i64 c, .int .i64 d, .int .i64 e, .int .i64 f, .int .i64 g] 38)) w.heap.size (a, b, c, d, e, f, g) := heap_alloc_new w _
set_option maxHeartbeats 8000000 in
set_option maxRecDepth 100000 in
theorem mayPart_any (g x y a b c d G : Int) (w : World) : Calls Try.prog 24 #[.agg #[.int .i64 g, .int .i64 x, .int .i64 y, .int .i64 a, .int .i64 b, .int .i64 c, .int .i64 d], .int .i64 G] w fun e w' => e = .returned (.bool (decide (okP (g, x, y, a, b, c, d) G))) ∧ Below w.heap.size w w' := by
  have HB0 := Lib.hid (show Below w.heap.size w (w.alloc (.cells #[.int .i64 g, .int .i64 x, .int .i64 y, .int .i64 a, .int .i64 b, .int .i64 c, .int .i64 d] 38)) from (Below.refl _ _).alloc (Nat.le_refl _) _)
  have hO : okP (g, x, y, a, b, c, d) G ↔ (0 ≤ g ∧ g < G) ∧ okF x ∧ okF y ∧ okF a ∧ okF b ∧ okF c ∧ okF d := Iff.rfl
  have qx := fun W => fits_any x W
  have qy := fun W => fits_any y W
  have qa := fun W => fits_any a W
  have qb := fun W => fits_any b W
  have qc := fun W => fits_any c W
  have qd := fun W => fits_any d W
  by_cases k0 : 0 ≤ g
  · by_cases k1 : g < G
    · by_cases k2 : okF x
      · rw [decide_eq_true k2] at qx
        by_cases k3 : okF y
        · rw [decide_eq_true k3] at qy
          by_cases k4 : okF a
          · rw [decide_eq_true k4] at qa
            by_cases k5 : okF b
            · rw [decide_eq_true k5] at qb
              by_cases k6 : okF c
              · rw [decide_eq_true k6] at qc
                by_cases k7 : okF d
                · rw [decide_eq_true k7] at qd
                  rw [decide_eq_true (hO.2 ⟨⟨k0, k1⟩, k2, k3, k4, k5, k6, k7⟩)]
                  have Qx := Lib.hid qx
                  have Qy := Lib.hid qy
                  have Qa := Lib.hid qa
                  have Qb := Lib.hid qb
                  have Qc := Lib.hid qc
                  have Qd := Lib.hid qd
                  clear hO qx qy qa qb qc qd k2 k3 k4 k5 k6 k7
                  go_enter Try.func24, Try.ntmps24
                  go_wp2_with (first | (go_at_call 45; (with_reducible refine (Qx.out _).mono ?_); rintro e w' ⟨rfl, rfl⟩) | (go_at_call 45; (with_reducible refine (Qy.out _).mono ?_); rintro e w' ⟨rfl, rfl⟩) | (go_at_call 45; (with_reducible refine (Qa.out _).mono ?_); rintro e w' ⟨rfl, rfl⟩) | (go_at_call 45; (with_reducible refine (Qb.out _).mono ?_); rintro e w' ⟨rfl, rfl⟩) | (go_at_call 45; (with_reducible refine (Qc.out _).mono ?_); rintro e w' ⟨rfl, rfl⟩) | (go_at_call 45; (with_reducible refine (Qd.out _).mono ?_); rintro e w' ⟨rfl, rfl⟩))
                  go_ret
                  exact ⟨rfl, HB0.out⟩
                · rw [decide_eq_false k7] at qd
                  rw [decide_eq_false (fun h => k7 (hO.1 h).2.2.2.2.2.2)]
                  have Qx := Lib.hid qx
                  have Qy := Lib.hid qy
                  have Qa := Lib.hid qa
                  have Qb := Lib.hid qb
                  have Qc := Lib.hid qc
                  have Qd := Lib.hid qd
                  clear hO qx qy qa qb qc qd k2 k3 k4 k5 k6 k7
                  go_enter Try.func24, Try.ntmps24
                  go_wp2_with (first | (go_at_call 45; (with_reducible refine (Qx.out _).mono ?_); rintro e w' ⟨rfl, rfl⟩) | (go_at_call 45; (with_reducible refine (Qy.out _).mono ?_); rintro e w' ⟨rfl, rfl⟩) | (go_at_call 45; (with_reducible refine (Qa.out _).mono ?_); rintro e w' ⟨rfl, rfl⟩) | (go_at_call 45; (with_reducible refine (Qb.out _).mono ?_); rintro e w' ⟨rfl, rfl⟩) | (go_at_call 45; (with_reducible refine (Qc.out _).mono ?_); rintro e w' ⟨rfl, rfl⟩) | (go_at_call 45; (with_reducible refine (Qd.out _).mono ?_); rintro e w' ⟨rfl, rfl⟩))
                  go_ret
                  exact ⟨rfl, HB0.out⟩
              · rw [decide_eq_false k6] at qc
                rw [decide_eq_false (fun h => k6 (hO.1 h).2.2.2.2.2.1)]
                have Qx := Lib.hid qx
                have Qy := Lib.hid qy
                have Qa := Lib.hid qa
                have Qb := Lib.hid qb
                have Qc := Lib.hid qc
                have Qd := Lib.hid qd
                clear hO qx qy qa qb qc qd k2 k3 k4 k5 k6
                go_enter Try.func24, Try.ntmps24
                go_wp2_with (first | (go_at_call 45; (with_reducible refine (Qx.out _).mono ?_); rintro e w' ⟨rfl, rfl⟩) | (go_at_call 45; (with_reducible refine (Qy.out _).mono ?_); rintro e w' ⟨rfl, rfl⟩) | (go_at_call 45; (with_reducible refine (Qa.out _).mono ?_); rintro e w' ⟨rfl, rfl⟩) | (go_at_call 45; (with_reducible refine (Qb.out _).mono ?_); rintro e w' ⟨rfl, rfl⟩) | (go_at_call 45; (with_reducible refine (Qc.out _).mono ?_); rintro e w' ⟨rfl, rfl⟩) | (go_at_call 45; (with_reducible refine (Qd.out _).mono ?_); rintro e w' ⟨rfl, rfl⟩))
                go_ret
                exact ⟨rfl, HB0.out⟩
            · rw [decide_eq_false k5] at qb
              rw [decide_eq_false (fun h => k5 (hO.1 h).2.2.2.2.1)]
              have Qx := Lib.hid qx
              have Qy := Lib.hid qy
              have Qa := Lib.hid qa
              have Qb := Lib.hid qb
              have Qc := Lib.hid qc
              have Qd := Lib.hid qd
              clear hO qx qy qa qb qc qd k2 k3 k4 k5
              go_enter Try.func24, Try.ntmps24
              go_wp2_with (first | (go_at_call 45; (with_reducible refine (Qx.out _).mono ?_); rintro e w' ⟨rfl, rfl⟩) | (go_at_call 45; (with_reducible refine (Qy.out _).mono ?_); rintro e w' ⟨rfl, rfl⟩) | (go_at_call 45; (with_reducible refine (Qa.out _).mono ?_); rintro e w' ⟨rfl, rfl⟩) | (go_at_call 45; (with_reducible refine (Qb.out _).mono ?_); rintro e w' ⟨rfl, rfl⟩) | (go_at_call 45; (with_reducible refine (Qc.out _).mono ?_); rintro e w' ⟨rfl, rfl⟩) | (go_at_call 45; (with_reducible refine (Qd.out _).mono ?_); rintro e w' ⟨rfl, rfl⟩))
              go_ret
              exact ⟨rfl, HB0.out⟩
          · rw [decide_eq_false k4] at qa
            rw [decide_eq_false (fun h => k4 (hO.1 h).2.2.2.1)]
            have Qx := Lib.hid qx
            have Qy := Lib.hid qy
            have Qa := Lib.hid qa
            have Qb := Lib.hid qb
            have Qc := Lib.hid qc
            have Qd := Lib.hid qd
            clear hO qx qy qa qb qc qd k2 k3 k4
            go_enter Try.func24, Try.ntmps24
            go_wp2_with (first | (go_at_call 45; (with_reducible refine (Qx.out _).mono ?_); rintro e w' ⟨rfl, rfl⟩) | (go_at_call 45; (with_reducible refine (Qy.out _).mono ?_); rintro e w' ⟨rfl, rfl⟩) | (go_at_call 45; (with_reducible refine (Qa.out _).mono ?_); rintro e w' ⟨rfl, rfl⟩) | (go_at_call 45; (with_reducible refine (Qb.out _).mono ?_); rintro e w' ⟨rfl, rfl⟩) | (go_at_call 45; (with_reducible refine (Qc.out _).mono ?_); rintro e w' ⟨rfl, rfl⟩) | (go_at_call 45; (with_reducible refine (Qd.out _).mono ?_); rintro e w' ⟨rfl, rfl⟩))
            go_ret
            exact ⟨rfl, HB0.out⟩
        · rw [decide_eq_false k3] at qy
          rw [decide_eq_false (fun h => k3 (hO.1 h).2.2.1)]
          have Qx := Lib.hid qx
          have Qy := Lib.hid qy
          have Qa := Lib.hid qa
          have Qb := Lib.hid qb
          have Qc := Lib.hid qc
          have Qd := Lib.hid qd
          clear hO qx qy qa qb qc qd k2 k3
          go_enter Try.func24, Try.ntmps24
          go_wp2_with (first | (go_at_call 45; (with_reducible refine (Qx.out _).mono ?_); rintro e w' ⟨rfl, rfl⟩) | (go_at_call 45; (with_reducible refine (Qy.out _).mono ?_); rintro e w' ⟨rfl, rfl⟩) | (go_at_call 45; (with_reducible refine (Qa.out _).mono ?_); rintro e w' ⟨rfl, rfl⟩) | (go_at_call 45; (with_reducible refine (Qb.out _).mono ?_); rintro e w' ⟨rfl, rfl⟩) | (go_at_call 45; (with_reducible refine (Qc.out _).mono ?_); rintro e w' ⟨rfl, rfl⟩) | (go_at_call 45; (with_reducible refine (Qd.out _).mono ?_); rintro e w' ⟨rfl, rfl⟩))
          go_ret
          exact ⟨rfl, HB0.out⟩
      · rw [decide_eq_false k2] at qx
        rw [decide_eq_false (fun h => k2 (hO.1 h).2.1)]
        have Qx := Lib.hid qx
        have Qy := Lib.hid qy
        have Qa := Lib.hid qa
        have Qb := Lib.hid qb
        have Qc := Lib.hid qc
        have Qd := Lib.hid qd
        clear hO qx qy qa qb qc qd k2
        go_enter Try.func24, Try.ntmps24
        go_wp2_with (first | (go_at_call 45; (with_reducible refine (Qx.out _).mono ?_); rintro e w' ⟨rfl, rfl⟩) | (go_at_call 45; (with_reducible refine (Qy.out _).mono ?_); rintro e w' ⟨rfl, rfl⟩) | (go_at_call 45; (with_reducible refine (Qa.out _).mono ?_); rintro e w' ⟨rfl, rfl⟩) | (go_at_call 45; (with_reducible refine (Qb.out _).mono ?_); rintro e w' ⟨rfl, rfl⟩) | (go_at_call 45; (with_reducible refine (Qc.out _).mono ?_); rintro e w' ⟨rfl, rfl⟩) | (go_at_call 45; (with_reducible refine (Qd.out _).mono ?_); rintro e w' ⟨rfl, rfl⟩))
        go_ret
        exact ⟨rfl, HB0.out⟩
    · rw [decide_eq_false (fun h => k1 (hO.1 h).1.2)]
      have Qx := Lib.hid qx
      have Qy := Lib.hid qy
      have Qa := Lib.hid qa
      have Qb := Lib.hid qb
      have Qc := Lib.hid qc
      have Qd := Lib.hid qd
      clear hO qx qy qa qb qc qd
      go_enter Try.func24, Try.ntmps24
      go_wp2_with (first | (go_at_call 45; (with_reducible refine (Qx.out _).mono ?_); rintro e w' ⟨rfl, rfl⟩) | (go_at_call 45; (with_reducible refine (Qy.out _).mono ?_); rintro e w' ⟨rfl, rfl⟩) | (go_at_call 45; (with_reducible refine (Qa.out _).mono ?_); rintro e w' ⟨rfl, rfl⟩) | (go_at_call 45; (with_reducible refine (Qb.out _).mono ?_); rintro e w' ⟨rfl, rfl⟩) | (go_at_call 45; (with_reducible refine (Qc.out _).mono ?_); rintro e w' ⟨rfl, rfl⟩) | (go_at_call 45; (with_reducible refine (Qd.out _).mono ?_); rintro e w' ⟨rfl, rfl⟩))
      go_ret
      exact ⟨rfl, HB0.out⟩
  · rw [decide_eq_false (fun h => k0 (hO.1 h).1.1)]
    have Qx := Lib.hid qx
    have Qy := Lib.hid qy
    have Qa := Lib.hid qa
    have Qb := Lib.hid qb
    have Qc := Lib.hid qc
    have Qd := Lib.hid qd
    clear hO qx qy qa qb qc qd
    go_enter Try.func24, Try.ntmps24
    go_wp2_with (first | (go_at_call 45; (with_reducible refine (Qx.out _).mono ?_); rintro e w' ⟨rfl, rfl⟩) | (go_at_call 45; (with_reducible refine (Qy.out _).mono ?_); rintro e w' ⟨rfl, rfl⟩) | (go_at_call 45; (with_reducible refine (Qa.out _).mono ?_); rintro e w' ⟨rfl, rfl⟩) | (go_at_call 45; (with_reducible refine (Qb.out _).mono ?_); rintro e w' ⟨rfl, rfl⟩) | (go_at_call 45; (with_reducible refine (Qc.out _).mono ?_); rintro e w' ⟨rfl, rfl⟩) | (go_at_call 45; (with_reducible refine (Qd.out _).mono ?_); rintro e w' ⟨rfl, rfl⟩))
    go_ret
    exact ⟨rfl, HB0.out⟩
set_option maxHeartbeats 8000000 in
set_option maxRecDepth 100000 in
theorem rone_any (g x y a b c d G : Int) (w : World) : Calls Try.prog 25 #[.agg #[.int .i64 g, .int .i64 x, .int .i64 y, .int .i64 a, .int .i64 b, .int .i64 c, .int .i64 d], .int .i64 G] w fun e w' => e = .returned (.bool (decide (okP (g, x, y, a, b, c, d) G))) ∧ Below w.heap.size w w' := by
  have HB0 := Lib.hid (show Below w.heap.size w (w.alloc (.cells #[.int .i64 g, .int .i64 x, .int .i64 y, .int .i64 a, .int .i64 b, .int .i64 c, .int .i64 d] 38)) from (Below.refl _ _).alloc (Nat.le_refl _) _)
  have hO : okP (g, x, y, a, b, c, d) G ↔ (0 ≤ g ∧ g < G) ∧ okF x ∧ okF y ∧ okF a ∧ okF b ∧ okF c ∧ okF d := Iff.rfl
  have qx := fun W => rshort_any x W
  have qy := fun W => rshort_any y W
  have qa := fun W => rshort_any a W
  have qb := fun W => rshort_any b W
  have qc := fun W => rshort_any c W
  have qd := fun W => rshort_any d W
  by_cases k0 : 0 ≤ g
  · by_cases k1 : g < G
    · by_cases k2 : okF x
      · rw [decide_eq_true k2] at qx
        by_cases k3 : okF y
        · rw [decide_eq_true k3] at qy
          by_cases k4 : okF a
          · rw [decide_eq_true k4] at qa
            by_cases k5 : okF b
            · rw [decide_eq_true k5] at qb
              by_cases k6 : okF c
              · rw [decide_eq_true k6] at qc
                by_cases k7 : okF d
                · rw [decide_eq_true k7] at qd
                  rw [decide_eq_true (hO.2 ⟨⟨k0, k1⟩, k2, k3, k4, k5, k6, k7⟩)]
                  have Qx := Lib.hid qx
                  have Qy := Lib.hid qy
                  have Qa := Lib.hid qa
                  have Qb := Lib.hid qb
                  have Qc := Lib.hid qc
                  have Qd := Lib.hid qd
                  clear hO qx qy qa qb qc qd k2 k3 k4 k5 k6 k7
                  go_enter Try.func25, Try.ntmps25
                  go_wp2_with (first | (go_at_call 46; (with_reducible refine (Qx.out _).mono ?_); rintro e w' ⟨rfl, rfl⟩) | (go_at_call 46; (with_reducible refine (Qy.out _).mono ?_); rintro e w' ⟨rfl, rfl⟩) | (go_at_call 46; (with_reducible refine (Qa.out _).mono ?_); rintro e w' ⟨rfl, rfl⟩) | (go_at_call 46; (with_reducible refine (Qb.out _).mono ?_); rintro e w' ⟨rfl, rfl⟩) | (go_at_call 46; (with_reducible refine (Qc.out _).mono ?_); rintro e w' ⟨rfl, rfl⟩) | (go_at_call 46; (with_reducible refine (Qd.out _).mono ?_); rintro e w' ⟨rfl, rfl⟩))
                  go_ret
                  exact ⟨rfl, HB0.out⟩
                · rw [decide_eq_false k7] at qd
                  rw [decide_eq_false (fun h => k7 (hO.1 h).2.2.2.2.2.2)]
                  have Qx := Lib.hid qx
                  have Qy := Lib.hid qy
                  have Qa := Lib.hid qa
                  have Qb := Lib.hid qb
                  have Qc := Lib.hid qc
                  have Qd := Lib.hid qd
                  clear hO qx qy qa qb qc qd k2 k3 k4 k5 k6 k7
                  go_enter Try.func25, Try.ntmps25
                  go_wp2_with (first | (go_at_call 46; (with_reducible refine (Qx.out _).mono ?_); rintro e w' ⟨rfl, rfl⟩) | (go_at_call 46; (with_reducible refine (Qy.out _).mono ?_); rintro e w' ⟨rfl, rfl⟩) | (go_at_call 46; (with_reducible refine (Qa.out _).mono ?_); rintro e w' ⟨rfl, rfl⟩) | (go_at_call 46; (with_reducible refine (Qb.out _).mono ?_); rintro e w' ⟨rfl, rfl⟩) | (go_at_call 46; (with_reducible refine (Qc.out _).mono ?_); rintro e w' ⟨rfl, rfl⟩) | (go_at_call 46; (with_reducible refine (Qd.out _).mono ?_); rintro e w' ⟨rfl, rfl⟩))
                  go_ret
                  exact ⟨rfl, HB0.out⟩
              · rw [decide_eq_false k6] at qc
                rw [decide_eq_false (fun h => k6 (hO.1 h).2.2.2.2.2.1)]
                have Qx := Lib.hid qx
                have Qy := Lib.hid qy
                have Qa := Lib.hid qa
                have Qb := Lib.hid qb
                have Qc := Lib.hid qc
                have Qd := Lib.hid qd
                clear hO qx qy qa qb qc qd k2 k3 k4 k5 k6
                go_enter Try.func25, Try.ntmps25
                go_wp2_with (first | (go_at_call 46; (with_reducible refine (Qx.out _).mono ?_); rintro e w' ⟨rfl, rfl⟩) | (go_at_call 46; (with_reducible refine (Qy.out _).mono ?_); rintro e w' ⟨rfl, rfl⟩) | (go_at_call 46; (with_reducible refine (Qa.out _).mono ?_); rintro e w' ⟨rfl, rfl⟩) | (go_at_call 46; (with_reducible refine (Qb.out _).mono ?_); rintro e w' ⟨rfl, rfl⟩) | (go_at_call 46; (with_reducible refine (Qc.out _).mono ?_); rintro e w' ⟨rfl, rfl⟩) | (go_at_call 46; (with_reducible refine (Qd.out _).mono ?_); rintro e w' ⟨rfl, rfl⟩))
                go_ret
                exact ⟨rfl, HB0.out⟩
            · rw [decide_eq_false k5] at qb
              rw [decide_eq_false (fun h => k5 (hO.1 h).2.2.2.2.1)]
              have Qx := Lib.hid qx
              have Qy := Lib.hid qy
              have Qa := Lib.hid qa
              have Qb := Lib.hid qb
              have Qc := Lib.hid qc
              have Qd := Lib.hid qd
              clear hO qx qy qa qb qc qd k2 k3 k4 k5
              go_enter Try.func25, Try.ntmps25
              go_wp2_with (first | (go_at_call 46; (with_reducible refine (Qx.out _).mono ?_); rintro e w' ⟨rfl, rfl⟩) | (go_at_call 46; (with_reducible refine (Qy.out _).mono ?_); rintro e w' ⟨rfl, rfl⟩) | (go_at_call 46; (with_reducible refine (Qa.out _).mono ?_); rintro e w' ⟨rfl, rfl⟩) | (go_at_call 46; (with_reducible refine (Qb.out _).mono ?_); rintro e w' ⟨rfl, rfl⟩) | (go_at_call 46; (with_reducible refine (Qc.out _).mono ?_); rintro e w' ⟨rfl, rfl⟩) | (go_at_call 46; (with_reducible refine (Qd.out _).mono ?_); rintro e w' ⟨rfl, rfl⟩))
              go_ret
              exact ⟨rfl, HB0.out⟩
          · rw [decide_eq_false k4] at qa
            rw [decide_eq_false (fun h => k4 (hO.1 h).2.2.2.1)]
            have Qx := Lib.hid qx
            have Qy := Lib.hid qy
            have Qa := Lib.hid qa
            have Qb := Lib.hid qb
            have Qc := Lib.hid qc
            have Qd := Lib.hid qd
            clear hO qx qy qa qb qc qd k2 k3 k4
            go_enter Try.func25, Try.ntmps25
            go_wp2_with (first | (go_at_call 46; (with_reducible refine (Qx.out _).mono ?_); rintro e w' ⟨rfl, rfl⟩) | (go_at_call 46; (with_reducible refine (Qy.out _).mono ?_); rintro e w' ⟨rfl, rfl⟩) | (go_at_call 46; (with_reducible refine (Qa.out _).mono ?_); rintro e w' ⟨rfl, rfl⟩) | (go_at_call 46; (with_reducible refine (Qb.out _).mono ?_); rintro e w' ⟨rfl, rfl⟩) | (go_at_call 46; (with_reducible refine (Qc.out _).mono ?_); rintro e w' ⟨rfl, rfl⟩) | (go_at_call 46; (with_reducible refine (Qd.out _).mono ?_); rintro e w' ⟨rfl, rfl⟩))
            go_ret
            exact ⟨rfl, HB0.out⟩
        · rw [decide_eq_false k3] at qy
          rw [decide_eq_false (fun h => k3 (hO.1 h).2.2.1)]
          have Qx := Lib.hid qx
          have Qy := Lib.hid qy
          have Qa := Lib.hid qa
          have Qb := Lib.hid qb
          have Qc := Lib.hid qc
          have Qd := Lib.hid qd
          clear hO qx qy qa qb qc qd k2 k3
          go_enter Try.func25, Try.ntmps25
          go_wp2_with (first | (go_at_call 46; (with_reducible refine (Qx.out _).mono ?_); rintro e w' ⟨rfl, rfl⟩) | (go_at_call 46; (with_reducible refine (Qy.out _).mono ?_); rintro e w' ⟨rfl, rfl⟩) | (go_at_call 46; (with_reducible refine (Qa.out _).mono ?_); rintro e w' ⟨rfl, rfl⟩) | (go_at_call 46; (with_reducible refine (Qb.out _).mono ?_); rintro e w' ⟨rfl, rfl⟩) | (go_at_call 46; (with_reducible refine (Qc.out _).mono ?_); rintro e w' ⟨rfl, rfl⟩) | (go_at_call 46; (with_reducible refine (Qd.out _).mono ?_); rintro e w' ⟨rfl, rfl⟩))
          go_ret
          exact ⟨rfl, HB0.out⟩
      · rw [decide_eq_false k2] at qx
        rw [decide_eq_false (fun h => k2 (hO.1 h).2.1)]
        have Qx := Lib.hid qx
        have Qy := Lib.hid qy
        have Qa := Lib.hid qa
        have Qb := Lib.hid qb
        have Qc := Lib.hid qc
        have Qd := Lib.hid qd
        clear hO qx qy qa qb qc qd k2
        go_enter Try.func25, Try.ntmps25
        go_wp2_with (first | (go_at_call 46; (with_reducible refine (Qx.out _).mono ?_); rintro e w' ⟨rfl, rfl⟩) | (go_at_call 46; (with_reducible refine (Qy.out _).mono ?_); rintro e w' ⟨rfl, rfl⟩) | (go_at_call 46; (with_reducible refine (Qa.out _).mono ?_); rintro e w' ⟨rfl, rfl⟩) | (go_at_call 46; (with_reducible refine (Qb.out _).mono ?_); rintro e w' ⟨rfl, rfl⟩) | (go_at_call 46; (with_reducible refine (Qc.out _).mono ?_); rintro e w' ⟨rfl, rfl⟩) | (go_at_call 46; (with_reducible refine (Qd.out _).mono ?_); rintro e w' ⟨rfl, rfl⟩))
        go_ret
        exact ⟨rfl, HB0.out⟩
    · rw [decide_eq_false (fun h => k1 (hO.1 h).1.2)]
      have Qx := Lib.hid qx
      have Qy := Lib.hid qy
      have Qa := Lib.hid qa
      have Qb := Lib.hid qb
      have Qc := Lib.hid qc
      have Qd := Lib.hid qd
      clear hO qx qy qa qb qc qd
      go_enter Try.func25, Try.ntmps25
      go_wp2_with (first | (go_at_call 46; (with_reducible refine (Qx.out _).mono ?_); rintro e w' ⟨rfl, rfl⟩) | (go_at_call 46; (with_reducible refine (Qy.out _).mono ?_); rintro e w' ⟨rfl, rfl⟩) | (go_at_call 46; (with_reducible refine (Qa.out _).mono ?_); rintro e w' ⟨rfl, rfl⟩) | (go_at_call 46; (with_reducible refine (Qb.out _).mono ?_); rintro e w' ⟨rfl, rfl⟩) | (go_at_call 46; (with_reducible refine (Qc.out _).mono ?_); rintro e w' ⟨rfl, rfl⟩) | (go_at_call 46; (with_reducible refine (Qd.out _).mono ?_); rintro e w' ⟨rfl, rfl⟩))
      go_ret
      exact ⟨rfl, HB0.out⟩
  · rw [decide_eq_false (fun h => k0 (hO.1 h).1.1)]
    have Qx := Lib.hid qx
    have Qy := Lib.hid qy
    have Qa := Lib.hid qa
    have Qb := Lib.hid qb
    have Qc := Lib.hid qc
    have Qd := Lib.hid qd
    clear hO qx qy qa qb qc qd
    go_enter Try.func25, Try.ntmps25
    go_wp2_with (first | (go_at_call 46; (with_reducible refine (Qx.out _).mono ?_); rintro e w' ⟨rfl, rfl⟩) | (go_at_call 46; (with_reducible refine (Qy.out _).mono ?_); rintro e w' ⟨rfl, rfl⟩) | (go_at_call 46; (with_reducible refine (Qa.out _).mono ?_); rintro e w' ⟨rfl, rfl⟩) | (go_at_call 46; (with_reducible refine (Qb.out _).mono ?_); rintro e w' ⟨rfl, rfl⟩) | (go_at_call 46; (with_reducible refine (Qc.out _).mono ?_); rintro e w' ⟨rfl, rfl⟩) | (go_at_call 46; (with_reducible refine (Qd.out _).mono ?_); rintro e w' ⟨rfl, rfl⟩))
    go_ret
    exact ⟨rfl, HB0.out⟩
end Go.Proofs.Ytbmeamhpmahlgaa
