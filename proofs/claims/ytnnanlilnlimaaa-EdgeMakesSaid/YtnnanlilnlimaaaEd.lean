/- Proved here: edges as they lie in memory; which points and edges may be (the document's fine, same, One); the points of an edge. Condition: edges that lie in memory. -/
import Derived.Test.YtnnanlilnlimaaaEc
import Derived.Test.YtnnanlilnlimaaaHa
namespace Go.Proofs.Ytnnanlilnlimaaa
open Go.RowKit

def edC (e : Edg) : List Value := [.int .i64 e.1, .bool e.2.1, .int .i64 e.2.2.1.1, .int .i64 e.2.2.1.2, .int .i64 e.2.2.2.1.1, .int .i64 e.2.2.2.1.2, .int .i64 e.2.2.2.2.1, .int .i64 e.2.2.2.2.2]
/-- A list of edges, as it lies in memory. -/
structure Edl (w : World) (A : Option Addr) (m : Nat) (L : List Edg) : Prop where
  len : L.length = m
  get : ∀ i, i < m → ∃ ad, A = some ad ∧ ad.block < w.heap.size ∧ ∀ j u, (edC (eg L i))[j]? = some u → w.cell? (ad.add (i * 8 + j)) = some u
theorem Edl.nil (w : World) : Edl w none 0 [] := ⟨rfl, fun i hi => by omega⟩
theorem Edl.bel {w w' : World} {A : Option Addr} {m : Nat} {L : List Edg} (h : Edl w A m L) (hb : Below w.heap.size w w') : Edl w' A m L :=
  ⟨h.len, fun i hi => by
    obtain ⟨ad, h1, h2, h3⟩ := h.get i hi
    exact ⟨ad, h1, Nat.lt_of_lt_of_le h2 hb.size, fun j u hu => by rw [hb.cell (by rw [block_of_add]; exact h2)]; exact h3 j u hu⟩⟩
theorem add_nextk (a : Addr) (n k : Nat) (hk : 0 < k) : (⟨(a.add n).block, (a.add n).off + k, none⟩ : Addr) = a.add (n + k) := by
  unfold Addr.add
  have hnk : n + k ≠ 0 := by omega
  by_cases hn : n = 0
  · subst hn; simp [show k ≠ 0 by omega]
  · simp [hn]; omega
theorem Edl.at_ {w : World} {A : Option Addr} {m : Nat} {L : List Edg} (h : Edl w A m L) {W : World} (hb : Below w.heap.size w W) {i : Nat} (hi : i < m) :
    ∃ ad, A = some ad ∧ (W.cell? (ad.add (i * 8)) = some (.int .i64 (eg L i).1) ∧ W.cell? { block := (ad.add (i * 8)).block, off := (ad.add (i * 8)).off + 1 } = some (.bool (eg L i).2.1)
      ∧ W.cell? { block := (ad.add (i * 8)).block, off := (ad.add (i * 8)).off + 2 } = some (.int .i64 (eg L i).2.2.1.1) ∧ W.cell? { block := (ad.add (i * 8)).block, off := (ad.add (i * 8)).off + 3 } = some (.int .i64 (eg L i).2.2.1.2)
      ∧ W.cell? { block := (ad.add (i * 8)).block, off := (ad.add (i * 8)).off + 4 } = some (.int .i64 (eg L i).2.2.2.1.1) ∧ W.cell? { block := (ad.add (i * 8)).block, off := (ad.add (i * 8)).off + 5 } = some (.int .i64 (eg L i).2.2.2.1.2)
      ∧ W.cell? { block := (ad.add (i * 8)).block, off := (ad.add (i * 8)).off + 6 } = some (.int .i64 (eg L i).2.2.2.2.1) ∧ W.cell? { block := (ad.add (i * 8)).block, off := (ad.add (i * 8)).off + 7 } = some (.int .i64 (eg L i).2.2.2.2.2)) := by
  obtain ⟨ad, h1, h2, h3⟩ := (h.bel hb).get i hi
  refine ⟨ad, h1, by have := h3 0 _ rfl; simpa using this, ?_, ?_, ?_, ?_, ?_, ?_, ?_⟩
  · rw [add_nextk _ _ 1 (by decide)]; exact h3 1 _ rfl
  · rw [add_nextk _ _ 2 (by decide)]; exact h3 2 _ rfl
  · rw [add_nextk _ _ 3 (by decide)]; exact h3 3 _ rfl
  · rw [add_nextk _ _ 4 (by decide)]; exact h3 4 _ rfl
  · rw [add_nextk _ _ 5 (by decide)]; exact h3 5 _ rfl
  · rw [add_nextk _ _ 6 (by decide)]; exact h3 6 _ rfl
  · rw [add_nextk _ _ 7 (by decide)]; exact h3 7 _ rfl
/-- An edge in a box; a point in a box. -/
def Ebx (w : World) (b : Nat) (e : Edg) : Prop := w.heap[b]? = some (.cells (edC e).toArray 43 (0, 0))
theorem Ebx.cells {w : World} {b : Nat} {e : Edg} (k : Ebx w b e) : w.cell? ⟨b, 0, none⟩ = some (.int .i64 e.1) ∧ w.cell? ⟨b, 1, none⟩ = some (.bool e.2.1) ∧ w.cell? ⟨b, 2, none⟩ = some (.int .i64 e.2.2.1.1) ∧ w.cell? ⟨b, 3, none⟩ = some (.int .i64 e.2.2.1.2)
    ∧ w.cell? ⟨b, 4, none⟩ = some (.int .i64 e.2.2.2.1.1) ∧ w.cell? ⟨b, 5, none⟩ = some (.int .i64 e.2.2.2.1.2) ∧ w.cell? ⟨b, 6, none⟩ = some (.int .i64 e.2.2.2.2.1) ∧ w.cell? ⟨b, 7, none⟩ = some (.int .i64 e.2.2.2.2.2) :=
  ⟨cell_of_row w b 0 _ 43 (0, 0) k, cell_of_row w b 1 _ 43 (0, 0) k, cell_of_row w b 2 _ 43 (0, 0) k, cell_of_row w b 3 _ 43 (0, 0) k, cell_of_row w b 4 _ 43 (0, 0) k, cell_of_row w b 5 _ 43 (0, 0) k, cell_of_row w b 6 _ 43 (0, 0) k, cell_of_row w b 7 _ 43 (0, 0) k⟩
theorem Ebx.bel {w w' : World} {b : Nat} {e : Edg} (k : Ebx w b e) (hb : Below w.heap.size w w') : Ebx w' b e := (hb.block b (heap_lt k)).trans k
theorem Ebx.new (w : World) (e : Edg) : Ebx (w.alloc (.cells (edC e).toArray 43)) w.heap.size e := heap_alloc_new w _
set_option maxHeartbeats 4000000 in
set_option maxRecDepth 100000 in
theorem fine_any (x y : Int) (w : World) : Calls Try.prog 33 #[.agg #[.int .i64 x, .int .i64 y]] w fun e w' => e = .returned (.bool (decide (fiP (x, y)))) ∧ Below w.heap.size w w' := by
  have hA : Below w.heap.size w (w.alloc (.cells #[.int .i64 x, .int .i64 y] 35)) := (Below.refl _ _).alloc (Nat.le_refl _) _
  have HA := Lib.hid hA
  have hx := heap_alloc_new w (.cells #[.int .i64 x, .int .i64 y] 35)
  have c0 : (w.alloc (.cells #[.int .i64 x, .int .i64 y] 35)).cell? ⟨w.heap.size, 0, none⟩ = some (.int .i64 x) := cell_of_row _ _ 0 _ 35 (0, 0) hx
  have c1 : (w.alloc (.cells #[.int .i64 x, .int .i64 y] 35)).cell? ⟨w.heap.size, 1, none⟩ = some (.int .i64 y) := cell_of_row _ _ 1 _ 35 (0, 0) hx
  have HD := Lib.hid (show decide (fiP (x, y)) = ((((decide (-33554432 ≤ x)) && (decide (x ≤ 33554432))) && (decide (-33554432 ≤ y))) && (decide (y ≤ 33554432))) from by
    have e : decide (fiP (x, y)) = decide ((-33554432 ≤ x ∧ x ≤ 33554432) ∧ (-33554432 ≤ y ∧ y ≤ 33554432)) := rfl
    rw [e, Bool.decide_and, Bool.decide_and, Bool.decide_and, Bool.and_assoc, Bool.and_assoc, Bool.and_assoc])
  clear hA hx
  by_cases h1 : -33554432 ≤ x
  · have g1 : decide (-33554432 ≤ x) = true := decide_eq_true h1
    by_cases h2 : x ≤ 33554432
    · have g2 : decide (x ≤ 33554432) = true := decide_eq_true h2
      by_cases h3 : -33554432 ≤ y
      · have g3 : decide (-33554432 ≤ y) = true := decide_eq_true h3
        rw [g1, g2, g3] at HD
        obtain ⟨r, hr⟩ : ∃ r, r = decide (y ≤ 33554432) := ⟨_, rfl⟩
        rw [← hr] at HD
        have g4 := hr.symm
        clear h1 h2 h3 hr
        go_enter Try.func33, Try.ntmps33
        go_wp2_with fail
        go_ret
        exact ⟨by rw [HD.out]; rfl, HA.out⟩
      · have g3 : decide (-33554432 ≤ y) = false := decide_eq_false h3
        rw [g1, g2, g3] at HD
        clear h1 h2 h3
        go_enter Try.func33, Try.ntmps33
        go_wp2_with fail
        go_ret
        exact ⟨by rw [HD.out]; rfl, HA.out⟩
    · have g2 : decide (x ≤ 33554432) = false := decide_eq_false h2
      rw [g1, g2] at HD
      clear h1 h2
      go_enter Try.func33, Try.ntmps33
      go_wp2_with fail
      go_ret
      exact ⟨by rw [HD.out]; rfl, HA.out⟩
  · have g1 : decide (-33554432 ≤ x) = false := decide_eq_false h1
    rw [g1] at HD
    clear h1
    go_enter Try.func33, Try.ntmps33
    go_wp2_with fail
    go_ret
    exact ⟨by rw [HD.out]; rfl, HA.out⟩
set_option maxHeartbeats 4000000 in
set_option maxRecDepth 100000 in
theorem same_any (k : Int) (q : Bool) (ax ay bx by_ cx cy : Int) (w : World) : Calls Try.prog 31 #[.agg #[.int .i64 k, .bool q, .int .i64 ax, .int .i64 ay, .int .i64 bx, .int .i64 by_, .int .i64 cx, .int .i64 cy]] w fun e w' => e = .returned (.bool (decide (smE (k, q, (ax, ay), (bx, by_), (cx, cy))))) ∧ Below w.heap.size w w' := by
  have hA : Below w.heap.size w (w.alloc (.cells #[.int .i64 k, .bool q, .int .i64 ax, .int .i64 ay, .int .i64 bx, .int .i64 by_, .int .i64 cx, .int .i64 cy] 43)) := (Below.refl _ _).alloc (Nat.le_refl _) _
  have HA := Lib.hid hA
  obtain ⟨c0, c1, c2, c3, c4, c5, c6, c7⟩ := (Ebx.new w (k, q, (ax, ay), (bx, by_), (cx, cy))).cells
  have HD := Lib.hid (show smE (k, q, (ax, ay), (bx, by_), (cx, cy)) ↔ (ax, ay) = (cx, cy) ∧ (q = false ∨ (ax, ay) = (bx, by_)) from Iff.rfl)
  clear hA
  go_enter Try.func31, Try.ntmps31
  go_wp2_with fail
  all_goals
    clear c0 c1 c2 c3 c4 c5 c6 c7 HD
    go_ret
    exact ⟨by simp_all [smE], (Below.refl _ _).alloc (Nat.le_refl _) _⟩
set_option maxHeartbeats 8000000 in
set_option maxRecDepth 100000 in
theorem one_any (k : Int) (q : Bool) (ax ay bx by_ cx cy : Int) (w : World) : Calls Try.prog 24 #[.agg #[.int .i64 k, .bool q, .int .i64 ax, .int .i64 ay, .int .i64 bx, .int .i64 by_, .int .i64 cx, .int .i64 cy]] w fun e w' => e = .returned (.bool (decide (oneE (k, q, (ax, ay), (bx, by_), (cx, cy))))) ∧ Below w.heap.size w w' := by
  have hA : Below w.heap.size w (w.alloc (.cells #[.int .i64 k, .bool q, .int .i64 ax, .int .i64 ay, .int .i64 bx, .int .i64 by_, .int .i64 cx, .int .i64 cy] 43)) := (Below.refl _ _).alloc (Nat.le_refl _) _
  have HA := Lib.hid hA
  have HX := Lib.hid (fun W hb => (Ebx.new w (k, q, (ax, ay), (bx, by_), (cx, cy))).bel (w' := W) hb)
  have F1 := Lib.hid (fun W => fine_any ax ay W)
  have F2 := Lib.hid (fun W => fine_any bx by_ W)
  have F3 := Lib.hid (fun W => fine_any cx cy W)
  have FSm := Lib.hid (fun W => same_any k q ax ay bx by_ cx cy W)
  have HNo := Lib.hid (show ¬ (fiP (ax, ay) ∧ fiP (bx, by_) ∧ fiP (cx, cy) ∧ ¬ smE (k, q, (ax, ay), (bx, by_), (cx, cy))) → decide (oneE (k, q, (ax, ay), (bx, by_), (cx, cy))) = false from fun h => decide_eq_false fun h2 => h ⟨h2.1, h2.2.1, h2.2.2.1, h2.2.2.2.1⟩)
  have HYe := Lib.hid (show fiP (ax, ay) ∧ fiP (bx, by_) ∧ fiP (cx, cy) ∧ ¬ smE (k, q, (ax, ay), (bx, by_), (cx, cy)) → decide (oneE (k, q, (ax, ay), (bx, by_), (cx, cy))) = decide (q = true ∨ (bx, by_) = (0, 0)) from fun h => decide_eq_decide.2 ⟨fun h2 => h2.2.2.2.2, fun h2 => ⟨h.1, h.2.1, h.2.2.1, h.2.2.2, h2⟩⟩)
  obtain ⟨c0, c1, c2, c3, c4, c5, c6, c7⟩ := (Ebx.new w (k, q, (ax, ay), (bx, by_), (cx, cy))).cells
  clear hA
  by_cases h1 : fiP (ax, ay)
  · rw [decide_eq_true h1] at F1
    by_cases h2 : fiP (bx, by_)
    · rw [decide_eq_true h2] at F2
      by_cases h3 : fiP (cx, cy)
      · rw [decide_eq_true h3] at F3
        by_cases h4 : smE (k, q, (ax, ay), (bx, by_), (cx, cy))
        · rw [decide_eq_true h4] at FSm
          have HR := Lib.hid (HNo.out fun h => h.2.2.2 h4)
          clear HNo HYe h1 h2 h3 h4
          go_enter Try.func24, Try.ntmps24
          go_wp2_with (first
            | (go_at_call 33; (with_reducible refine (F1.out _).mono ?_); rintro e w1 ⟨rfl, hb⟩; have B1 := Lib.hid hb; clear hb; clear F1; obtain ⟨d0, d1, d2, d3, d4, d5, d6, d7⟩ := (HX.out _ B1.out).cells)
            | (go_at_call 33; (with_reducible refine (F2.out _).mono ?_); rintro e w2 ⟨rfl, hb⟩; have B2 := Lib.hid (B1.out.trans (hb.mono B1.out.size)); clear hb; clear F2; obtain ⟨d0, d1, d2, d3, d4, d5, d6, d7⟩ := (HX.out _ B2.out).cells)
            | (go_at_call 33; (with_reducible refine (F3.out _).mono ?_); rintro e w3 ⟨rfl, hb⟩; have B3 := Lib.hid (B2.out.trans (hb.mono B2.out.size)); clear hb; clear F3; obtain ⟨d0, d1, d2, d3, d4, d5, d6, d7⟩ := (HX.out _ B3.out).cells)
            | (go_at_call 31; (with_reducible refine (FSm.out _).mono ?_); rintro e w4 ⟨rfl, hb⟩; have B4 := Lib.hid (B3.out.trans (hb.mono B3.out.size)); clear hb; clear FSm; obtain ⟨d0, d1, d2, d3, d4, d5, d6, d7⟩ := (HX.out _ B4.out).cells))
          go_ret
          exact ⟨by rw [HR.out]; rfl, HA.out.trans (B4.out.mono HA.out.size)⟩
        · rw [decide_eq_false h4] at FSm
          have HR := Lib.hid (HYe.out ⟨h1, h2, h3, h4⟩)
          clear HNo HYe h1 h2 h3 h4
          go_enter Try.func24, Try.ntmps24
          go_wp2_with (first
            | (go_at_call 33; (with_reducible refine (F1.out _).mono ?_); rintro e w1 ⟨rfl, hb⟩; have B1 := Lib.hid hb; clear hb; clear F1; obtain ⟨d0, d1, d2, d3, d4, d5, d6, d7⟩ := (HX.out _ B1.out).cells)
            | (go_at_call 33; (with_reducible refine (F2.out _).mono ?_); rintro e w2 ⟨rfl, hb⟩; have B2 := Lib.hid (B1.out.trans (hb.mono B1.out.size)); clear hb; clear F2; obtain ⟨d0, d1, d2, d3, d4, d5, d6, d7⟩ := (HX.out _ B2.out).cells)
            | (go_at_call 33; (with_reducible refine (F3.out _).mono ?_); rintro e w3 ⟨rfl, hb⟩; have B3 := Lib.hid (B2.out.trans (hb.mono B2.out.size)); clear hb; clear F3; obtain ⟨d0, d1, d2, d3, d4, d5, d6, d7⟩ := (HX.out _ B3.out).cells)
            | (go_at_call 31; (with_reducible refine (FSm.out _).mono ?_); rintro e w4 ⟨rfl, hb⟩; have B4 := Lib.hid (B3.out.trans (hb.mono B3.out.size)); clear hb; clear FSm; obtain ⟨d0, d1, d2, d3, d4, d5, d6, d7⟩ := (HX.out _ B4.out).cells))
          all_goals
            clear d0 d1 d2 d3 d4 d5 d6 d7
            have hr := HR.out
            go_ret
            exact ⟨by rw [hr]; clear hr; simp_all, HA.out.trans (B4.out.mono HA.out.size)⟩
      · rw [decide_eq_false h3] at F3
        have HR := Lib.hid (HNo.out fun h => h3 h.2.2.1)
        clear HNo HYe h1 h2 h3 FSm
        go_enter Try.func24, Try.ntmps24
        go_wp2_with (first
          | (go_at_call 33; (with_reducible refine (F1.out _).mono ?_); rintro e w1 ⟨rfl, hb⟩; have B1 := Lib.hid hb; clear hb; clear F1; obtain ⟨d0, d1, d2, d3, d4, d5, d6, d7⟩ := (HX.out _ B1.out).cells)
          | (go_at_call 33; (with_reducible refine (F2.out _).mono ?_); rintro e w2 ⟨rfl, hb⟩; have B2 := Lib.hid (B1.out.trans (hb.mono B1.out.size)); clear hb; clear F2; obtain ⟨d0, d1, d2, d3, d4, d5, d6, d7⟩ := (HX.out _ B2.out).cells)
          | (go_at_call 33; (with_reducible refine (F3.out _).mono ?_); rintro e w3 ⟨rfl, hb⟩; have B3 := Lib.hid (B2.out.trans (hb.mono B2.out.size)); clear hb; clear F3; obtain ⟨d0, d1, d2, d3, d4, d5, d6, d7⟩ := (HX.out _ B3.out).cells))
        go_ret
        exact ⟨by rw [HR.out]; rfl, HA.out.trans (B3.out.mono HA.out.size)⟩
    · rw [decide_eq_false h2] at F2
      have HR := Lib.hid (HNo.out fun h => h2 h.2.1)
      clear HNo HYe h1 h2 FSm F3
      go_enter Try.func24, Try.ntmps24
      go_wp2_with (first
        | (go_at_call 33; (with_reducible refine (F1.out _).mono ?_); rintro e w1 ⟨rfl, hb⟩; have B1 := Lib.hid hb; clear hb; clear F1; obtain ⟨d0, d1, d2, d3, d4, d5, d6, d7⟩ := (HX.out _ B1.out).cells)
        | (go_at_call 33; (with_reducible refine (F2.out _).mono ?_); rintro e w2 ⟨rfl, hb⟩; have B2 := Lib.hid (B1.out.trans (hb.mono B1.out.size)); clear hb; clear F2; obtain ⟨d0, d1, d2, d3, d4, d5, d6, d7⟩ := (HX.out _ B2.out).cells))
      go_ret
      exact ⟨by rw [HR.out]; rfl, HA.out.trans (B2.out.mono HA.out.size)⟩
  · rw [decide_eq_false h1] at F1
    have HR := Lib.hid (HNo.out fun h => h1 h.1)
    clear HNo HYe h1 FSm F3 F2
    go_enter Try.func24, Try.ntmps24
    go_wp2_with (first
      | (go_at_call 33; (with_reducible refine (F1.out _).mono ?_); rintro e w1 ⟨rfl, hb⟩; have B1 := Lib.hid hb; clear hb; clear F1; obtain ⟨d0, d1, d2, d3, d4, d5, d6, d7⟩ := (HX.out _ B1.out).cells))
    go_ret
    exact ⟨by rw [HR.out]; rfl, HA.out.trans (B1.out.mono HA.out.size)⟩
end Go.Proofs.Ytnnanlilnlimaaa
