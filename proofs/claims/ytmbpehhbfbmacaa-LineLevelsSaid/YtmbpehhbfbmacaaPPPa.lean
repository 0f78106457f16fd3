/- Proved here: which points may be (the program's mayFine, May, mayAll). Condition: points in a row. -/
import Derived.Test.YtmbpehhbfbmacaaPPAb
namespace Go.Proofs.Ytmbpehhbfbmacaa
open Go.RowKit

/-- May an x or y be so great? -/
def fiU (n : Int) : Prop := -33554432 ≤ n ∧ n ≤ 33554432
instance (n : Int) : Decidable (fiU n) := inferInstanceAs (Decidable (_ ∧ _))
set_option maxHeartbeats 4000000 in
set_option maxRecDepth 100000 in
theorem pfine_any (n : Int) (w : World) : Calls Try.prog 48 #[.int .i64 n] w fun e w' => e = .returned (.bool (decide (fiU n))) ∧ w' = w := by
  by_cases h1 : -33554432 ≤ n
  · have g1 : decide (-33554432 ≤ n) = true := decide_eq_true h1
    have HX := Lib.hid (show decide (fiU n) = decide (n ≤ 33554432) from decide_eq_decide.2 ⟨fun h => h.2, fun h => ⟨h1, h⟩⟩)
    obtain ⟨r, hr⟩ : ∃ r, r = decide (n ≤ 33554432) := ⟨_, rfl⟩
    rw [← hr] at HX
    have g2 := hr.symm
    clear h1 hr
    go_enter Try.func48, Try.ntmps48
    go_wp2_with fail
    go_ret
    exact ⟨by rw [HX.out]; rfl, rfl⟩
  · have g1 : decide (-33554432 ≤ n) = false := decide_eq_false h1
    have HX := Lib.hid (show decide (fiU n) = false from decide_eq_false fun h => h1 h.1)
    clear h1
    go_enter Try.func48, Try.ntmps48
    go_wp2_with fail
    go_ret
    exact ⟨by rw [HX.out]; rfl, rfl⟩
set_option maxHeartbeats 4000000 in
set_option maxRecDepth 100000 in
theorem pmay_any (x y : Int) (w : World) : Calls Try.prog 42 #[.agg #[.int .i64 x, .int .i64 y]] w fun e w' => e = .returned (.bool (decide (fiP (x, y)))) ∧ Below w.heap.size w w' := by
  have HA := Lib.hid ((Below.refl w.heap.size w).alloc (Nat.le_refl _) (.cells #[.int .i64 x, .int .i64 y] 23))
  have hx := heap_alloc_new w (.cells #[.int .i64 x, .int .i64 y] 23)
  have c0 : (w.alloc (.cells #[.int .i64 x, .int .i64 y] 23)).cell? ⟨w.heap.size, 0, none⟩ = some (.int .i64 x) := cell_of_row _ _ 0 _ 23 (0, 0) hx
  have c1 : (w.alloc (.cells #[.int .i64 x, .int .i64 y] 23)).cell? ⟨w.heap.size, 1, none⟩ = some (.int .i64 y) := cell_of_row _ _ 1 _ 23 (0, 0) hx
  have CX := Lib.hid (fun W => pfine_any x W)
  have CY := Lib.hid (fun W => pfine_any y W)
  clear hx
  by_cases h1 : fiU x
  · rw [decide_eq_true h1] at CX
    have HX := Lib.hid (show decide (fiP (x, y)) = decide (fiU y) from decide_eq_decide.2 ⟨fun h => h.2, fun h => ⟨h1, h⟩⟩)
    obtain ⟨r, hr⟩ : ∃ r, r = decide (fiU y) := ⟨_, rfl⟩
    rw [← hr] at HX CY
    clear h1 hr
    go_enter Try.func42, Try.ntmps42
    go_wp2_with (first
      | (go_at_call 48; (with_reducible refine (CX.out _).mono ?_); rintro e w1 ⟨rfl, rfl⟩; clear CX)
      | (go_at_call 48; (with_reducible refine (CY.out _).mono ?_); rintro e w1 ⟨rfl, rfl⟩; clear CY))
    go_ret
    exact ⟨by rw [HX.out]; rfl, HA.out⟩
  · rw [decide_eq_false h1] at CX
    have HX := Lib.hid (show decide (fiP (x, y)) = false from decide_eq_false fun h => h1 h.1)
    clear h1
    go_enter Try.func42, Try.ntmps42
    go_wp2_with (first
      | (go_at_call 48; (with_reducible refine (CX.out _).mono ?_); rintro e w1 ⟨rfl, rfl⟩; clear CX))
    go_ret
    exact ⟨by rw [HX.out]; rfl, HA.out⟩
set_option maxHeartbeats 4000000 in
set_option maxRecDepth 100000 in
theorem pall_any (g n c : Nat) (l : List P2) (w : World) (h : Prow w g l) (hl : l.length = n) (hn : n ≤ 1000) : Calls Try.prog 32 #[.slice (some ⟨g, 0, none⟩) n c] w fun e w' => e = .returned (.bool (decide (AllP l))) ∧ Below w.heap.size w w' := by
  have H := Lib.hid h
  have HL := Lib.hid hl
  have HN := Lib.hid (show ∀ i, i < n → ¬ fiP (pp l i) → decide (AllP l) = false from fun i hi hf => decide_eq_false fun h2 => hf (h2 i (by omega)))
  have HY := Lib.hid (show (∀ i, i < n → fiP (pp l i)) → decide (AllP l) = true from fun h => decide_eq_true fun i hi => h i (by omega))
  clear h hl
  go_enter Try.func32, Try.ntmps32
  go_wp2_with fail
  go_loopw [7] (fun i wr => ∃ k : Nat, i = .int .i64 (k : Int) ∧ k ≤ n ∧ (∀ i, i < k → fiP (pp l i)) ∧ Below w.heap.size w wr) (fun i _ => n - (intOf i).toNat)
  case atStart => exact ⟨0, rfl, Nat.zero_le _, fun i hi => by omega, Below.refl _ _⟩
  case round =>
    obtain ⟨k, rfl, hk, hok, hb⟩ := hrel
    have HB := Lib.hid hb
    have HOk := Lib.hid hok
    by_cases hgo : k < n
    · obtain ⟨c0, c1⟩ := (H.out.bel hb).at_ (i := k) (by rw [HL.out]; exact hgo)
      obtain ⟨p, hp⟩ : ∃ p, p = pp l k := ⟨_, rfl⟩
      rw [← hp] at c0 c1
      have HP := Lib.hid hp
      obtain ⟨x, y⟩ := p
      dsimp only at c0 c1
      have hx := heap_alloc_new wr (.cells #[.int .i64 x, .int .i64 y] 23)
      have d0 : (wr.alloc (.cells #[.int .i64 x, .int .i64 y] 23)).cell? ⟨wr.heap.size, 0, none⟩ = some (.int .i64 x) := cell_of_row _ _ 0 _ 23 (0, 0) hx
      have d1 : (wr.alloc (.cells #[.int .i64 x, .int .i64 y] 23)).cell? ⟨wr.heap.size, 1, none⟩ = some (.int .i64 y) := cell_of_row _ _ 1 _ 23 (0, 0) hx
      have HA := Lib.hid ((Below.refl wr.heap.size wr).alloc (Nat.le_refl _) (.cells #[.int .i64 x, .int .i64 y] 23))
      have CM := Lib.hid (fun W => pmay_any x y W)
      clear hp hok hb hx
      by_cases ho : fiP (x, y)
      · rw [decide_eq_true ho] at CM
        have HX := Lib.hid (all_succ HOk.out (by rw [← HP.out]; exact ho))
        clear ho
        go_wp2_with (go_at_call 42; (with_reducible refine (CM.out _).mono ?_); rintro e w1 ⟨rfl, hb⟩; have HB1 := Lib.hid (HB.out.trans ((HA.out.trans (hb.mono HA.out.size)).mono HB.out.size)); clear hb)
        exact ⟨⟨k + 1, by simp, by omega, HX.out, HB1.out⟩, by simp [intOf]; omega⟩
      · rw [decide_eq_false ho] at CM
        have HX := Lib.hid (HN.out k hgo (by rw [← HP.out]; exact ho))
        clear ho
        go_wp2_with (go_at_call 42; (with_reducible refine (CM.out _).mono ?_); rintro e w1 ⟨rfl, hb⟩; have HB1 := Lib.hid (HB.out.trans ((HA.out.trans (hb.mono HA.out.size)).mono HB.out.size)); clear hb)
        go_ret
        exact ⟨by rw [HX.out]; rfl, HB1.out⟩
    · obtain rfl : k = n := by omega
      have HX := Lib.hid (HY.out hok)
      clear hok hb
      go_wp2_with fail
      go_ret
      exact ⟨by rw [HX.out]; rfl, HB.out⟩
end Go.Proofs.Ytmbpehhbfbmacaa
