/- Proved here: the laws' awake returns true, in whatever memory; the laws MetricReads, MetricWidths, MetricPlaces, over what lies in memory. No condition. -/
import Derived.Test.YtibbgmahdiphpaaMk
namespace Go.Proofs.Ytibbgmahdiphpaa
open Go.RowKit

def awH : Hd := ⟨16, false, 3, 1, 0, 0, 0⟩
theorem aw_may : MayP awH := by decide
theorem aw_w (w : World) : Calls Try.prog 8 #[.agg #[.int .i64 16, .bool false, .int .i64 3, .int .i64 1, .int .i64 0, .int .i64 0, .int .i64 0], .string ⟨#[1, 244, 0, 0, 0, 0, 0, 0]⟩] w fun e w' => ∃ A c, e = .returned (.tuple #[.slice A 3 c, .int .i64 0]) ∧ Il w' A 3 [500, 500, 500] ∧ Below w.heap.size w w' := by
  have h := widths_any awH ⟨#[1, 244, 0, 0, 0, 0, 0, 0]⟩ w (by decide)
  rw [show WE awH [1, 244, 0, 0, 0, 0, 0, 0] = 0 by decide +kernel, show WL awH [1, 244, 0, 0, 0, 0, 0, 0] = [500, 500, 500] by decide +kernel] at h
  refine h.mono fun e w' ⟨A, n, c, h1, h2, h3⟩ => ?_
  obtain rfl : n = 3 := h2.len.symm
  exact ⟨A, c, h1, h2, h3⟩
theorem aw_p (w : World) : Calls Try.prog 10 #[.agg #[.int .i64 16, .bool false, .int .i64 3, .int .i64 1, .int .i64 0, .int .i64 0, .int .i64 0], .string ⟨#[0, 0, 0, 0, 0, 2, 0, 5]⟩, .int .i64 10] w fun e w' => ∃ A c, e = .returned (.tuple #[.slice A 4 c, .int .i64 0]) ∧ Il w' A 4 [0, 0, 4, 10] ∧ Below w.heap.size w w' := by
  have h := places_any awH ⟨#[0, 0, 0, 0, 0, 2, 0, 5]⟩ 10 w (by decide)
  rw [show PlE awH [0, 0, 0, 0, 0, 2, 0, 5] 10 = 0 by decide +kernel, show PlL awH [0, 0, 0, 0, 0, 2, 0, 5] 10 = [0, 0, 4, 10] by decide +kernel] at h
  refine h.mono fun e w' ⟨A, n, c, h1, h2, h3⟩ => ?_
  obtain rfl : n = 4 := h2.len.symm
  exact ⟨A, c, h1, h2, h3⟩
theorem aw_h (A : Option Addr) (c : Nat) (w : World) (hI : Il w A 3 [7, 7, 7]) : Calls Try.prog 13 #[.agg #[.int .i64 16, .bool false, .int .i64 3, .int .i64 1, .int .i64 0, .int .i64 0, .int .i64 0], .slice A 3 c] w fun e w' => e = .returned (.tuple #[.string ⟨#[0, 7, 0, 0, 0, 0, 0, 0]⟩, .int .i64 0]) ∧ Below w.heap.size w w' := by
  have h := hmtx_any awH A 3 c [7, 7, 7] w hI
  unfold StE at h
  rw [show HmE awH [7, 7, 7] = 0 by decide +kernel, show HmS awH [7, 7, 7] = [0, 7, 0, 0, 0, 0, 0, 0] by decide +kernel] at h
  exact h
theorem il_lit (w : World) : Il (w.alloc (.cells #[.int .i64 7, .int .i64 7, .int .i64 7] 3)) (some ⟨w.heap.size, 0, none⟩) 3 [7, 7, 7] := by
  have hc := cells_new w [.int .i64 7, .int .i64 7, .int .i64 7] 3
  refine ⟨rfl, fun i hi => ⟨_, rfl, by simp, ?_⟩⟩
  obtain rfl | rfl | rfl : i = 0 ∨ i = 1 ∨ i = 2 := by omega
  · exact hc 0 _ rfl
  · exact hc 1 _ rfl
  · exact hc 2 _ rfl
set_option maxHeartbeats 4000000 in
theorem awake_any (w : World) : Calls Try.prog 6 #[] w fun e w' => e = .returned (.bool true) ∧ Below w.heap.size w w' := by
  have HW := Lib.hid (fun W => aw_w W)
  have HP := Lib.hid (fun W => aw_p W)
  have S0 := Lib.hid (show MS w (w.alloc (.cells #[.int .i64 16, .bool false, .int .i64 3, .int .i64 1, .int .i64 0, .int .i64 0, .int .i64 0] 23)) w.heap.size awH from MS.start w awH)
  go_enter Try.func6, Try.ntmps6
  go_upto_region 2 with fail
  obtain ⟨b, hb⟩ : ∃ b, b = w.heap.size := ⟨_, rfl⟩
  obtain ⟨W0, hW0⟩ : ∃ W, W = w.alloc (.cells #[.int .i64 16, .bool false, .int .i64 3, .int .i64 1, .int .i64 0, .int .i64 0, .int .i64 0] 23) := ⟨_, rfl⟩
  rw [← hW0] at S0 ⊢
  rw [← hb] at S0 ⊢
  clear hb hW0
  obtain ⟨f0, f1, f2, f3, f4, f5, f6⟩ := S0.out.cells
  simp only [awH] at f0 f1 f2 f3 f4 f5 f6
  go_upto_region 3 with (go_at_call 8; (with_reducible refine (HW.out _).mono ?_); rintro e w1 ⟨A1, c1, rfl, ht, hb⟩; have T1 := Lib.hid ht; have S1 := Lib.hid (S0.out.next hb); clear ht hb f0 f1 f2 f3 f4 f5 f6)
  obtain ⟨f0, f1, f2, f3, f4, f5, f6⟩ := S1.out.cells
  simp only [awH] at f0 f1 f2 f3 f4 f5 f6
  go_upto_region 4 with (go_at_call 10; (with_reducible refine (HP.out _).mono ?_); rintro e w2 ⟨A2, c2, rfl, ht, hb⟩; have T2 := Lib.hid (And.intro (T1.out.bel hb) ht); have S2 := Lib.hid (S1.out.next hb); clear ht hb f0 f1 f2 f3 f4 f5 f6)
  obtain ⟨f0, f1, f2, f3, f4, f5, f6⟩ := S2.out.cells
  simp only [awH] at f0 f1 f2 f3 f4 f5 f6
  have HB2 := Lib.hid ((Below.refl w2.heap.size w2).alloc (Nat.le_refl _) (.cells #[.int .i64 7, .int .i64 7, .int .i64 7] 3))
  go_upto_region 5 with (go_at_call 13; (with_reducible refine (aw_h _ _ _ (il_lit w2)).mono ?_); rintro e w3 ⟨rfl, hb⟩; have T3 := Lib.hid (And.intro ((T2.out.1.bel HB2.out).bel hb) ((T2.out.2.bel HB2.out).bel hb)); have S3 := Lib.hid ((S2.out.next HB2.out).next hb); clear hb f0 f1 f2 f3 f4 f5 f6)
  obtain ⟨x, rfl, _, h1⟩ := T3.out.1.get 2 (by decide)
  obtain ⟨y, rfl, _, h2⟩ := T3.out.2.get 3 (by decide)
  have h1 : w3.cell? { block := x.block, off := x.off + 2 } = some (.int .i64 500) := h1
  have h2 : w3.cell? { block := y.block, off := y.off + 3 } = some (.int .i64 10) := h2
  go_wp2_with fail
  go_ret
  exact ⟨rfl, S3.out.bel⟩
end Go.Proofs.Ytibbgmahdiphpaa
