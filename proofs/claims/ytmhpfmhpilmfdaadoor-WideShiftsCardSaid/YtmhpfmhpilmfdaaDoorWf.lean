/- Proved here: that the statements' first call, awake, answers true and leaves memory as it was. Condition: the library's table of powers of ten at its place. -/
import Derived.Test.YtmhpfmhpilmfdaaDoorWe
namespace Go.Proofs.YtmhpfmhpilmfdaaDoor
open Go.RowKit Go.Lib

theorem mul_aw (w : World) : Calls Tryd.prog 14 #[.int .u64 9223372036854775808, .int .u64 4] w fun e w' => e = .returned (.agg #[.int .u64 2, .int .u64 0]) ∧ Below w.heap.size w w' :=
  (mul_any 9223372036854775808 4 w (by decide) (by decide)).mono fun _ _ h => ⟨by rw [h.1]; rfl, h.2⟩
theorem of_aw (w : World) : Calls Tryd.prog 15 #[.int .u64 5] w fun e w' => e = .returned (.agg #[.int .u64 0, .int .u64 5]) ∧ Below w.heap.size w w' := of_any 5 w
theorem add_aw (w : World) : Calls Tryd.prog 8 #[.agg #[.int .u64 2, .int .u64 0], .agg #[.int .u64 0, .int .u64 5]] w fun e w' => e = .returned (.tuple #[.agg #[.int .u64 2, .int .u64 5], .int .i64 0]) ∧ Below w.heap.size w w' :=
  (add_any 2 0 0 5 w (by decide) (by decide) (by decide) (by decide)).mono fun _ _ ⟨h, l, c, he, hf, hb⟩ => by
    rcases hf with ⟨_, rfl, rfl, rfl⟩ | ⟨h0, _⟩
    · exact ⟨he, hb⟩
    · exact absurd (by decide) h0
theorem dec_aw : decS (numW 2 0) = ⟨#[51, 54, 56, 57, 51, 52, 56, 56, 49, 52, 55, 52, 49, 57, 49, 48, 51, 50, 51, 50]⟩ := by
  have e : decDigits 36893488147419103232 = [51, 54, 56, 57, 51, 52, 56, 56, 49, 52, 55, 52, 49, 57, 49, 48, 51, 50, 51, 50] := by
    simp [decDigits]
  unfold decS
  rw [show numW 2 0 = 36893488147419103232 by decide, e]
theorem text_aw (w : World) (ht : Tab w) : Calls Tryd.prog 25 #[.agg #[.int .u64 2, .int .u64 0]] w fun e w' => e = .returned (.string ⟨#[51, 54, 56, 57, 51, 52, 56, 56, 49, 52, 55, 52, 49, 57, 49, 48, 51, 50, 51, 50]⟩) ∧ Below w.heap.size w w' :=
  (text_any (numW 2 0) 2 0 w (Nat.le_refl _) (by decide) (by decide) ht).mono fun _ _ h => ⟨by rw [h.1, dec_aw], h.2⟩
theorem bits_aw (w : World) : Calls Tryd.prog 20 #[.agg #[.int .u64 2, .int .u64 0]] w fun e w' => e = .returned (.int .i64 66) ∧ Below w.heap.size w w' :=
  (bits_any 2 0 w (by decide) (by decide)).mono fun _ _ h => ⟨by rw [h.1]; exact ret_int (by decide), h.2⟩
theorem cmp_aw (w : World) : Calls Tryd.prog 22 #[.agg #[.int .u64 2, .int .u64 0], .agg #[.int .u64 2, .int .u64 5]] w fun e w' => e = .returned (.int .i64 (-1)) ∧ Below w.heap.size w w' :=
  (cmp_any 2 0 2 5 w (by decide) (by decide)).mono fun _ _ h => ⟨by rw [h.1]; exact ret_int (by decide), h.2⟩
/-- Behind the sum: the two numbers in their boxes. -/
def AwR (w : World) (g : Nat) (b e : Value) (wx : World) : Prop := ∃ h, b = .pointer (some ⟨h, 0, none⟩) ∧ e = .int .i64 0 ∧ wx.cell? ⟨h, 0, none⟩ = some (.int .u64 2) ∧ wx.cell? ⟨h, 1, none⟩ = some (.int .u64 5) ∧ wx.cell? ⟨g, 0, none⟩ = some (.int .u64 2) ∧ wx.cell? ⟨g, 1, none⟩ = some (.int .u64 0) ∧ Below w.heap.size w wx
theorem bel_cells {W w1 : World} (hb : Below W.heap.size W w1) : (∀ b o, b < W.heap.size → w1.cell? ⟨b, o, none⟩ = W.cell? ⟨b, o, none⟩) ∧ (∀ b o, b < W.heap.size → w1.frozen? ⟨b, o, none⟩ = W.frozen? ⟨b, o, none⟩) ∧ W.heap.size ≤ w1.heap.size := ⟨fun b o h => hb.cell (p := ⟨b, o, none⟩) h, fun b o h => hb.frozen (p := ⟨b, o, none⟩) h, hb.size⟩
set_option maxHeartbeats 1000000 in
set_option maxRecDepth 100000 in
theorem awake_any (w : World) (ht : Tab w) : Calls Tryd.prog 7 #[] w fun e w' => e = .returned (.bool true) ∧ Below w.heap.size w w' := by
  have HT := Lib.hid ht
  clear ht
  go_enter Tryd.func7, Tryd.ntmps7
  go_upto_region 2 with (go_at_call 14; (with_reducible refine (mul_aw _).mono ?_); rintro e w1 ⟨rfl, hb1⟩; have HB1 := Lib.hid hb1; clear hb1)
  go_cut [2, 3] from 5 to 10 (fun b e wx => AwR w w1.heap.size b e wx)
  case first =>
    go_region_with (first
      | (go_at_call 15; (with_reducible refine (of_aw _).mono ?_); rintro e w2 ⟨rfl, hb2⟩; obtain ⟨hc2, hf2, hz2⟩ := bel_cells hb2; (try simp at hz2 hc2 hf2); have q1 : w1.heap.size < w2.heap.size := (by omega); (try have q2 : w1.heap.size + 1 < w2.heap.size := (by omega)); have HB2 := Lib.hid hb2; clear hb2)
      | (go_at_call 8; (with_reducible refine (add_aw _).mono ?_); rintro e w3 ⟨rfl, hb3⟩; obtain ⟨hc3, hf3, hz3⟩ := bel_cells hb3; (try simp at hz3 hc3 hf3); have q3 : w1.heap.size < w3.heap.size := (by omega); (try have q4 : w1.heap.size + 1 < w3.heap.size := (by omega)); (try have q5 : w2.heap.size < w3.heap.size := (by omega)); have HB3 := Lib.hid hb3; clear hb3))
    all_goals
      go_wp2_with fail
      go_meet
      have a1 := HB1.out
      have s1 := a1.size
      have a2 : Below w.heap.size w w2 := by
        first
          | exact ((a1.alloc s1 _).drew).trans (HB2.out.mono (by simp; omega))
          | exact (((a1.alloc s1 _).alloc (by simp; omega) _).drew).trans (HB2.out.mono (by simp; omega))
      have s2 := a2.size
      have a3 : Below w.heap.size w w3 := by
        first
          | exact a2.trans (HB3.out.mono s2)
          | exact (a2.alloc s2 _).trans (HB3.out.mono (by simp; omega))
      have s3 := a3.size
      refine ⟨_, rfl, rfl, by go_simp, by go_simp, by go_simp, by go_simp, ?_⟩
      first
        | exact a3.alloc s3 _
        | exact (a3.setCell (by simp; omega) _).setCell (by simp; omega) _
  case rest =>
    obtain ⟨h, rfl, rfl, hc⟩ := hcut
    have HC := Lib.hid hc
    clear hc
    obtain ⟨f1, f2, f3, f4, hbc⟩ := HC.out
    have l1 := World.block_lt_of_cell? _ _ f1
    have l2 := World.block_lt_of_cell? _ _ f3
    simp only at l1 l2
    have HTc := Lib.hid (HT.out.below hbc)
    have HBc := Lib.hid hbc
    clear hbc
    go_wp2_with (first
      | (go_at_call 25; (with_reducible refine (text_aw _ HTc.out).mono ?_); rintro e w4 ⟨rfl, hb4⟩; have g1 := (hb4.cell (p := ⟨h, 0, none⟩) l1).trans f1; have g2 := (hb4.cell (p := ⟨h, 1, none⟩) l1).trans f2; have g3 := (hb4.cell (p := ⟨w1.heap.size, 0, none⟩) l2).trans f3; have g4 := (hb4.cell (p := ⟨w1.heap.size, 1, none⟩) l2).trans f4; have q1 := Nat.lt_of_lt_of_le l1 hb4.size; have q2 := Nat.lt_of_lt_of_le l2 hb4.size; have HB4 := Lib.hid (HBc.out.trans (hb4.mono HBc.out.size)); clear hb4)
      | (go_at_call 20; (with_reducible refine (bits_aw _).mono ?_); rintro e w5 ⟨rfl, hb5⟩; have k1 := (hb5.cell (p := ⟨h, 0, none⟩) q1).trans g1; have k2 := (hb5.cell (p := ⟨h, 1, none⟩) q1).trans g2; have k3 := (hb5.cell (p := ⟨w1.heap.size, 0, none⟩) q2).trans g3; have k4 := (hb5.cell (p := ⟨w1.heap.size, 1, none⟩) q2).trans g4; have HB5 := Lib.hid (HB4.out.trans (hb5.mono HB4.out.size)); clear hb5)
      | (go_at_call 22; (with_reducible refine (cmp_aw _).mono ?_); rintro e w6 ⟨rfl, hb6⟩; have HB6 := Lib.hid (HB5.out.trans (hb6.mono HB5.out.size)); clear hb6))
    go_ret
    exact ⟨rfl, HB6.out⟩
end Go.Proofs.YtmhpfmhpilmfdaaDoor
