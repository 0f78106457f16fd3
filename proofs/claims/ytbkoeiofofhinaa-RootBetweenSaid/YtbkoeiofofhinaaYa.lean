/- Proved here: that the statements' first call, awake, answers true and leaves memory as it was. No condition. -/
import Derived.Test.YtbkoeiofofhinaaXi
namespace Go.Proofs.Ytbkoeiofofhinaa
open Go.RowKit

theorem aw_ratio (w : World) : Calls Try.prog 12 #[.agg #[.int .u64 0, .int .u64 50], .agg #[.int .u64 0, .int .u64 2]] w fun e w' => e = .returned (.tuple #[.int .u64 5, .int .i64 0]) ∧ Below w.heap.size w w' :=
  ratio_is 0 50 0 2 5 0 w (.inr (.inr ⟨by decide, by decide, ⟨by decide, by decide⟩, rfl⟩)) (by decide) (by decide) (by decide) (by decide)
theorem aw_f24 (w : World) : Calls Try.prog 9 #[.int .u64 24] w fun e w' => e = .returned (.int .u64 4) ∧ Below w.heap.size w w' := floor_is 24 4 w ⟨by decide, by decide⟩ (by decide)
theorem aw_f25 (w : World) : Calls Try.prog 9 #[.int .u64 25] w fun e w' => e = .returned (.int .u64 5) ∧ Below w.heap.size w w' := floor_is 25 5 w ⟨by decide, by decide⟩ (by decide)
theorem aw_gr : Gr (numW 1 0) 1 4294967296 := ⟨by decide, by decide⟩
theorem aw_wide (w : World) : Calls Try.prog 7 #[.agg #[.int .u64 1, .int .u64 0]] w fun e w' => e = .returned (.int .u64 4294967296) ∧ Below w.heap.size w w' := wide_is 1 0 4294967296 w aw_gr (by decide) (by decide)
theorem aw_whole (w : World) : Calls Try.prog 10 #[.agg #[.int .u64 1, .int .u64 0]] w fun e w' => e = .returned (.bool true) ∧ Below w.heap.size w w' := whole_is 1 0 4294967296 w aw_gr (by decide) (by decide) (by decide)
theorem aw_below (w : World) : Calls Try.prog 14 #[.int .u64 5, .agg #[.int .u64 0, .int .u64 50], .agg #[.int .u64 0, .int .u64 2]] w fun e w' => e = .returned (.bool true) ∧ Below w.heap.size w w' := below_any 5 0 50 0 2 w (by decide) (by decide) (by decide) (by decide) (by decide)
set_option maxHeartbeats 2000000 in
set_option maxRecDepth 100000 in
theorem awake_any (w : World) : Calls Try.prog 6 #[] w fun e w' => e = .returned (.bool true) ∧ Below w.heap.size w w' := by
  have B0 := Lib.hid (Below.refl w.heap.size w)
  go_enter Try.func6, Try.ntmps6
  go_wp2_with (first
    | (go_at_call 12; (with_reducible refine (aw_ratio _).mono ?_); rintro e w1 ⟨rfl, hb⟩; have B1 := Lib.hid (B0.out.trans (hb.mono B0.out.size)); clear hb)
    | (go_at_call 9; (with_reducible refine (aw_f24 _).mono ?_); rintro e w2 ⟨rfl, hb⟩; have B2 := Lib.hid (B1.out.trans (hb.mono B1.out.size)); clear hb)
    | (go_at_call 9; (with_reducible refine (aw_f25 _).mono ?_); rintro e w3 ⟨rfl, hb⟩; have B3 := Lib.hid (B2.out.trans (hb.mono B2.out.size)); clear hb)
    | (go_at_call 7; (with_reducible refine (aw_wide _).mono ?_); rintro e w4 ⟨rfl, hb⟩; have B4 := Lib.hid (B3.out.trans (hb.mono B3.out.size)); clear hb)
    | (go_at_call 10; (with_reducible refine (aw_whole _).mono ?_); rintro e w5 ⟨rfl, hb⟩; have B5 := Lib.hid (B4.out.trans (hb.mono B4.out.size)); clear hb)
    | (go_at_call 14; (with_reducible refine (aw_below _).mono ?_); rintro e w6 ⟨rfl, hb⟩; have B6 := Lib.hid (B5.out.trans (hb.mono B5.out.size)); clear hb))
  go_ret
  exact ⟨rfl, B6.out⟩
end Go.Proofs.Ytbkoeiofofhinaa
