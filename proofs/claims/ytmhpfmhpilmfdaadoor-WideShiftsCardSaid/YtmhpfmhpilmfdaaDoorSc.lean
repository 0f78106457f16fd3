/- Proved here: what package wide's Shift answers. Condition: halves of 64 bits. -/
import Derived.Test.YtmhpfmhpilmfdaaDoorSb
import Derived.Deep.RegionHeld3
namespace Go.Proofs.YtmhpfmhpilmfdaaDoor
open Go.RowKit

theorem nw2 (w : World) (o : Obj) (e f : Nat) : Box ((w.alloc o).alloc (.cells #[.int .u64 (e : Int), .int .u64 (f : Int)] 24)) (w.heap.size + 1) e f := by simpa using Box.new (w.alloc o) e f
theorem bl2 (w : World) (o p : Obj) : Below w.heap.size w ((w.alloc o).alloc p) := ((Below.refl _ w).alloc (Nat.le_refl _) _).alloc (by simp) _
theorem e8b : (65536 ^ 8 : Nat) = 18446744073709551616 * 18446744073709551616 := by decide
theorem hw_lt {x : Nat} (h : x < 18446744073709551616 * 18446744073709551616) : hiW x < 18446744073709551616 := by unfold hiW; omega
theorem lw_lt (x : Nat) : loW x < 18446744073709551616 := Nat.mod_lt _ (by decide)
theorem num_hl (x : Nat) : numW (hiW x) (loW x) = x := by unfold numW hiW loW; omega
set_option maxHeartbeats 2000000 in
set_option maxRecDepth 100000 in
theorem shift_neg (a b m : Nat) (w : World) (ha : a < 18446744073709551616) (hb : b < 18446744073709551616) (hm : 0 < m) (hm' : m ≤ 9223372036854775808) :
    Calls Tryd.prog 18 #[.agg #[.int .u64 (a : Int), .int .u64 (b : Int)], .int .i64 (-(m : Int))] w fun e w' => e = .returned (.tuple #[.agg #[.int .u64 (hiW (numW a b / 2 ^ m) : Int), .int .u64 (loW (numW a b / 2 ^ m) : Int)], .int .i64 0]) ∧ Below w.heap.size w w' := by
  have HD := Lib.hid (fun W => down_any a b m W ha hb (by omega))
  have e1 : IntKind.u64.wrap (-IntKind.u64.wrap (-(m : Int))) = (m : Int) := by rw [IntKind.wrap_u64, IntKind.wrap_u64]; omega
  have hneg : -(m : Int) < 0 := by omega
  have HB0 := Lib.hid (nw2 w (.cells #[.int .u64 (a : Int), .int .u64 (b : Int)] 24) 0 0)
  clear ha hb hm hm'
  go_enter Tryd.func18, Tryd.ntmps18
  go_wp2_with (go_at_call 37; (with_reducible refine (HD.out _).mono ?_); rintro e w1 ⟨rfl, hb1⟩; have HX1 := Lib.hid (HB0.out.below hb1 (by simp)); have f1 := HX1.out.c0; have f2 := HX1.out.c1; have f3 := HX1.out.fr 0; have f4 := HX1.out.fr 1; have l1 := HX1.out.lt; have HB1 := Lib.hid ((bl2 w _ _).trans (hb1.mono (by simp; omega))); clear hb1)

  all_goals exact bodyPost_ret (ret_box2 rfl rfl rfl ((HX1.out.set0 _).set1 _)) rfl ⟨rfl, (HB1.out.setCell (Nat.le_succ _) _).setCell (Nat.le_succ _) _⟩
end Go.Proofs.YtmhpfmhpilmfdaaDoor
