/- Proved here: the law of WideShifts, far from 0. -/
import Derived.Test.YtmhpfmhpilmfdaaDoorSg
import Derived.Test.YtmhpfmhpilmfdaaDoorPa
import Derived.Deep.RegionHeld3
namespace Go.Proofs.YtmhpfmhpilmfdaaDoor
open Go.RowKit

/-- The two arguments' boxes, for the law of shifts. -/
def Duo (w W : World) (a b c d : Nat) : Prop := Box W w.heap.size a b ∧ Box W (w.heap.size + 1) c d ∧ Below w.heap.size w W
theorem Duo.next {w W W' : World} {a b c d : Nat} (h : Duo w W a b c d) (hb : Below W.heap.size W W') : Duo w W' a b c d := ⟨h.1.below hb h.1.lt, h.2.1.below hb h.2.1.lt, h.2.2.trans (hb.mono h.2.2.size)⟩
theorem Duo.alloc {w W : World} {a b c d : Nat} (h : Duo w W a b c d) (o : Obj) : Duo w (W.alloc o) a b c d := h.next ((Below.refl _ _).alloc (Nat.le_refl _) o)
def DuoF (w W : World) (a b c d : Nat) : Prop := W.cell? ⟨w.heap.size, 0, none⟩ = some (.int .u64 (a : Int)) ∧ W.cell? ⟨w.heap.size, 1, none⟩ = some (.int .u64 (b : Int)) ∧ W.cell? ⟨w.heap.size + 1, 0, none⟩ = some (.int .u64 (c : Int)) ∧ W.cell? ⟨w.heap.size + 1, 1, none⟩ = some (.int .u64 (d : Int)) ∧ w.heap.size < W.heap.size ∧ w.heap.size + 1 < W.heap.size
theorem Duo.facts {w W : World} {a b c d : Nat} (h : Duo w W a b c d) : DuoF w W a b c d := ⟨h.1.c0, h.1.c1, h.2.1.c0, h.2.1.c1, h.1.lt, h.2.1.lt⟩
theorem Duo.start (w : World) (a b c d : Nat) : Duo w ((w.alloc (.cells #[.int .u64 (a : Int), .int .u64 (b : Int)] 24)).alloc (.cells #[.int .u64 (c : Int), .int .u64 (d : Int)] 24)) a b c d := ⟨(Box.new w a b).alloc _, new2 w _ c d, bel2 w _ _⟩
set_option maxHeartbeats 4000000 in
set_option maxRecDepth 100000 in
theorem law_far1 (a b c d : Nat) (n : Int) (w : World) (ht : Tab w) (hn : n > 200) (h0 : (a : Int) ≠ 0)
    (kS : ∀ W, Calls Tryd.prog 18 #[.agg #[.int .u64 (a : Int), .int .u64 (b : Int)], .int .i64 n] W fun x w' => x = .returned (.tuple #[.agg #[.int .u64 0, .int .u64 0], .int .i64 2]) ∧ Below W.heap.size W w') :
    Calls Tryd.prog 5 #[.agg #[.int .u64 (a : Int), .int .u64 (b : Int)], .agg #[.int .u64 (c : Int), .int .u64 (d : Int)], .int .i64 n] w fun e w' => e = .returned (.bool true) ∧ Below w.heap.size w w' := by
  have HS := Lib.hid (fun W => kS W)
  have T0 := Lib.hid (Duo.start w a b c d)
  have HT := Lib.hid (ht.below (bel2 w (.cells #[.int .u64 (a : Int), .int .u64 (b : Int)] 24) (.cells #[.int .u64 (c : Int), .int .u64 (d : Int)] 24)))
  clear kS ht
  go_enter Tryd.func5, Tryd.ntmps5
  go_wp2_with (first
    | (go_at_call 7; (with_reducible refine (awake_any _ HT.out).mono ?_); rintro e w1 ⟨rfl, hb1⟩; have T1 := Lib.hid (T0.out.next hb1); clear hb1; obtain ⟨f1, f2, f3, f4, f5, f6⟩ := T1.out.facts)
    | (go_at_call 18; (with_reducible refine (HS.out _).mono ?_); rintro e w2 ⟨rfl, hb2⟩; have T2 := Lib.hid ((T1.out.next hb2).alloc (.cells #[.int .u64 0, .int .u64 0] 24)); have X2 := Lib.hid (Box.new w2 0 0); clear hb2 f1 f2 f3 f4 f5 f6; obtain ⟨f1, f2, f3, f4, f5, f6⟩ := T2.out.facts; have g1 := X2.out.c0; have g2 := X2.out.c1; have g3 := X2.out.lt))
  all_goals
    go_ret
    exact ⟨rfl, T2.out.2.2⟩
set_option maxHeartbeats 4000000 in
set_option maxRecDepth 100000 in
theorem law_far4 (a b c d : Nat) (n : Int) (w : World) (ht : Tab w) (hn : n < -200)
    (kS : ∀ W, Calls Tryd.prog 18 #[.agg #[.int .u64 (a : Int), .int .u64 (b : Int)], .int .i64 n] W fun x w' => x = .returned (.tuple #[.agg #[.int .u64 0, .int .u64 0], .int .i64 0]) ∧ Below W.heap.size W w') :
    Calls Tryd.prog 5 #[.agg #[.int .u64 (a : Int), .int .u64 (b : Int)], .agg #[.int .u64 (c : Int), .int .u64 (d : Int)], .int .i64 n] w fun e w' => e = .returned (.bool true) ∧ Below w.heap.size w w' := by
  have HS := Lib.hid (fun W => kS W)
  have T0 := Lib.hid (Duo.start w a b c d)
  have HT := Lib.hid (ht.below (bel2 w (.cells #[.int .u64 (a : Int), .int .u64 (b : Int)] 24) (.cells #[.int .u64 (c : Int), .int .u64 (d : Int)] 24)))
  clear kS ht
  go_enter Tryd.func5, Tryd.ntmps5
  go_wp2_with (first
    | (go_at_call 7; (with_reducible refine (awake_any _ HT.out).mono ?_); rintro e w1 ⟨rfl, hb1⟩; have T1 := Lib.hid (T0.out.next hb1); clear hb1; obtain ⟨f1, f2, f3, f4, f5, f6⟩ := T1.out.facts)
    | (go_at_call 18; (with_reducible refine (HS.out _).mono ?_); rintro e w2 ⟨rfl, hb2⟩; have T2 := Lib.hid ((T1.out.next hb2).alloc (.cells #[.int .u64 0, .int .u64 0] 24)); have X2 := Lib.hid (Box.new w2 0 0); clear hb2 f1 f2 f3 f4 f5 f6; obtain ⟨f1, f2, f3, f4, f5, f6⟩ := T2.out.facts; have g1 := X2.out.c0; have g2 := X2.out.c1; have g3 := X2.out.lt))
  all_goals
    go_ret
    exact ⟨rfl, T2.out.2.2⟩
set_option maxHeartbeats 4000000 in
set_option maxRecDepth 100000 in
theorem law_far2 (b c d : Nat) (n : Int) (w : World) (ht : Tab w) (hn : n > 200) (h0 : (b : Int) ≠ 0)
    (kS : ∀ W, Calls Tryd.prog 18 #[.agg #[.int .u64 0, .int .u64 (b : Int)], .int .i64 n] W fun x w' => x = .returned (.tuple #[.agg #[.int .u64 0, .int .u64 0], .int .i64 2]) ∧ Below W.heap.size W w') :
    Calls Tryd.prog 5 #[.agg #[.int .u64 0, .int .u64 (b : Int)], .agg #[.int .u64 (c : Int), .int .u64 (d : Int)], .int .i64 n] w fun e w' => e = .returned (.bool true) ∧ Below w.heap.size w w' := by
  have HS := Lib.hid (fun W => kS W)
  have T0 := Lib.hid (Duo.start w 0 b c d)
  have HT := Lib.hid (ht.below (bel2 w (.cells #[.int .u64 0, .int .u64 (b : Int)] 24) (.cells #[.int .u64 (c : Int), .int .u64 (d : Int)] 24)))
  clear kS ht
  go_enter Tryd.func5, Tryd.ntmps5
  go_wp2_with (first
    | (go_at_call 7; (with_reducible refine (awake_any _ HT.out).mono ?_); rintro e w1 ⟨rfl, hb1⟩; have T1 := Lib.hid (T0.out.next hb1); clear hb1; obtain ⟨f1, f2, f3, f4, f5, f6⟩ := T1.out.facts)
    | (go_at_call 18; (with_reducible refine (HS.out _).mono ?_); rintro e w2 ⟨rfl, hb2⟩; have T2 := Lib.hid ((T1.out.next hb2).alloc (.cells #[.int .u64 0, .int .u64 0] 24)); have X2 := Lib.hid (Box.new w2 0 0); clear hb2 f1 f2 f3 f4 f5 f6; obtain ⟨f1, f2, f3, f4, f5, f6⟩ := T2.out.facts; have g1 := X2.out.c0; have g2 := X2.out.c1; have g3 := X2.out.lt))
  all_goals
    go_ret
    exact ⟨rfl, T2.out.2.2⟩
set_option maxHeartbeats 4000000 in
set_option maxRecDepth 100000 in
theorem law_far3 (c d : Nat) (n : Int) (w : World) (ht : Tab w) (hn : n > 200)
    (kS : ∀ W, Calls Tryd.prog 18 #[.agg #[.int .u64 0, .int .u64 0], .int .i64 n] W fun x w' => x = .returned (.tuple #[.agg #[.int .u64 0, .int .u64 0], .int .i64 0]) ∧ Below W.heap.size W w') :
    Calls Tryd.prog 5 #[.agg #[.int .u64 0, .int .u64 0], .agg #[.int .u64 (c : Int), .int .u64 (d : Int)], .int .i64 n] w fun e w' => e = .returned (.bool true) ∧ Below w.heap.size w w' := by
  have HS := Lib.hid (fun W => kS W)
  have T0 := Lib.hid (Duo.start w 0 0 c d)
  have HT := Lib.hid (ht.below (bel2 w (.cells #[.int .u64 0, .int .u64 0] 24) (.cells #[.int .u64 (c : Int), .int .u64 (d : Int)] 24)))
  clear kS ht
  go_enter Tryd.func5, Tryd.ntmps5
  go_wp2_with (first
    | (go_at_call 7; (with_reducible refine (awake_any _ HT.out).mono ?_); rintro e w1 ⟨rfl, hb1⟩; have T1 := Lib.hid (T0.out.next hb1); clear hb1; obtain ⟨f1, f2, f3, f4, f5, f6⟩ := T1.out.facts)
    | (go_at_call 18; (with_reducible refine (HS.out _).mono ?_); rintro e w2 ⟨rfl, hb2⟩; have T2 := Lib.hid ((T1.out.next hb2).alloc (.cells #[.int .u64 0, .int .u64 0] 24)); have X2 := Lib.hid (Box.new w2 0 0); clear hb2 f1 f2 f3 f4 f5 f6; obtain ⟨f1, f2, f3, f4, f5, f6⟩ := T2.out.facts; have g1 := X2.out.c0; have g2 := X2.out.c1; have g3 := X2.out.lt))
  all_goals
    go_ret
    exact ⟨rfl, T2.out.2.2⟩
end Go.Proofs.YtmhpfmhpilmfdaaDoor
