/- Proved here: what package wide's Shift answers of n from 0 on. -/
import Derived.Test.YtmhpfmhpilmfdaaDoorSc
import Derived.Deep.RegionHeld3
namespace Go.Proofs.YtmhpfmhpilmfdaaDoor
open Go.RowKit

set_option maxHeartbeats 2000000 in
set_option maxRecDepth 100000 in
theorem shift_pos_fit (a b m h l : Nat) (w : World)
    (ku : ∀ W, Calls Tryd.prog 38 #[.agg #[.int .u64 (a : Int), .int .u64 (b : Int)], .int .u64 (m : Int)] W fun e w' => e = .returned (.agg #[.int .u64 (h : Int), .int .u64 (l : Int)]) ∧ Below W.heap.size W w')
    (kd : ∀ W, Calls Tryd.prog 37 #[.agg #[.int .u64 (h : Int), .int .u64 (l : Int)], .int .u64 (m : Int)] W fun e w' => e = .returned (.agg #[.int .u64 (a : Int), .int .u64 (b : Int)]) ∧ Below W.heap.size W w')
    (hm' : m < 9223372036854775808) :
    Calls Tryd.prog 18 #[.agg #[.int .u64 (a : Int), .int .u64 (b : Int)], .int .i64 (m : Int)] w fun e w' => e = .returned (.tuple #[.agg #[.int .u64 (h : Int), .int .u64 (l : Int)], .int .i64 0]) ∧ Below w.heap.size w w' := by
  have HU := Lib.hid (fun W => ku W)
  have HD := Lib.hid (fun W => kd W)
  have e1 : IntKind.u64.wrap (m : Int) = (m : Int) := by rw [IntKind.wrap_u64]; omega
  have hneg : ¬ (m : Int) < 0 := by omega
  have HA0 := Lib.hid ((Box.new w a b).alloc (.cells #[.int .u64 ((0 : Nat) : Int), .int .u64 ((0 : Nat) : Int)] 24))
  have HB0 := Lib.hid (nw2 w (.cells #[.int .u64 (a : Int), .int .u64 (b : Int)] 24) 0 0)
  clear ku kd hm'
  go_enter Tryd.func18, Tryd.ntmps18
  go_wp2_with (go_at_call 38; (with_reducible refine (HU.out _).mono ?_); rintro e w1 ⟨rfl, hb1⟩)
  obtain ⟨W, hW⟩ : ∃ W, W = w1.alloc (.cells #[.int .u64 (h : Int), .int .u64 (l : Int)] 24) := ⟨_, rfl⟩
  rw [← hW]
  have HA1 := (HA0.out.below hb1 (by simp; omega)).alloc (.cells #[.int .u64 (h : Int), .int .u64 (l : Int)] 24)
  have HB1 := (HB0.out.below hb1 (by simp)).alloc (.cells #[.int .u64 (h : Int), .int .u64 (l : Int)] 24)
  have HC1 := Box.new w1 h l
  have hs := hb1.size
  have HF1 := ((bl2 w _ _).trans (hb1.mono (by simp; omega))).alloc (by simp at hs; omega) (.cells #[.int .u64 (h : Int), .int .u64 (l : Int)] 24)
  rw [← hW] at HA1 HB1 HC1 HF1
  have f1 := HA1.c0
  have f2 := HA1.c1
  have f3 := HC1.c0
  have f4 := HC1.c1
  have l1 := HA1.lt
  have l2 := HB1.lt
  have l3 := HC1.lt
  replace HA1 := Lib.hid HA1
  replace HB1 := Lib.hid HB1
  replace HC1 := Lib.hid HC1
  replace HF1 := Lib.hid HF1
  clear hW hb1 hs
  go_region_held3 (fun w' => w'.cell? ⟨w.heap.size, 0, none⟩ = some (.int .u64 (a : Int)) ∧ w'.cell? ⟨w.heap.size, 1, none⟩ = some (.int .u64 (b : Int)) ∧ w'.cell? ⟨w1.heap.size, 0, none⟩ = some (.int .u64 (h : Int)) ∧ w'.cell? ⟨w1.heap.size, 1, none⟩ = some (.int .u64 (l : Int)))
    (first | (go_split_ands; refine ⟨?_, ?_, ?_, ?_⟩ <;> (rw [hb2.cell (by simpa using ‹_›)]; assumption)) | go_keep)
    (first | (go_at_call 37; (with_reducible refine (HD.out _).mono ?_); rintro e w2 ⟨rfl, hb2⟩))
  all_goals
    have a1 := HF1.out.drew
    have a2 := Lib.hid (a1.trans (hb2.mono a1.size))
    have HB2 := Lib.hid (HB1.out.drew.below hb2 l2)
    have HC2 := Lib.hid (HC1.out.drew.below hb2 l3)
    have g1 := HB2.out.c0
    have g2 := HB2.out.c1
    have g3 := HB2.out.fr 0
    have g4 := HB2.out.fr 1
    have g5 := HC2.out.c0
    have g6 := HC2.out.c1
    have g7 := HB2.out.lt
    have g8 := HC2.out.lt
    clear hb2 a1
    go_wp2_with fail
    exact bodyPost_ret (ret_box2 rfl rfl rfl ((HB2.out.set0 _).set1 _)) rfl ⟨rfl, (a2.out.setCell (Nat.le_succ _) _).setCell (Nat.le_succ _) _⟩
set_option maxHeartbeats 2000000 in
set_option maxRecDepth 100000 in
theorem shift_pos_ne1 (a b m h l x y : Nat) (w : World)
    (ku : ∀ W, Calls Tryd.prog 38 #[.agg #[.int .u64 (a : Int), .int .u64 (b : Int)], .int .u64 (m : Int)] W fun e w' => e = .returned (.agg #[.int .u64 (h : Int), .int .u64 (l : Int)]) ∧ Below W.heap.size W w')
    (kd : ∀ W, Calls Tryd.prog 37 #[.agg #[.int .u64 (h : Int), .int .u64 (l : Int)], .int .u64 (m : Int)] W fun e w' => e = .returned (.agg #[.int .u64 (x : Int), .int .u64 (y : Int)]) ∧ Below W.heap.size W w')
    (hm' : m < 9223372036854775808) (hx : (x : Int) ≠ (a : Int)) :
    Calls Tryd.prog 18 #[.agg #[.int .u64 (a : Int), .int .u64 (b : Int)], .int .i64 (m : Int)] w fun e w' => e = .returned (.tuple #[.agg #[.int .u64 ((0 : Nat) : Int), .int .u64 ((0 : Nat) : Int)], .int .i64 2]) ∧ Below w.heap.size w w' := by
  have HU := Lib.hid (fun W => ku W)
  have HD := Lib.hid (fun W => kd W)
  have e1 : IntKind.u64.wrap (m : Int) = (m : Int) := by rw [IntKind.wrap_u64]; omega
  have hneg : ¬ (m : Int) < 0 := by omega
  have HA0 := Lib.hid ((Box.new w a b).alloc (.cells #[.int .u64 ((0 : Nat) : Int), .int .u64 ((0 : Nat) : Int)] 24))
  have HB0 := Lib.hid (nw2 w (.cells #[.int .u64 (a : Int), .int .u64 (b : Int)] 24) 0 0)
  clear ku kd hm'
  go_enter Tryd.func18, Tryd.ntmps18
  go_wp2_with (go_at_call 38; (with_reducible refine (HU.out _).mono ?_); rintro e w1 ⟨rfl, hb1⟩)
  obtain ⟨W, hW⟩ : ∃ W, W = w1.alloc (.cells #[.int .u64 (h : Int), .int .u64 (l : Int)] 24) := ⟨_, rfl⟩
  rw [← hW]
  have HA1 := (HA0.out.below hb1 (by simp; omega)).alloc (.cells #[.int .u64 (h : Int), .int .u64 (l : Int)] 24)
  have HB1 := (HB0.out.below hb1 (by simp)).alloc (.cells #[.int .u64 (h : Int), .int .u64 (l : Int)] 24)
  have HC1 := Box.new w1 h l
  have hs := hb1.size
  have HF1 := ((bl2 w _ _).trans (hb1.mono (by simp; omega))).alloc (by simp at hs; omega) (.cells #[.int .u64 (h : Int), .int .u64 (l : Int)] 24)
  rw [← hW] at HA1 HB1 HC1 HF1
  have f1 := HA1.c0
  have f2 := HA1.c1
  have f3 := HC1.c0
  have f4 := HC1.c1
  have l1 := HA1.lt
  have l2 := HB1.lt
  have l3 := HC1.lt
  replace HA1 := Lib.hid HA1
  replace HB1 := Lib.hid HB1
  replace HC1 := Lib.hid HC1
  replace HF1 := Lib.hid HF1
  clear hW hb1 hs
  go_region_held3 (fun w' => w'.cell? ⟨w.heap.size, 0, none⟩ = some (.int .u64 (a : Int)) ∧ w'.cell? ⟨w.heap.size, 1, none⟩ = some (.int .u64 (b : Int)) ∧ w'.cell? ⟨w1.heap.size, 0, none⟩ = some (.int .u64 (h : Int)) ∧ w'.cell? ⟨w1.heap.size, 1, none⟩ = some (.int .u64 (l : Int)))
    (first | (go_split_ands; refine ⟨?_, ?_, ?_, ?_⟩ <;> (rw [hb2.cell (by simpa using ‹_›)]; assumption)) | go_keep)
    (first | (go_at_call 37; (with_reducible refine (HD.out _).mono ?_); rintro e w2 ⟨rfl, hb2⟩))
  all_goals
    have a1 := HF1.out.drew
    have a2 := Lib.hid (a1.trans (hb2.mono a1.size))
    have HB2 := Lib.hid (HB1.out.drew.below hb2 l2)
    have HC2 := Lib.hid (HC1.out.drew.below hb2 l3)
    have g1 := HB2.out.c0
    have g2 := HB2.out.c1
    have g3 := HB2.out.fr 0
    have g4 := HB2.out.fr 1
    have g5 := HC2.out.c0
    have g6 := HC2.out.c1
    have g7 := HB2.out.lt
    have g8 := HC2.out.lt
    clear hb2 a1
    go_wp2_with fail
    exact bodyPost_ret (ret_box2 rfl rfl rfl ((HB2.out.set0 _).set1 _)) rfl ⟨rfl, (a2.out.setCell (Nat.le_succ _) _).setCell (Nat.le_succ _) _⟩
set_option maxHeartbeats 2000000 in
set_option maxRecDepth 100000 in
theorem shift_pos_ne2 (a b m h l y : Nat) (w : World)
    (ku : ∀ W, Calls Tryd.prog 38 #[.agg #[.int .u64 (a : Int), .int .u64 (b : Int)], .int .u64 (m : Int)] W fun e w' => e = .returned (.agg #[.int .u64 (h : Int), .int .u64 (l : Int)]) ∧ Below W.heap.size W w')
    (kd : ∀ W, Calls Tryd.prog 37 #[.agg #[.int .u64 (h : Int), .int .u64 (l : Int)], .int .u64 (m : Int)] W fun e w' => e = .returned (.agg #[.int .u64 (a : Int), .int .u64 (y : Int)]) ∧ Below W.heap.size W w')
    (hm' : m < 9223372036854775808) (hx : (y : Int) ≠ (b : Int)) :
    Calls Tryd.prog 18 #[.agg #[.int .u64 (a : Int), .int .u64 (b : Int)], .int .i64 (m : Int)] w fun e w' => e = .returned (.tuple #[.agg #[.int .u64 ((0 : Nat) : Int), .int .u64 ((0 : Nat) : Int)], .int .i64 2]) ∧ Below w.heap.size w w' := by
  have HU := Lib.hid (fun W => ku W)
  have HD := Lib.hid (fun W => kd W)
  have e1 : IntKind.u64.wrap (m : Int) = (m : Int) := by rw [IntKind.wrap_u64]; omega
  have hneg : ¬ (m : Int) < 0 := by omega
  have HA0 := Lib.hid ((Box.new w a b).alloc (.cells #[.int .u64 ((0 : Nat) : Int), .int .u64 ((0 : Nat) : Int)] 24))
  have HB0 := Lib.hid (nw2 w (.cells #[.int .u64 (a : Int), .int .u64 (b : Int)] 24) 0 0)
  clear ku kd hm'
  go_enter Tryd.func18, Tryd.ntmps18
  go_wp2_with (go_at_call 38; (with_reducible refine (HU.out _).mono ?_); rintro e w1 ⟨rfl, hb1⟩)
  obtain ⟨W, hW⟩ : ∃ W, W = w1.alloc (.cells #[.int .u64 (h : Int), .int .u64 (l : Int)] 24) := ⟨_, rfl⟩
  rw [← hW]
  have HA1 := (HA0.out.below hb1 (by simp; omega)).alloc (.cells #[.int .u64 (h : Int), .int .u64 (l : Int)] 24)
  have HB1 := (HB0.out.below hb1 (by simp)).alloc (.cells #[.int .u64 (h : Int), .int .u64 (l : Int)] 24)
  have HC1 := Box.new w1 h l
  have hs := hb1.size
  have HF1 := ((bl2 w _ _).trans (hb1.mono (by simp; omega))).alloc (by simp at hs; omega) (.cells #[.int .u64 (h : Int), .int .u64 (l : Int)] 24)
  rw [← hW] at HA1 HB1 HC1 HF1
  have f1 := HA1.c0
  have f2 := HA1.c1
  have f3 := HC1.c0
  have f4 := HC1.c1
  have l1 := HA1.lt
  have l2 := HB1.lt
  have l3 := HC1.lt
  replace HA1 := Lib.hid HA1
  replace HB1 := Lib.hid HB1
  replace HC1 := Lib.hid HC1
  replace HF1 := Lib.hid HF1
  clear hW hb1 hs
  go_region_held3 (fun w' => w'.cell? ⟨w.heap.size, 0, none⟩ = some (.int .u64 (a : Int)) ∧ w'.cell? ⟨w.heap.size, 1, none⟩ = some (.int .u64 (b : Int)) ∧ w'.cell? ⟨w1.heap.size, 0, none⟩ = some (.int .u64 (h : Int)) ∧ w'.cell? ⟨w1.heap.size, 1, none⟩ = some (.int .u64 (l : Int)))
    (first | (go_split_ands; refine ⟨?_, ?_, ?_, ?_⟩ <;> (rw [hb2.cell (by simpa using ‹_›)]; assumption)) | go_keep)
    (first | (go_at_call 37; (with_reducible refine (HD.out _).mono ?_); rintro e w2 ⟨rfl, hb2⟩))
  all_goals
    have a1 := HF1.out.drew
    have a2 := Lib.hid (a1.trans (hb2.mono a1.size))
    have HB2 := Lib.hid (HB1.out.drew.below hb2 l2)
    have HC2 := Lib.hid (HC1.out.drew.below hb2 l3)
    have g1 := HB2.out.c0
    have g2 := HB2.out.c1
    have g3 := HB2.out.fr 0
    have g4 := HB2.out.fr 1
    have g5 := HC2.out.c0
    have g6 := HC2.out.c1
    have g7 := HB2.out.lt
    have g8 := HC2.out.lt
    clear hb2 a1
    go_wp2_with fail
    exact bodyPost_ret (ret_box2 rfl rfl rfl ((HB2.out.set0 _).set1 _)) rfl ⟨rfl, (a2.out.setCell (Nat.le_succ _) _).setCell (Nat.le_succ _) _⟩
end Go.Proofs.YtmhpfmhpilmfdaaDoor
