/- Proved here: the law of WideShifts, near 0. -/
import Derived.Test.YtmhpfmhpilmfdaaDoorSi
namespace Go.Proofs.YtmhpfmhpilmfdaaDoor
open Go.RowKit

set_option maxHeartbeats 8000000 in
set_option maxRecDepth 100000 in
theorem law_near (a b c d x y : Nat) (n e g z : Int) (w : World) (ht : Tab w) (hn1 : ¬ n > 200) (hn2 : ¬ n < -200)
    (kS : ∀ W, Calls Tryd.prog 18 #[.agg #[.int .u64 (a : Int), .int .u64 (b : Int)], .int .i64 n] W fun r w' => r = .returned (.tuple #[.agg #[.int .u64 (x : Int), .int .u64 (y : Int)], .int .i64 e]) ∧ Below W.heap.size W w')
    (kR : ∀ W, Calls Tryd.prog 19 #[.agg #[.int .u64 (a : Int), .int .u64 (b : Int)], .int .i64 n] W fun r w' => r = .returned (.tuple #[.agg #[.int .u64 (x : Int), .int .u64 (y : Int)], .int .i64 e]) ∧ Below W.heap.size W w')
    (kB : ∀ W, Calls Tryd.prog 20 #[.agg #[.int .u64 (a : Int), .int .u64 (b : Int)]] W fun r w' => r = .returned (.int .i64 g) ∧ Below W.heap.size W w')
    (kQ : ∀ W, Calls Tryd.prog 21 #[.agg #[.int .u64 (a : Int), .int .u64 (b : Int)]] W fun r w' => r = .returned (.int .i64 g) ∧ Below W.heap.size W w')
    (kC : ∀ W, Calls Tryd.prog 22 #[.agg #[.int .u64 (a : Int), .int .u64 (b : Int)], .agg #[.int .u64 (c : Int), .int .u64 (d : Int)]] W fun r w' => r = .returned (.int .i64 z) ∧ Below W.heap.size W w')
    (kE : ∀ W, Calls Tryd.prog 22 #[.agg #[.int .u64 (a : Int), .int .u64 (b : Int)], .agg #[.int .u64 (a : Int), .int .u64 (b : Int)]] W fun r w' => r = .returned (.int .i64 0) ∧ Below W.heap.size W w')
    (kD : ∀ W, Calls Tryd.prog 24 #[.agg #[.int .u64 (a : Int), .int .u64 (b : Int)]] W fun r w' => ∃ v, r = .returned v ∧ Num w' v (numW a b) 8 ∧ Below W.heap.size W w')
    (kF : ∀ W, Calls Tryd.prog 24 #[.agg #[.int .u64 (c : Int), .int .u64 (d : Int)]] W fun r w' => ∃ v, r = .returned v ∧ Num w' v (numW c d) 8 ∧ Below W.heap.size W w')
    (kL : ∀ v u W, Num W v (numW a b) 8 → Num W u (numW c d) 8 → Calls Tryd.prog 23 #[v, u] W fun r w' => r = .returned (.int .i64 z) ∧ W = w') :
    Calls Tryd.prog 5 #[.agg #[.int .u64 (a : Int), .int .u64 (b : Int)], .agg #[.int .u64 (c : Int), .int .u64 (d : Int)], .int .i64 n] w fun e w' => e = .returned (.bool true) ∧ Below w.heap.size w w' := by
  have HS := Lib.hid (fun W => kS W)
  have HR := Lib.hid (fun W => kR W)
  have HB := Lib.hid (fun W => kB W)
  have HQ := Lib.hid (fun W => kQ W)
  have HC := Lib.hid (fun W => kC W)
  have HE := Lib.hid (fun W => kE W)
  have HD := Lib.hid (fun W => kD W)
  have HF := Lib.hid (fun W => kF W)
  have HL := Lib.hid (fun v u W => kL v u W)
  have T0 := Lib.hid (Duo.start w a b c d)
  have HT := Lib.hid (ht.below (bel2 w (.cells #[.int .u64 (a : Int), .int .u64 (b : Int)] 24) (.cells #[.int .u64 (c : Int), .int .u64 (d : Int)] 24)))
  clear kS kR kB kQ kC kE kD kF kL ht
  go_enter Tryd.func5, Tryd.ntmps5
  go_wp2_with (first
    | (go_at_call 7; (with_reducible refine (awake_any _ HT.out).mono ?_); rintro e w1 ⟨rfl, hb1⟩; have T1 := Lib.hid (T0.out.next hb1); clear hb1; obtain ⟨f1, f2, f3, f4, f5, f6⟩ := T1.out.facts)
    | (go_at_call 18; (with_reducible refine (HS.out _).mono ?_); rintro e w2 ⟨rfl, hb2⟩; have T2 := Lib.hid ((T1.out.next hb2).alloc (.cells #[.int .u64 (x : Int), .int .u64 (y : Int)] 24)); have X2 := Lib.hid (Box.new w2 x y); clear hb2 f1 f2 f3 f4 f5 f6; obtain ⟨f1, f2, f3, f4, f5, f6⟩ := T2.out.facts)
    | (go_at_call 19; (with_reducible refine (HR.out _).mono ?_); rintro e w3 ⟨rfl, hb3⟩; have T3 := Lib.hid ((T2.out.next hb3).alloc (.cells #[.int .u64 (x : Int), .int .u64 (y : Int)] 24)); have X3 := Lib.hid ((X2.out.below hb3 (by simp)).alloc (.cells #[.int .u64 (x : Int), .int .u64 (y : Int)] 24)); have Y3 := Lib.hid (Box.new w3 x y); clear hb3 f1 f2 f3 f4 f5 f6))
  obtain ⟨W, hW⟩ : ∃ W, W = w3.alloc (.cells #[.int .u64 (x : Int), .int .u64 (y : Int)] 24) := ⟨_, rfl⟩
  rw [← hW] at T3 X3 Y3 ⊢
  obtain ⟨f1, f2, f3, f4, f5, f6⟩ := T3.out.facts
  have g1 := X3.out.c0
  have g2 := X3.out.c1
  have g3 := X3.out.lt
  have j1 := Y3.out.c0
  have j2 := Y3.out.c1
  have j3 := Y3.out.lt
  clear hW
  go_region_held3 (fun w' => w'.cell? ⟨w.heap.size, 0, none⟩ = some (.int .u64 (a : Int)) ∧ w'.cell? ⟨w.heap.size, 1, none⟩ = some (.int .u64 (b : Int)) ∧ w'.cell? ⟨w.heap.size + 1, 0, none⟩ = some (.int .u64 (c : Int)) ∧ w'.cell? ⟨w.heap.size + 1, 1, none⟩ = some (.int .u64 (d : Int)) ∧ w'.cell? ⟨w2.heap.size, 0, none⟩ = some (.int .u64 (x : Int)) ∧ w'.cell? ⟨w2.heap.size, 1, none⟩ = some (.int .u64 (y : Int)) ∧ w'.cell? ⟨w3.heap.size, 0, none⟩ = some (.int .u64 (x : Int)) ∧ w'.cell? ⟨w3.heap.size, 1, none⟩ = some (.int .u64 (y : Int)))
    (first | (go_split_ands; refine ⟨?_, ?_, ?_, ?_, ?_, ?_, ?_, ?_⟩ <;> first | (rw [q6.cell (by simp; omega)]; assumption) | (rw [q5.cell (by simp; omega)]; assumption) | (rw [q4.cell (by simp; omega)]; assumption) | (rw [q3.cell (by simp; omega)]; assumption) | (rw [q2.cell (by simp; omega)]; assumption) | (rw [q1.cell (by simp; omega)]; assumption)) | go_keep)
    (first
      | (go_at_call 20; (with_reducible refine (HB.out _).mono ?_); rintro e v1 ⟨rfl, q1⟩; have s1 : W.heap.size ≤ v1.heap.size := by simpa using q1.size)
      | (go_at_call 21; (with_reducible refine (HQ.out _).mono ?_); rintro e v2 ⟨rfl, q2⟩; have s2 : W.heap.size ≤ v2.heap.size := Nat.le_trans s1 (by simpa using q2.size))
      | (go_at_call 22; (with_reducible refine (HC.out _).mono ?_); rintro e v3 ⟨rfl, q3⟩; have s3 : W.heap.size ≤ v3.heap.size := Nat.le_trans s2 (by simpa using q3.size))
      | (go_at_call 24; (with_reducible refine (HD.out _).mono ?_); rintro e v4 ⟨za, rfl, hna, q4⟩; have s4 : W.heap.size ≤ v4.heap.size := Nat.le_trans s3 (by simpa using q4.size))
      | (go_at_call 24; (with_reducible refine (HF.out _).mono ?_); rintro e v5 ⟨zb, rfl, hnb, q5⟩; have s5 : W.heap.size ≤ v5.heap.size := Nat.le_trans s4 (by simpa using q5.size); have hnc := hna.below q5 (Nat.le_refl _))
      | (go_at_call 23; (with_reducible refine (HL.out za zb _ hnc hnb).mono ?_); rintro e w' ⟨rfl, rfl⟩)
      | (go_at_call 22; (with_reducible refine (HE.out _).mono ?_); rintro e v6 ⟨rfl, q6⟩; have s6 : W.heap.size ≤ v6.heap.size := Nat.le_trans s5 (by simpa using q6.size)))
  all_goals
    have a1 := T3.out.2.2.drew
    have a2 := a1.trans (q1.mono a1.size)
    have a3 := a2.trans (q2.mono a2.size)
    have a4 := a3.trans (q3.mono a3.size)
    have a5 := a4.trans (q4.mono a4.size)
    have a6 := a5.trans (q5.mono a5.size)
    have HZ := Lib.hid (a6.trans (q6.mono a6.size))
    clear a1 a2 a3 a4 a5 a6 q1 q2 q3 q4 q5 q6
    go_wp2_with fail
    go_ret
    exact ⟨rfl, HZ.out⟩
end Go.Proofs.YtmhpfmhpilmfdaaDoor
