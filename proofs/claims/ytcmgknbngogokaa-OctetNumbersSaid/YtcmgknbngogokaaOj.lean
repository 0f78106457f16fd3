/- Proved here: that OctetNumbers' law answers true, over every text, place and length. Condition: numbers of 64 bits. -/
import Derived.Test.YtcmgknbngogokaaOi
namespace Go.Proofs.Ytcmgknbngogokaa
open Go.RowKit

theorem cut_all (k n : Nat) : cutL (byt k n) 0 k = byt k n ∧ cutE (byt k n) 0 k = 0 := by
  have h : Has (byt k n).length 0 k := ⟨by omega, by omega, by rw [byt_len]; omega⟩
  unfold cutL cutE
  rw [if_pos h, if_pos h]
  refine ⟨?_, rfl⟩
  unfold piece
  rw [Int.toNat_natCast, show (0 : Int).toNat = 0 from rfl, List.drop_zero, List.take_of_length_le (by rw [byt_len]; exact Nat.le_refl _)]
theorem back32 (c : Nat) (hc : c < 4294967296) (W : World) : Calls Try.prog 8 #[.string ⟨(byt 4 c).toArray⟩, .int .i64 0] W fun e w' => e = .returned (.tuple #[.int .u32 (c : Int), .int .i64 0]) ∧ W = w' := by
  have h := u32_any ⟨(byt 4 c).toArray⟩ 0 W (by show (byt 4 c).toArray.size ≤ _; rw [List.size_toArray, byt_len]; omega) (by omega)
  have e := cut_all 4 c
  simp only at h
  rw [show ((4 : Nat) : Int) = 4 from rfl] at e
  rw [e.1, e.2, byt_bv 4 c hc] at h
  exact h
theorem back16 (c : Nat) (hc : c < 65536) (W : World) : Calls Try.prog 6 #[.string ⟨(byt 2 c).toArray⟩, .int .i64 0] W fun e w' => e = .returned (.tuple #[.int .u16 (c : Int), .int .i64 0]) ∧ W = w' := by
  have h := u16_any ⟨(byt 2 c).toArray⟩ 0 W (by show (byt 2 c).toArray.size ≤ _; rw [List.size_toArray, byt_len]; omega) (by omega)
  have e := cut_all 2 c
  simp only at h
  rw [show ((2 : Nat) : Int) = 2 from rfl] at e
  rw [e.1, e.2, byt_bv 2 c hc] at h
  exact h
set_option maxHeartbeats 2000000 in
theorem numbers_long (s : ByteArray) (a n : Int) (w : World) (h : 100 < s.size) : Calls Try.prog 3 #[.string s, .int .i64 a, .int .i64 n] w fun e w' => e = .returned (.bool true) ∧ Below w.heap.size w w' := by
  have hd : decide (100 < (s.size : Int)) = true := decide_eq_true (by omega)
  clear h
  go_enter Try.func3, Try.ntmps3
  go_wp2_with (go_at_call 5; (with_reducible refine (awake_any _).mono ?_); rintro e w1 ⟨rfl, hb⟩; have B := Lib.hid hb; clear hb)
  go_ret
  exact ⟨rfl, B.out⟩
theorem put4 (n : Nat) (w : World) (hn : n < 4294967296) : Calls Try.prog 14 #[.int .u32 (n : Int), .int .i64 4] w fun e w' => e = .returned (.string ⟨(byt 4 n).toArray⟩) ∧ Below w.heap.size w w' := put_any n 4 w hn (by omega)
theorem put2 (n : Nat) (w : World) (hn : n < 4294967296) : Calls Try.prog 14 #[.int .u32 (n : Int), .int .i64 2] w fun e w' => e = .returned (.string ⟨(byt 2 n).toArray⟩) ∧ Below w.heap.size w w' := put_any n 2 w hn (by omega)
set_option maxHeartbeats 8000000 in
set_option maxRecDepth 100000 in
theorem numbers_main (s : ByteArray) (a n : Int) (w : World) (h : s.size ≤ 100) (ha : a < 9223372036854775808) : Calls Try.prog 3 #[.string s, .int .i64 a, .int .i64 n] w fun e w' => e = .returned (.bool true) ∧ Below w.heap.size w w' := by
  have hd : decide (100 < (s.size : Int)) = false := decide_eq_false (by omega)
  have HA := Lib.hid (fun W => u16_any s a W (by omega) ha)
  have HB := Lib.hid (fun W => ru16_any s a W (by omega) ha)
  have HC := Lib.hid (fun W => u32_any s a W (by omega) ha)
  have HD := Lib.hid (fun W => ru32_any s a W (by omega) ha)
  have HE := Lib.hid (fun W => cut_any s a n W (by omega) ha)
  have HF := Lib.hid (fun W => rcut_any s a n W (by omega) ha)
  have l2 : (cutL s.data.toList a 2).length ≤ 2 := cutL_len s.data.toList a 2
  have l4 : (cutL s.data.toList a 4).length ≤ 4 := cutL_len s.data.toList a 4
  have b2 := bv_le _ 2 l2
  have b4 := bv_le _ 4 l4
  obtain ⟨x, hx⟩ : ∃ x, x = bv (cutL s.data.toList a 2) 0 := ⟨_, rfl⟩
  obtain ⟨y, hy⟩ : ∃ y, y = bv (cutL s.data.toList a 4) 0 := ⟨_, rfl⟩
  obtain ⟨D, hD⟩ : ∃ D : ByteArray, D = ⟨(cutL s.data.toList a n).toArray⟩ := ⟨_, rfl⟩
  obtain ⟨e2, he2⟩ : ∃ e, e = cutE s.data.toList a 2 := ⟨_, rfl⟩
  obtain ⟨e4, he4⟩ : ∃ e, e = cutE s.data.toList a 4 := ⟨_, rfl⟩
  obtain ⟨en, hen⟩ : ∃ e, e = cutE s.data.toList a n := ⟨_, rfl⟩
  rw [← hx, ← he2] at HA HB
  rw [← hy, ← he4] at HC HD
  rw [← hD, ← hen] at HE HF
  rw [← hx] at b2
  rw [← hy] at b4
  obtain ⟨N, hN⟩ : ∃ N : Nat, N = (n % 4294967296).toNat := ⟨_, rfl⟩
  obtain ⟨M, hM⟩ : ∃ M : Nat, M = (n % 65536).toNat := ⟨_, rfl⟩
  have e1 : IntKind.u32.wrap n = (N : Int) := by rw [IntKind.wrap_u32]; omega
  have e3 : IntKind.u16.wrap n = (M : Int) := by rw [IntKind.wrap_u16]; omega
  have e5 : IntKind.u32.wrap (M : Int) = (M : Int) := by rw [IntKind.wrap_u32]; omega
  have P4 := Lib.hid (fun W => p32_any y W b4)
  have P2 := Lib.hid (fun W => p16_any x W b2)
  have K4 := Lib.hid (fun W => back32 y b4 W)
  have K2 := Lib.hid (fun W => back16 x b2 W)
  have PN := Lib.hid (fun W => p32_any N W (by omega))
  have PM := Lib.hid (fun W => p16_any M W (by omega))
  have QN := Lib.hid (fun W => put4 N W (by omega))
  have QM := Lib.hid (fun W => put2 M W (by omega))
  clear hx hy hD he2 he4 hen l2 l4 b2 b4 hN hM h ha
  have B0 := Lib.hid (Below.refl w.heap.size w)
  go_enter Try.func3, Try.ntmps3
  go_wp2_with (first
    | (go_at_call 5; (with_reducible refine (awake_any _).mono ?_); rintro e w1 ⟨rfl, hb⟩; have B1 := Lib.hid hb; clear hb)
    | (go_at_call 6; (with_reducible refine (HA.out _).mono ?_); rintro e w' ⟨rfl, rfl⟩)
    | (go_at_call 7; (with_reducible refine (HB.out _).mono ?_); rintro e w' ⟨rfl, rfl⟩)
    | (go_at_call 8; (with_reducible refine (HC.out _).mono ?_); rintro e w' ⟨rfl, rfl⟩)
    | (go_at_call 9; (with_reducible refine (HD.out _).mono ?_); rintro e w' ⟨rfl, rfl⟩)
    | (go_at_call 10; (with_reducible refine (HE.out _).mono ?_); rintro e w2 ⟨rfl, hb⟩; have B2 := Lib.hid (B1.out.trans (hb.mono B1.out.size)); clear hb)
    | (go_at_call 11; (with_reducible refine (HF.out _).mono ?_); rintro e w' ⟨rfl, rfl⟩)
    | (go_at_call 12; (with_reducible refine (P4.out _).mono ?_); rintro e w3 ⟨rfl, hb⟩; have B3 := Lib.hid (B2.out.trans (hb.mono B2.out.size)); clear hb)
    | (go_at_call 8; (with_reducible refine (K4.out _).mono ?_); rintro e w' ⟨rfl, rfl⟩)
    | (go_at_call 13; (with_reducible refine (P2.out _).mono ?_); rintro e w4 ⟨rfl, hb⟩; have B4 := Lib.hid (B3.out.trans (hb.mono B3.out.size)); clear hb)
    | (go_at_call 6; (with_reducible refine (K2.out _).mono ?_); rintro e w' ⟨rfl, rfl⟩)
    | (go_at_call 12; (with_reducible refine (PN.out _).mono ?_); rintro e w5 ⟨rfl, hb⟩; have B5 := Lib.hid (B4.out.trans (hb.mono B4.out.size)); clear hb)
    | (go_at_call 14; (with_reducible refine (QN.out _).mono ?_); rintro e w6 ⟨rfl, hb⟩; have B6 := Lib.hid (B5.out.trans (hb.mono B5.out.size)); clear hb)
    | (go_at_call 13; (with_reducible refine (PM.out _).mono ?_); rintro e w7 ⟨rfl, hb⟩; have B7 := Lib.hid (B6.out.trans (hb.mono B6.out.size)); clear hb)
    | (go_at_call 14; (with_reducible refine (QM.out _).mono ?_); rintro e w8 ⟨rfl, hb⟩; have B8 := Lib.hid (B7.out.trans (hb.mono B7.out.size)); clear hb))
  go_ret
  exact ⟨by simp, B8.out⟩
theorem law_numbers (s : ByteArray) (a n : Int) (w : World) (ha : a < 9223372036854775808) : Calls Try.prog 3 #[.string s, .int .i64 a, .int .i64 n] w fun e w' => e = .returned (.bool true) ∧ Below w.heap.size w w' := by
  rcases Nat.lt_or_ge 100 s.size with h | h
  · exact numbers_long s a n w h
  · exact numbers_main s a n w h ha
end Go.Proofs.Ytcmgknbngogokaa
