/- Proved here: that the three statements' functions answer true, over every text, place and number. Condition: numbers of 64 bits. -/
import Derived.Test.YtfniickepoolkaaCd
namespace Go.Proofs.Ytfniickepoolkaa
open Go.RowKit

theorem aw1 (W : World) : Calls Try.prog 7 #[.string ⟨#[49, 50, 51, 52, 53, 54, 55, 56, 57]⟩] W fun e w' => e = .returned (.int .u32 3421780262) ∧ W = w' := by
  have h := crc_any ⟨#[49, 50, 51, 52, 53, 54, 55, 56, 57]⟩ W (by decide)
  rw [show crc [49, 50, 51, 52, 53, 54, 55, 56, 57] = 3421780262 by decide +kernel] at h
  exact h
theorem aw2 (W : World) : Calls Try.prog 8 #[.string ⟨#[49, 50, 51, 52, 53, 54, 55, 56, 57]⟩] W fun e w' => e = .returned (.int .u32 3421780262) ∧ Below W.heap.size W w' := by
  have h := rcrc_any ⟨#[49, 50, 51, 52, 53, 54, 55, 56, 57]⟩ W (by decide)
  rw [show crc [49, 50, 51, 52, 53, 54, 55, 56, 57] = 3421780262 by decide +kernel] at h
  exact h
theorem aw3 (W : World) : Calls Try.prog 7 #[.string ⟨#[97]⟩] W fun e w' => e = .returned (.int .u32 3904355907) ∧ W = w' := by
  have h := crc_any ⟨#[97]⟩ W (by decide)
  rw [show crc [97] = 3904355907 by decide +kernel] at h
  exact h
theorem aw4 (W : World) : Calls Try.prog 9 #[.string ⟨#[1, 0, 0, 0, 2]⟩] W fun e w' => e = .returned (.int .u32 50331648) ∧ W = w' := by
  have h := table_any ⟨#[1, 0, 0, 0, 2]⟩ W (by decide)
  rw [show tb [1, 0, 0, 0, 2] 0 0 = 50331648 by decide +kernel] at h
  exact h
set_option maxHeartbeats 2000000 in
theorem awake_any (w : World) : Calls Try.prog 6 #[] w fun e w' => e = .returned (.bool true) ∧ Below w.heap.size w w' := by
  go_enter Try.func6, Try.ntmps6
  go_wp2_with (first
    | (go_at_call 7; (with_reducible refine (aw1 _).mono ?_); rintro e w1 ⟨rfl, rfl⟩)
    | (go_at_call 8; (with_reducible refine (aw2 _).mono ?_); rintro e w1 ⟨rfl, hb⟩; have B1 := Lib.hid hb; clear hb)
    | (go_at_call 7; (with_reducible refine (aw3 _).mono ?_); rintro e w1 ⟨rfl, rfl⟩)
    | (go_at_call 9; (with_reducible refine (aw4 _).mono ?_); rintro e w1 ⟨rfl, rfl⟩))
  go_ret
  exact ⟨rfl, B1.out⟩
set_option maxHeartbeats 2000000 in
theorem law_crcs (s : ByteArray) (w : World) : Calls Try.prog 3 #[.string s] w fun e w' => e = .returned (.bool true) ∧ Below w.heap.size w w' := by
  have hlen : s.data.toList.length = s.size := by simp
  rcases Nat.lt_or_ge 300 s.size with h | h
  · have hd : decide (300 < (s.size : Int)) = true := decide_eq_true (by omega)
    clear h hlen
    go_enter Try.func3, Try.ntmps3
    go_wp2_with (go_at_call 6; (with_reducible refine (awake_any _).mono ?_); rintro e w1 ⟨rfl, hb⟩; have B := Lib.hid hb; clear hb)
    go_ret
    exact ⟨rfl, B.out⟩
  · have hd : decide (300 < (s.size : Int)) = false := decide_eq_false (by omega)
    have HA := Lib.hid (fun W => crc_any s W (by omega))
    have HB := Lib.hid (fun W => rcrc_any s W (by omega))
    have HC := Lib.hid (fun W => table_any s W (by omega))
    have HD := Lib.hid (fun W => rtable_any s W (by omega))
    obtain ⟨x, hx⟩ : ∃ x, x = crc s.data.toList := ⟨_, rfl⟩
    obtain ⟨y, hy⟩ : ∃ y, y = tb s.data.toList 0 0 := ⟨_, rfl⟩
    rw [← hx] at HA HB
    rw [← hy] at HC HD
    clear h hlen hx hy
    go_enter Try.func3, Try.ntmps3
    go_wp2_with (first
      | (go_at_call 6; (with_reducible refine (awake_any _).mono ?_); rintro e w1 ⟨rfl, hb⟩; have B := Lib.hid hb; clear hb)
      | (go_at_call 7; (with_reducible refine (HA.out _).mono ?_); rintro e w' ⟨rfl, rfl⟩)
      | (go_at_call 8; (with_reducible refine (HB.out _).mono ?_); rintro e w2 ⟨rfl, hb⟩; have B2 := Lib.hid (B.out.trans (hb.mono B.out.size)); clear hb)
      | (go_at_call 9; (with_reducible refine (HC.out _).mono ?_); rintro e w' ⟨rfl, rfl⟩)
      | (go_at_call 10; (with_reducible refine (HD.out _).mono ?_); rintro e w' ⟨rfl, rfl⟩))
    go_ret
    exact ⟨by simp, B2.out⟩
set_option maxRecDepth 100000 in
set_option maxHeartbeats 2000000 in
theorem joins_long (s t : ByteArray) (n : Int) (w : World) (h : 300 < s.size ∨ 300 < t.size) : Calls Try.prog 4 #[.string s, .string t, .int .i64 n] w fun e w' => e = .returned (.bool true) ∧ Below w.heap.size w w' := by
  by_cases h1 : 300 < s.size
  · have hd : decide (300 < (s.size : Int)) = true := decide_eq_true (by omega)
    clear h h1
    go_enter Try.func4, Try.ntmps4
    go_wp2_with (go_at_call 6; (with_reducible refine (awake_any _).mono ?_); rintro e w1 ⟨rfl, hb⟩; have B := Lib.hid hb; clear hb)
    go_ret
    exact ⟨rfl, B.out⟩
  · have hd : decide (300 < (s.size : Int)) = false := decide_eq_false (by omega)
    have hd2 : decide (300 < (t.size : Int)) = true := decide_eq_true (by omega)
    clear h h1
    go_enter Try.func4, Try.ntmps4
    go_wp2_with (go_at_call 6; (with_reducible refine (awake_any _).mono ?_); rintro e w1 ⟨rfl, hb⟩; have B := Lib.hid hb; clear hb)
    go_ret
    exact ⟨rfl, B.out⟩
set_option maxRecDepth 100000 in
set_option maxHeartbeats 2000000 in
theorem joins_main (s t : ByteArray) (n : Int) (w : World) (h1 : s.size ≤ 300) (h2 : t.size ≤ 300) : Calls Try.prog 4 #[.string s, .string t, .int .i64 n] w fun e w' => e = .returned (.bool true) ∧ Below w.heap.size w w' := by
  have l1 : s.data.toList.length = s.size := by simp
  have l2 : t.data.toList.length = t.size := by simp
  have l3 : (s ++ t).data.toList = s.data.toList ++ t.data.toList := by simp
  have hd : decide (300 < (s.size : Int)) = false := decide_eq_false (by omega)
  have hd2 : decide (300 < (t.size : Int)) = false := decide_eq_false (by omega)
  have HA := Lib.hid (fun W => crc_any s W (by omega))
  have HB := Lib.hid (fun W => crc_any t W (by omega))
  have HC := Lib.hid (fun W => rcrc_any (s ++ t) W (by rw [l3, List.length_append]; omega))
  have ha := crc_lt s.data.toList
  have hb := crc_lt t.data.toList
  have HJ := Lib.hid (fun W => join_any (crc s.data.toList) (crc t.data.toList) t.size W ha hb (by omega))
  rw [l3, crc_app, l2] at HC
  obtain ⟨x, hx⟩ : ∃ x, x = crc s.data.toList := ⟨_, rfl⟩
  obtain ⟨y, hy⟩ : ∃ y, y = crc t.data.toList := ⟨_, rfl⟩
  rw [← hx] at HA HC HJ
  rw [← hy] at HB HC HJ
  obtain ⟨z, hz⟩ : ∃ z, z = mvn (8 * t.size) x ^^^ y := ⟨_, rfl⟩
  rw [← hz] at HC HJ
  have HO := Lib.hid (fun W h => join_out x y n W h)
  have hl : ¬ 9223372036854775807 < s.size + t.size := by omega
  clear l1 l2 l3 hx hy hz ha hb h1 h2
  by_cases hn : n < 0 ∨ 1048576 < n
  · have HN := Lib.hid (fun W => HO.out W hn)
    rcases hn with hn | hn
    · go_enter Try.func4, Try.ntmps4
      go_wp2_with (first
        | (go_at_call 6; (with_reducible refine (awake_any _).mono ?_); rintro e w1 ⟨rfl, hb⟩; have B := Lib.hid hb; clear hb)
        | (go_at_call 7; (with_reducible refine (HA.out _).mono ?_); rintro e w' ⟨rfl, rfl⟩)
        | (go_at_call 7; (with_reducible refine (HB.out _).mono ?_); rintro e w' ⟨rfl, rfl⟩)
        | (go_at_call 11; (with_reducible refine (HN.out _).mono ?_); rintro e w' ⟨rfl, rfl⟩)
        | (go_at_call 11; (with_reducible refine (HJ.out _).mono ?_); rintro e w' ⟨rfl, rfl⟩)
        | (go_at_call 8; (with_reducible refine (HC.out _).mono ?_); rintro e w2 ⟨rfl, hb⟩; have B2 := Lib.hid (B.out.trans (hb.mono B.out.size)); clear hb))
      go_ret
      exact ⟨by simp, B2.out⟩
    · have h0 : decide (n < 0) = false := decide_eq_false (by omega)
      have h1 : decide (1048576 < n) = true := decide_eq_true hn
      clear hn
      go_enter Try.func4, Try.ntmps4
      go_wp2_with (first
        | (go_at_call 6; (with_reducible refine (awake_any _).mono ?_); rintro e w1 ⟨rfl, hb⟩; have B := Lib.hid hb; clear hb)
        | (go_at_call 7; (with_reducible refine (HA.out _).mono ?_); rintro e w' ⟨rfl, rfl⟩)
        | (go_at_call 7; (with_reducible refine (HB.out _).mono ?_); rintro e w' ⟨rfl, rfl⟩)
        | (go_at_call 11; (with_reducible refine (HN.out _).mono ?_); rintro e w' ⟨rfl, rfl⟩)
        | (go_at_call 11; (with_reducible refine (HJ.out _).mono ?_); rintro e w' ⟨rfl, rfl⟩)
        | (go_at_call 8; (with_reducible refine (HC.out _).mono ?_); rintro e w2 ⟨rfl, hb⟩; have B2 := Lib.hid (B.out.trans (hb.mono B.out.size)); clear hb))
      go_ret
      exact ⟨by simp, B2.out⟩
  · have h0 : decide (n < 0) = false := decide_eq_false (by omega)
    have h1 : decide (1048576 < n) = false := decide_eq_false (by omega)
    clear hn HO
    go_enter Try.func4, Try.ntmps4
    go_wp2_with (first
      | (go_at_call 6; (with_reducible refine (awake_any _).mono ?_); rintro e w1 ⟨rfl, hb⟩; have B := Lib.hid hb; clear hb)
      | (go_at_call 7; (with_reducible refine (HA.out _).mono ?_); rintro e w' ⟨rfl, rfl⟩)
      | (go_at_call 7; (with_reducible refine (HB.out _).mono ?_); rintro e w' ⟨rfl, rfl⟩)
      | (go_at_call 11; (with_reducible refine (HJ.out _).mono ?_); rintro e w' ⟨rfl, rfl⟩)
      | (go_at_call 8; (with_reducible refine (HC.out _).mono ?_); rintro e w2 ⟨rfl, hb⟩; have B2 := Lib.hid (B.out.trans (hb.mono B.out.size)); clear hb))
    go_ret
    exact ⟨by simp, B2.out⟩
theorem law_joins (s t : ByteArray) (n : Int) (w : World) : Calls Try.prog 4 #[.string s, .string t, .int .i64 n] w fun e w' => e = .returned (.bool true) ∧ Below w.heap.size w w' := by
  by_cases h : 300 < s.size ∨ 300 < t.size
  · exact joins_long s t n w h
  · exact joins_main s t n w (by omega) (by omega)
end Go.Proofs.Ytfniickepoolkaa
