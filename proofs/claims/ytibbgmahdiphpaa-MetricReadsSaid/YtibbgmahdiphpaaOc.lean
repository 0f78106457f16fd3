/- Proved here: what U16 and U32 answer, and the document's Cut, U16 and U32. Condition: a text of at most a billion bytes, places of 64 bits. -/
import Derived.Test.YtibbgmahdiphpaaOb
namespace Go.Proofs.Ytibbgmahdiphpaa
open Go.RowKit

theorem bv_le (l : List UInt8) (k : Nat) (h : l.length ≤ k) : bv l 0 < 256 ^ k := by
  have h1 := bv_lt l 0
  have h2 : 256 ^ l.length ≤ 256 ^ k := Nat.pow_le_pow_right (by decide) h
  omega
theorem wrap_u16n (n : Nat) (h : n < 65536) : IntKind.u16.wrap (n : Int) = (n : Int) := by rw [IntKind.wrap_u16]; omega
theorem wrap_u8n (n : Nat) (h : n < 256) : IntKind.u8.wrap (n : Int) = (n : Int) := by rw [IntKind.wrap_u8]; omega
set_option maxHeartbeats 2000000 in
theorem u16_any (s : ByteArray) (a : Int) (w : World) (hs : s.size ≤ 1000000000) (ha : a < 9223372036854775808) :
    Calls Try.prog 18 #[.string s, .int .i64 a] w fun e w' => e = .returned (.tuple #[.int .u16 (bv (cutL s.data.toList a 2) 0 : Int), .int .i64 (cutE s.data.toList a 2)]) ∧ w = w' := by
  have hsz : s.data.toList.length = s.size := by simp
  have hh := fun W => has_any s a 2 W hs ha
  unfold cutL cutE
  rw [hsz]
  by_cases h : Has s.size a 2
  · rw [if_pos h, if_pos h]
    rw [decide_eq_true h] at hh
    obtain ⟨h0, h1, h2⟩ := h
    have hsub := fun W => sub_run s a (a + 2) h0 (by omega) (by omega) W
    rw [show (a + 2 - a).toNat = 2 by omega] at hsub
    have hwr := i64_in (a + 2) (by omega)
    have hpl := piece_len_le s.data.toList a.toNat 2
    obtain ⟨D, hD⟩ : ∃ D : ByteArray, D = ⟨(piece s.data.toList a.toNat 2).toArray⟩ := ⟨_, rfl⟩
    have hn := fun W => num_any D W (by rw [hD]; simp only; omega)
    rw [← hD] at hsub
    have hDl : D.data.toList = piece s.data.toList a.toNat 2 := by rw [hD]
    rw [hDl] at hn
    have hlt := bv_le _ 2 hpl
    show Calls _ _ _ _ fun e w' => e = .returned (.tuple #[.int .u16 (bv (piece s.data.toList a.toNat 2) 0 : Int), .int .i64 0]) ∧ w = w'
    obtain ⟨m, hm⟩ : ∃ m, m = bv (piece s.data.toList a.toNat 2) 0 := ⟨_, rfl⟩
    rw [← hm] at hn hlt ⊢
    have hwm := wrap_u16n m hlt
    have HH := Lib.hid hh
    have HN := Lib.hid hn
    clear hD hDl hm hpl hh hsz h0 h1 h2 hn
    go_enter Try.func18, Try.ntmps18
    go_wp2_with (first
      | (go_at_call 34; (with_reducible refine (HH.out _).mono ?_); rintro e w' ⟨rfl, rfl⟩)
      | (go_at_call 35; (with_reducible refine (HN.out _).mono ?_); rintro e w' ⟨rfl, rfl⟩))
    go_ret2
    exact ⟨rfl, rfl⟩
  · rw [if_neg h, if_neg h]
    rw [decide_eq_false h] at hh
    have HH := Lib.hid hh
    clear hh hsz h
    go_enter Try.func18, Try.ntmps18
    go_wp2_with (go_at_call 34; (with_reducible refine (HH.out _).mono ?_); rintro e w' ⟨rfl, rfl⟩)
    go_ret2
    exact ⟨rfl, rfl⟩
set_option maxHeartbeats 2000000 in
theorem u32_any (s : ByteArray) (a : Int) (w : World) (hs : s.size ≤ 1000000000) (ha : a < 9223372036854775808) :
    Calls Try.prog 39 #[.string s, .int .i64 a] w fun e w' => e = .returned (.tuple #[.int .u32 (bv (cutL s.data.toList a 4) 0 : Int), .int .i64 (cutE s.data.toList a 4)]) ∧ w = w' := by
  have hsz : s.data.toList.length = s.size := by simp
  have hh := fun W => has_any s a 4 W hs ha
  unfold cutL cutE
  rw [hsz]
  by_cases h : Has s.size a 4
  · rw [if_pos h, if_pos h]
    rw [decide_eq_true h] at hh
    obtain ⟨h0, h1, h2⟩ := h
    have hsub := fun W => sub_run s a (a + 4) h0 (by omega) (by omega) W
    rw [show (a + 4 - a).toNat = 4 by omega] at hsub
    have hwr := i64_in (a + 4) (by omega)
    have hpl := piece_len_le s.data.toList a.toNat 4
    obtain ⟨D, hD⟩ : ∃ D : ByteArray, D = ⟨(piece s.data.toList a.toNat 4).toArray⟩ := ⟨_, rfl⟩
    have hn := fun W => num_any D W (by rw [hD]; simp only; omega)
    rw [← hD] at hsub
    have hDl : D.data.toList = piece s.data.toList a.toNat 4 := by rw [hD]
    rw [hDl] at hn
    show Calls _ _ _ _ fun e w' => e = .returned (.tuple #[.int .u32 (bv (piece s.data.toList a.toNat 4) 0 : Int), .int .i64 0]) ∧ w = w'
    obtain ⟨m, hm⟩ : ∃ m, m = bv (piece s.data.toList a.toNat 4) 0 := ⟨_, rfl⟩
    rw [← hm] at hn ⊢
    have HH := Lib.hid hh
    have HN := Lib.hid hn
    clear hD hDl hm hpl hh hsz h0 h1 h2 hn
    go_enter Try.func39, Try.ntmps39
    go_wp2_with (first
      | (go_at_call 34; (with_reducible refine (HH.out _).mono ?_); rintro e w' ⟨rfl, rfl⟩)
      | (go_at_call 35; (with_reducible refine (HN.out _).mono ?_); rintro e w' ⟨rfl, rfl⟩))
    go_ret2
    exact ⟨rfl, rfl⟩
  · rw [if_neg h, if_neg h]
    rw [decide_eq_false h] at hh
    have HH := Lib.hid hh
    clear hh hsz h
    go_enter Try.func39, Try.ntmps39
    go_wp2_with (go_at_call 34; (with_reducible refine (HH.out _).mono ?_); rintro e w' ⟨rfl, rfl⟩)
    go_ret2
    exact ⟨rfl, rfl⟩
set_option maxHeartbeats 2000000 in
theorem rcut_any (s : ByteArray) (a n : Int) (w : World) (hs : s.size ≤ 1000000000) (ha : a < 9223372036854775808) :
    Calls Try.prog 37 #[.string s, .int .i64 a, .int .i64 n] w fun e w' => e = .returned (.tuple #[.string ⟨(cutL s.data.toList a n).toArray⟩, .int .i64 (cutE s.data.toList a n)]) ∧ w = w' := by
  have hsz : s.data.toList.length = s.size := by simp
  unfold cutL cutE
  rw [hsz]
  by_cases h : Has s.size a n
  · rw [if_pos h, if_pos h]
    obtain ⟨h0, h1, h2⟩ := h
    have hsub := fun W => sub_run s a (a + n) h0 (by omega) (by omega) W
    rw [show a + n - a = n by omega] at hsub
    have hwr := i64_in (a + n) (by omega)
    have hwr2 := i64_in ((s.size : Int) - a) (by omega)
    obtain ⟨D, hD⟩ : ∃ D : ByteArray, D = ⟨(piece s.data.toList a.toNat n.toNat).toArray⟩ := ⟨_, rfl⟩
    rw [← hD] at hsub ⊢
    have d1 : decide (a < 0) = false := decide_eq_false (by omega)
    have d2 : decide (n < 0) = false := decide_eq_false (by omega)
    have d3 : decide ((s.size : Int) < a) = false := decide_eq_false (by omega)
    have d4 : decide ((s.size : Int) - a < n) = false := decide_eq_false (by omega)
    clear hD hsz h0 h1 h2
    go_enter Try.func37, Try.ntmps37
    go_wp2_with fail
    go_ret2
    exact ⟨rfl, rfl⟩
  · rw [if_neg h, if_neg h]
    by_cases h0 : 0 ≤ a
    · have d1 : decide (a < 0) = false := decide_eq_false (by omega)
      by_cases h1 : 0 ≤ n
      · have d2 : decide (n < 0) = false := decide_eq_false (by omega)
        have hwr2 := i64_in ((s.size : Int) - a) (by omega)
        by_cases h2 : (s.size : Int) < a
        · have d3 : decide ((s.size : Int) < a) = true := decide_eq_true h2
          clear hsz h
          go_enter Try.func37, Try.ntmps37
          go_wp2_with fail
          go_ret2
          exact ⟨rfl, rfl⟩
        · have d3 : decide ((s.size : Int) < a) = false := decide_eq_false h2
          have d4 : decide ((s.size : Int) - a < n) = true := decide_eq_true (Int.not_le.1 (fun h5 => h ⟨h0, h1, h5⟩))
          clear hsz h
          go_enter Try.func37, Try.ntmps37
          go_wp2_with fail
          go_ret2
          exact ⟨rfl, rfl⟩
      · have d2 : decide (n < 0) = true := decide_eq_true (by omega)
        clear hsz h
        go_enter Try.func37, Try.ntmps37
        go_wp2_with fail
        go_ret2
        exact ⟨rfl, rfl⟩
    · have d1 : decide (a < 0) = true := decide_eq_true (by omega)
      clear hsz h
      go_enter Try.func37, Try.ntmps37
      go_wp2_with fail
      go_ret2
      exact ⟨rfl, rfl⟩
set_option maxHeartbeats 2000000 in
theorem ru16_any (s : ByteArray) (a : Int) (w : World) (hs : s.size ≤ 1000000000) (ha : a < 9223372036854775808) :
    Calls Try.prog 20 #[.string s, .int .i64 a] w fun e w' => e = .returned (.tuple #[.int .u16 (bv (cutL s.data.toList a 2) 0 : Int), .int .i64 (cutE s.data.toList a 2)]) ∧ w = w' := by
  have hh := fun W => rcut_any s a 2 W hs ha
  have hl : (cutL s.data.toList a 2).length ≤ 2 := cutL_len s.data.toList a 2
  obtain ⟨D, hD⟩ : ∃ D : ByteArray, D = ⟨(cutL s.data.toList a 2).toArray⟩ := ⟨_, rfl⟩
  have hn := fun W => rnum_any D W (by rw [hD]; simp only; omega)
  have hDl : D.data.toList = cutL s.data.toList a 2 := by rw [hD]
  have hlt := bv_le _ 2 hl
  rw [← hD] at hh
  rw [hDl] at hn
  obtain ⟨m, hm⟩ : ∃ m, m = bv (cutL s.data.toList a 2) 0 := ⟨_, rfl⟩
  obtain ⟨c, hc⟩ : ∃ c, c = cutE s.data.toList a 2 := ⟨_, rfl⟩
  rw [← hm] at hn
  show Calls _ _ _ _ fun e w' => e = .returned (.tuple #[.int .u16 (bv (cutL s.data.toList a 2) 0 : Int), .int .i64 (cutE s.data.toList a 2)]) ∧ w = w'
  rw [← hc] at hh ⊢
  have hlt : m < 65536 := by rw [hm]; exact hlt
  rw [← hm]
  have hwm := wrap_u16n m hlt
  have HH := Lib.hid hh
  have HN := Lib.hid hn
  clear hD hDl hm hc hh hn
  go_enter Try.func20, Try.ntmps20
  go_wp2_with (first
    | (go_at_call 37; (with_reducible refine (HH.out _).mono ?_); rintro e w' ⟨rfl, rfl⟩)
    | (go_at_call 38; (with_reducible refine (HN.out _).mono ?_); rintro e w' ⟨rfl, rfl⟩))
  go_ret2
  exact ⟨rfl, rfl⟩
set_option maxHeartbeats 2000000 in
theorem ru32_any (s : ByteArray) (a : Int) (w : World) (hs : s.size ≤ 1000000000) (ha : a < 9223372036854775808) :
    Calls Try.prog 23 #[.string s, .int .i64 a] w fun e w' => e = .returned (.tuple #[.int .u32 (bv (cutL s.data.toList a 4) 0 : Int), .int .i64 (cutE s.data.toList a 4)]) ∧ w = w' := by
  have hh := fun W => rcut_any s a 4 W hs ha
  have hl : (cutL s.data.toList a 4).length ≤ 4 := cutL_len s.data.toList a 4
  obtain ⟨D, hD⟩ : ∃ D : ByteArray, D = ⟨(cutL s.data.toList a 4).toArray⟩ := ⟨_, rfl⟩
  have hn := fun W => rnum_any D W (by rw [hD]; simp only; omega)
  have hDl : D.data.toList = cutL s.data.toList a 4 := by rw [hD]
  rw [← hD] at hh
  rw [hDl] at hn
  obtain ⟨m, hm⟩ : ∃ m, m = bv (cutL s.data.toList a 4) 0 := ⟨_, rfl⟩
  obtain ⟨c, hc⟩ : ∃ c, c = cutE s.data.toList a 4 := ⟨_, rfl⟩
  rw [← hm] at hn
  show Calls _ _ _ _ fun e w' => e = .returned (.tuple #[.int .u32 (bv (cutL s.data.toList a 4) 0 : Int), .int .i64 (cutE s.data.toList a 4)]) ∧ w = w'
  rw [← hc] at hh ⊢
  rw [← hm]
  have HH := Lib.hid hh
  have HN := Lib.hid hn
  clear hD hDl hm hc hh hn
  go_enter Try.func23, Try.ntmps23
  go_wp2_with (first
    | (go_at_call 37; (with_reducible refine (HH.out _).mono ?_); rintro e w' ⟨rfl, rfl⟩)
    | (go_at_call 38; (with_reducible refine (HN.out _).mono ?_); rintro e w' ⟨rfl, rfl⟩))
  go_ret2
  exact ⟨rfl, rfl⟩
end Go.Proofs.Ytibbgmahdiphpaa
