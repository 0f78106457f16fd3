/- Proved here: how far a point is from the one ahead, as bytes: in the program and in the document. Condition: as told at each. -/
import Derived.Test.YtcpphbogadjgfaaRa
namespace Go.Proofs.Ytcpphbogadjgfaa
open Go.RowKit

/-- A number of two bytes, with its sign. -/
def u2 (n : Int) : List UInt8 := byt 2 (n % 65536).toNat
/-- An x or y that is so far from the one ahead: its bytes, its bits in a flag, and whether it may be. -/
def stB (d : Int) : List UInt8 := if d = 0 then [] else if -256 < d ∧ d < 256 then byt 1 d.natAbs else u2 d
def stF (d : Int) (sh sm : Nat) : Nat := if d = 0 then sm else if 0 < d ∧ d < 256 then sh + sm else if -256 < d ∧ d < 0 then sh else 0
def okS (d : Int) : Prop := -32768 ≤ d ∧ d ≤ 32767
instance (d : Int) : Decidable (okS d) := inferInstanceAs (Decidable (_ ∧ _))
theorem u2_len (n : Int) : (u2 n).length = 2 := byt_len _ _
theorem stB_len (d : Int) : (stB d).length ≤ 2 := by
  unfold stB
  split
  · simp
  · split
    · rw [byt_len]; omega
    · rw [u2_len]; omega
theorem wrap_u16i (n : Int) : IntKind.u16.wrap n = (((n % 65536).toNat : Nat) : Int) := by rw [IntKind.wrap_u16]; omega
theorem step_any (d : Int) (w : World) : Calls Try.prog 33 #[.int .i64 d] w fun e w' => e = .returned (.bool (decide (okS d))) ∧ w = w' := by
  by_cases h1 : -32768 ≤ d
  · by_cases h2 : d ≤ 32767
    · rw [decide_eq_true (show okS d from ⟨h1, h2⟩)]
      go_enter Try.func33, Try.ntmps33
      go_wp2_with fail
      go_ret
      exact ⟨rfl, rfl⟩
    · rw [decide_eq_false (fun h : okS d => h2 h.2)]
      go_enter Try.func33, Try.ntmps33
      go_wp2_with fail
      go_ret
      exact ⟨rfl, rfl⟩
  · rw [decide_eq_false (fun h : okS d => h1 h.1)]
    go_enter Try.func33, Try.ntmps33
    go_wp2_with fail
    go_ret
    exact ⟨rfl, rfl⟩
/-- Does one byte tell it? -/
def isSh (d : Int) : Prop := d ≠ 0 ∧ -256 < d ∧ d < 256
instance (d : Int) : Decidable (isSh d) := inferInstanceAs (Decidable (_ ∧ _))
theorem short_any (d : Int) (w : World) : Calls Try.prog 47 #[.int .i64 d] w fun e w' => e = .returned (.bool (decide (isSh d))) ∧ w = w' := by
  by_cases h0 : d = 0
  · subst h0
    go_enter Try.func47, Try.ntmps47
    go_wp2_with fail
    go_ret
    exact ⟨rfl, rfl⟩
  · have e0 : (d != 0) = true := by simp [h0]
    by_cases h1 : -255 ≤ d
    · by_cases h2 : d ≤ 255
      · rw [decide_eq_true (show isSh d from ⟨h0, by omega, by omega⟩)]
        clear h0
        go_enter Try.func47, Try.ntmps47
        go_wp2_with fail
        go_ret
        exact ⟨rfl, rfl⟩
      · rw [decide_eq_false (fun h : isSh d => by have := h.2; omega)]
        clear h0
        go_enter Try.func47, Try.ntmps47
        go_wp2_with fail
        go_ret
        exact ⟨rfl, rfl⟩
    · rw [decide_eq_false (fun h : isSh d => by have := h.2; omega)]
      clear h0
      go_enter Try.func47, Try.ntmps47
      go_wp2_with fail
      go_ret
      exact ⟨rfl, rfl⟩
theorem bits_any (d : Int) (sh sm : Nat) (w : World) (h : (sh = 2 ∧ sm = 16) ∨ (sh = 4 ∧ sm = 32)) : Calls Try.prog 34 #[.int .i64 d, .int .u8 (sh : Int), .int .u8 (sm : Int)] w fun e w' => e = .returned (.int .u8 (stF d sh sm : Int)) ∧ w = w' := by
  have hor : bits .or .u8 (sh : Int) (sm : Int) = ((sh + sm : Nat) : Int) := by rcases h with ⟨rfl, rfl⟩ | ⟨rfl, rfl⟩ <;> decide
  have CS := Lib.hid (fun W => short_any d W)
  obtain ⟨t, ht⟩ : ∃ t, t = sh + sm := ⟨_, rfl⟩
  rw [← ht] at hor
  unfold stF
  rw [← ht]
  by_cases h0 : d = 0
  · subst h0
    rw [if_pos rfl]
    clear ht h
    go_enter Try.func34, Try.ntmps34
    go_wp2_with fail
    go_ret
    exact ⟨rfl, rfl⟩
  · rw [if_neg h0]
    have e0 : (d == 0) = false := by simp [h0]
    by_cases h1 : -256 < d ∧ d < 256
    · rw [decide_eq_true (show isSh d from ⟨h0, h1⟩)] at CS
      by_cases h2 : 0 < d
      · rw [if_pos ⟨h2, h1.2⟩]
        have e2 : decide (0 < d) = true := decide_eq_true h2
        clear ht h h0 h1
        go_enter Try.func34, Try.ntmps34
        go_wp2_with (go_at_call 47; (with_reducible refine (CS.out _).mono ?_); rintro e w1 ⟨rfl, rfl⟩)
        go_ret
        exact ⟨rfl, rfl⟩
      · rw [if_neg (fun h => h2 h.1), if_pos ⟨h1.1, by omega⟩]
        have e2 : decide (0 < d) = false := decide_eq_false h2
        clear ht h h0 h1
        go_enter Try.func34, Try.ntmps34
        go_wp2_with (go_at_call 47; (with_reducible refine (CS.out _).mono ?_); rintro e w1 ⟨rfl, rfl⟩)
        go_ret
        exact ⟨rfl, rfl⟩
    · rw [decide_eq_false (fun h : isSh d => h1 h.2)] at CS
      rw [if_neg (by omega), if_neg (by omega)]
      clear ht h h0 h1
      go_enter Try.func34, Try.ntmps34
      go_wp2_with (go_at_call 47; (with_reducible refine (CS.out _).mono ?_); rintro e w1 ⟨rfl, rfl⟩)
      go_ret
      exact ⟨rfl, rfl⟩
theorem unit2_any (n : Int) (w : World) : Calls Try.prog 38 #[.int .i64 n] w fun e w' => e = .returned (.string ⟨(u2 n).toArray⟩) ∧ Below w.heap.size w w' := by
  have e1 := wrap_u16i n
  unfold u2
  obtain ⟨m, hm⟩ : ∃ m, m = (n % 65536).toNat := ⟨_, rfl⟩
  rw [← hm] at e1 ⊢
  have CP := Lib.hid (fun W => p16_any m W (by omega))
  clear hm
  go_enter Try.func38, Try.ntmps38
  go_wp2_with (go_at_call 16; (with_reducible refine (CP.out _).mono ?_); rintro e w1 ⟨rfl, hb⟩; have HB := Lib.hid hb; clear hb)
  go_ret
  exact ⟨rfl, HB.out⟩
theorem byt_one (n : Nat) (h : n < 256) : byt 1 n = [UInt8.ofNat n] := by
  simp only [byt]
  rw [Nat.mod_eq_of_lt h]
  rfl
set_option maxRecDepth 100000 in
set_option maxHeartbeats 2000000 in
theorem tstep_any (d : Int) (w : World) (h : -100000 ≤ d ∧ d ≤ 100000) : Calls Try.prog 36 #[.int .i64 d] w fun e w' => e = .returned (.string ⟨(stB d).toArray⟩) ∧ Below w.heap.size w w' := by
  have CS := Lib.hid (fun W => short_any d W)
  have CU := Lib.hid (fun W => unit2_any d W)
  have HB0 := Lib.hid (Below.refl w.heap.size w)
  by_cases h0 : d = 0
  · subst h0
    go_enter Try.func36, Try.ntmps36
    go_wp2_with fail
    go_ret
    exact ⟨rfl, HB0.out⟩
  · have e0 : (d == 0) = false := by simp [h0]
    by_cases h1 : -256 < d ∧ d < 256
    · rw [decide_eq_true (show isSh d from ⟨h0, h1⟩)] at CS
      have eS : stB d = [UInt8.ofNat d.natAbs] := by unfold stB; rw [if_neg h0, if_pos h1, byt_one _ (by omega)]
      obtain ⟨a, ha⟩ : ∃ a, a = d.natAbs := ⟨_, rfl⟩
      have e1 : IntKind.i64.wrap (-d) = -d := i64_in _ (by omega)
      have e2 : max d (-d) = (a : Int) := by omega
      have e3 : IntKind.u8.wrap (a : Int) = (a : Int) := wrap_u8n a (by omega)
      have hc := conv_new w [UInt8.ofNat a] _ (one_u8 a (by omega)) _ rfl
      rw [← ha] at eS
      obtain ⟨D, hD⟩ : ∃ D : ByteArray, D = ⟨([UInt8.ofNat a]).toArray⟩ := ⟨_, rfl⟩
      rw [eS, ← hD]
      rw [← hD] at hc
      have hc : (convert 67 9 (.slice (some ⟨w.heap.size, 0, none⟩) 1 1)).run Try.prog (w.alloc (.cells #[.int .u8 (a : Int)] 5)) = .ok (.string D) (w.alloc (.cells #[.int .u8 (a : Int)] 5)) := hc
      clear ha hD h0 h1 h eS
      go_enter Try.func36, Try.ntmps36
      go_wp2_with (go_at_call 47; (with_reducible refine (CS.out _).mono ?_); rintro e w1 ⟨rfl, rfl⟩)
      all_goals
        go_ret
        exact ⟨rfl, HB0.out.alloc (Nat.le_refl _) _⟩
    · rw [decide_eq_false (fun h : isSh d => h1 h.2)] at CS
      have eS : stB d = u2 d := by unfold stB; rw [if_neg h0, if_neg h1]
      rw [eS]
      clear h0 h1 h eS
      go_enter Try.func36, Try.ntmps36
      go_wp2_with (first
        | (go_at_call 47; (with_reducible refine (CS.out _).mono ?_); rintro e w1 ⟨rfl, rfl⟩)
        | (go_at_call 38; (with_reducible refine (CU.out _).mono ?_); rintro e w1 ⟨rfl, hb⟩; have HB := Lib.hid hb; clear hb))
      go_ret
      exact ⟨rfl, HB.out⟩
end Go.Proofs.Ytcpphbogadjgfaa
