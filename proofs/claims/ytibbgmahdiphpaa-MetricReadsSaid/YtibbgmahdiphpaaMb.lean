/- Proved here: numbers at a place; what few, each, place and mayPlace answer; lists of the same numbers are the same. Condition: the bytes are there; a text of at most a billion bytes. -/
import Derived.Test.YtibbgmahdiphpaaMa
namespace Go.Proofs.Ytibbgmahdiphpaa
open Go.RowKit

theorem u16_in (s : ByteArray) (i : Int) (k : Nat) (hi : i = (k : Int)) (w : World) (hs : s.size ≤ 1000000000) (hk : k + 2 ≤ s.size) :
    Calls Try.prog 18 #[.string s, .int .i64 i] w fun e w' => e = .returned (.tuple #[.int .u16 (n2 s.data.toList k : Int), .int .i64 0]) ∧ w = w' := by
  have h16 := u16_any s i w hs (by omega)
  have hc := cutL_in (l := s.data.toList) (a := k) (n := 2) (by rw [size_list]; omega)
  rw [show ((2 : Nat) : Int) = 2 from rfl, ← hi] at hc
  rw [hc.1, hc.2] at h16
  exact h16
theorem ru16_in (s : ByteArray) (i : Int) (k : Nat) (hi : i = (k : Int)) (w : World) (hs : s.size ≤ 1000000000) (hk : k + 2 ≤ s.size) :
    Calls Try.prog 20 #[.string s, .int .i64 i] w fun e w' => e = .returned (.tuple #[.int .u16 (n2 s.data.toList k : Int), .int .i64 0]) ∧ w = w' := by
  have h16 := ru16_any s i w hs (by omega)
  have hc := cutL_in (l := s.data.toList) (a := k) (n := 2) (by rw [size_list]; omega)
  rw [show ((2 : Nat) : Int) = 2 from rfl, ← hi] at hc
  rw [hc.1, hc.2] at h16
  exact h16
theorem u32_in (s : ByteArray) (i : Int) (k : Nat) (hi : i = (k : Int)) (w : World) (hs : s.size ≤ 1000000000) (hk : k + 4 ≤ s.size) :
    Calls Try.prog 39 #[.string s, .int .i64 i] w fun e w' => e = .returned (.tuple #[.int .u32 (n4 s.data.toList k : Int), .int .i64 0]) ∧ w = w' := by
  have h16 := u32_any s i w hs (by omega)
  have hc := cutL_in (l := s.data.toList) (a := k) (n := 4) (by rw [size_list]; omega)
  rw [show ((4 : Nat) : Int) = 4 from rfl, ← hi] at hc
  rw [hc.1, hc.2] at h16
  exact h16
theorem ru32_in (s : ByteArray) (i : Int) (k : Nat) (hi : i = (k : Int)) (w : World) (hs : s.size ≤ 1000000000) (hk : k + 4 ≤ s.size) :
    Calls Try.prog 23 #[.string s, .int .i64 i] w fun e w' => e = .returned (.tuple #[.int .u32 (n4 s.data.toList k : Int), .int .i64 0]) ∧ w = w' := by
  have h16 := ru32_any s i w hs (by omega)
  have hc := cutL_in (l := s.data.toList) (a := k) (n := 4) (by rw [size_list]; omega)
  rw [show ((4 : Nat) : Int) = 4 from rfl, ← hi] at hc
  rw [hc.1, hc.2] at h16
  exact h16
/-- The place of number k in a table. -/
def plN (lg : Bool) (l : List UInt8) (k : Nat) : Nat := if lg then n4 l (4 * k) else 2 * n2 l (2 * k)
theorem plN_lt (lg : Bool) (l : List UInt8) (k : Nat) : plN lg l k < 4294967296 := by
  unfold plN
  have := n4_lt l (4 * k)
  have := n2_lt l (2 * k)
  split <;> omega
def eaN (lg : Bool) : Nat := if lg then 4 else 2
theorem few_any (h : Hd) (w : World) : Calls Try.prog 7 #[.agg #[.int .i64 h.em, .bool h.lg, .int .i64 h.gl, .int .i64 h.me, .int .i64 h.a1, .int .i64 h.a2, .int .i64 h.a3]] w fun e w' => e = .returned (.bool (decide (h.gl ≤ 100 ∨ 1024 < h.gl))) ∧ Below w.heap.size w w' := by
  have S := Lib.hid (MS.start w h)
  by_cases h1 : h.gl ≤ 100
  · rw [decide_eq_true (show h.gl ≤ 100 ∨ 1024 < h.gl from .inl h1)]
    have d1 : decide (h.gl ≤ 100) = true := decide_eq_true h1
    clear h1
    go_enter Try.func7, Try.ntmps7
    go_wp2_with fail
    go_ret
    exact ⟨rfl, S.out.bel⟩
  · have d1 : decide (h.gl ≤ 100) = false := decide_eq_false h1
    by_cases h2 : 1024 < h.gl
    · rw [decide_eq_true (show h.gl ≤ 100 ∨ 1024 < h.gl from .inr h2)]
      have d2 : decide (1024 < h.gl) = true := decide_eq_true h2
      clear h1 h2
      go_enter Try.func7, Try.ntmps7
      go_wp2_with fail
      go_ret
      exact ⟨rfl, S.out.bel⟩
    · rw [decide_eq_false (show ¬ (h.gl ≤ 100 ∨ 1024 < h.gl) by omega)]
      have d2 : decide (1024 < h.gl) = false := decide_eq_false h2
      clear h1 h2
      go_enter Try.func7, Try.ntmps7
      go_wp2_with fail
      go_ret
      exact ⟨rfl, S.out.bel⟩
theorem each_any (h : Hd) (w : World) : Calls Try.prog 21 #[.agg #[.int .i64 h.em, .bool h.lg, .int .i64 h.gl, .int .i64 h.me, .int .i64 h.a1, .int .i64 h.a2, .int .i64 h.a3]] w fun e w' => e = .returned (.int .i64 (eaN h.lg : Int)) ∧ Below w.heap.size w w' := by
  have S := Lib.hid (MS.start w h)
  obtain ⟨em, lg, gl, me, a1, a2, a3⟩ := h
  cases lg
  all_goals
    go_enter Try.func21, Try.ntmps21
    go_wp2_with fail
    go_ret
    exact ⟨rfl, S.out.bel⟩
theorem place_any (h : Hd) (s : ByteArray) (k : Nat) (w : World) (hs : s.size ≤ 1000000000) (hk : (k + 1) * eaN h.lg ≤ s.size) :
    Calls Try.prog 22 #[.agg #[.int .i64 h.em, .bool h.lg, .int .i64 h.gl, .int .i64 h.me, .int .i64 h.a1, .int .i64 h.a2, .int .i64 h.a3], .string s, .int .i64 (k : Int)] w fun e w' => e = .returned (.int .i64 (plN h.lg s.data.toList k : Int)) ∧ Below w.heap.size w w' := by
  have S := Lib.hid (MS.start w h)
  obtain ⟨em, lg, gl, me, a1, a2, a3⟩ := h
  cases lg
  · simp only [eaN, Bool.false_eq_true, if_false] at hk
    have e1 : IntKind.i64.wrap (2 * (k : Int)) = ((2 * k : Nat) : Int) := by rw [i64_in _ (by omega)]; omega
    obtain ⟨j, hj⟩ : ∃ j, j = 2 * k := ⟨_, rfl⟩
    have HC := Lib.hid (fun W => u16_in s (j : Int) j rfl W hs (by omega))
    have hp : plN false s.data.toList k = 2 * n2 s.data.toList j := by unfold plN; rw [hj]; rfl
    have hlt := n2_lt s.data.toList j
    rw [← hj] at e1
    show Calls _ _ _ _ fun e w' => e = .returned (.int .i64 (plN false s.data.toList k : Int)) ∧ Below w.heap.size w w'
    rw [hp]
    obtain ⟨n, hn⟩ : ∃ n, n = n2 s.data.toList j := ⟨_, rfl⟩
    rw [← hn] at HC hlt ⊢
    have e2 : IntKind.i64.wrap (n : Int) = (n : Int) := i64_in _ (by omega)
    have e3 : IntKind.i64.wrap (2 * (n : Int)) = ((2 * n : Nat) : Int) := by rw [i64_in _ (by omega)]; omega
    clear hn hlt hp hj hs hk
    go_enter Try.func22, Try.ntmps22
    go_wp2_with (go_at_call 18; (with_reducible refine (HC.out _).mono ?_); rintro e w' ⟨rfl, rfl⟩)
    go_ret
    exact ⟨rfl, S.out.bel⟩
  · simp only [eaN, if_true] at hk
    have e1 : IntKind.i64.wrap (4 * (k : Int)) = ((4 * k : Nat) : Int) := by rw [i64_in _ (by omega)]; omega
    obtain ⟨j, hj⟩ : ∃ j, j = 4 * k := ⟨_, rfl⟩
    have HC := Lib.hid (fun W => u32_in s (j : Int) j rfl W hs (by omega))
    have hp : plN true s.data.toList k = n4 s.data.toList j := by unfold plN; rw [hj]; rfl
    have hlt := n4_lt s.data.toList j
    rw [← hj] at e1
    show Calls _ _ _ _ fun e w' => e = .returned (.int .i64 (plN true s.data.toList k : Int)) ∧ Below w.heap.size w w'
    rw [hp]
    obtain ⟨n, hn⟩ : ∃ n, n = n4 s.data.toList j := ⟨_, rfl⟩
    rw [← hn] at HC hlt ⊢
    have e2 : IntKind.i64.wrap (n : Int) = (n : Int) := i64_in _ (by omega)
    clear hn hlt hp hj hs hk
    go_enter Try.func22, Try.ntmps22
    go_wp2_with (go_at_call 39; (with_reducible refine (HC.out _).mono ?_); rintro e w' ⟨rfl, rfl⟩)
    go_ret
    exact ⟨rfl, S.out.bel⟩
/-- May a place, not below 0, be told? -/
def mayPl (lg : Bool) (p : Int) : Prop := if lg then p ≤ 1048576 else p % 2 = 0 ∧ p ≤ 131070
instance (lg : Bool) (p : Int) : Decidable (mayPl lg p) := by unfold mayPl; split <;> infer_instance
theorem mayPlace_any (h : Hd) (p : Int) (w : World) (hp : 0 ≤ p) :
    Calls Try.prog 41 #[.agg #[.int .i64 h.em, .bool h.lg, .int .i64 h.gl, .int .i64 h.me, .int .i64 h.a1, .int .i64 h.a2, .int .i64 h.a3], .int .i64 p] w fun e w' => e = .returned (.bool (decide (mayPl h.lg p))) ∧ Below w.heap.size w w' := by
  have S := Lib.hid (MS.start w h)
  obtain ⟨em, lg, gl, me, a1, a2, a3⟩ := h
  cases lg
  · have hd : decide (mayPl false p) = decide (p % 2 = 0 ∧ p ≤ 131070) := by unfold mayPl; simp
    show Calls _ _ _ _ fun e w' => e = .returned (.bool (decide (mayPl false p))) ∧ Below w.heap.size w w'
    rw [hd]
    have ht : p.tmod 2 = p % 2 := Int.tmod_eq_emod_of_nonneg hp
    obtain ⟨r, hr⟩ : ∃ r, r = p % 2 := ⟨_, rfl⟩
    have hr2 : r = 0 ∨ r = 1 := by omega
    rw [← hr] at ht ⊢
    rcases hr2 with rfl | rfl
    · have hd2 : decide ((0 : Int) = 0 ∧ p ≤ 131070) = decide (p ≤ 131070) := by simp
      rw [hd2]
      clear hr hd hd2 hp
      go_enter Try.func41, Try.ntmps41
      go_wp2_with fail
      go_ret
      exact ⟨rfl, S.out.bel⟩
    · have hd2 : decide ((1 : Int) = 0 ∧ p ≤ 131070) = false := by simp
      rw [hd2]
      clear hr hd hd2 hp
      go_enter Try.func41, Try.ntmps41
      go_wp2_with fail
      go_ret
      exact ⟨rfl, S.out.bel⟩
  · have hd : decide (mayPl true p) = decide (p ≤ 1048576) := by unfold mayPl; simp
    show Calls _ _ _ _ fun e w' => e = .returned (.bool (decide (mayPl true p))) ∧ Below w.heap.size w w'
    rw [hd]
    clear hd hp
    go_enter Try.func41, Try.ntmps41
    go_wp2_with fail
    go_ret
    exact ⟨rfl, S.out.bel⟩
theorem ints_any (A A' : Option Addr) (m c c' : Nat) (xs : List Int) (w : World) (h : Il w A m xs) (h' : Il w A' m xs) (hm : m ≤ 1000000) : Calls Try.prog 12 #[.slice A m c, .slice A' m c'] w fun e w' => e = .returned (.bool true) ∧ Below w.heap.size w w' := by
  have H1 := Lib.hid h
  have H2 := Lib.hid h'
  clear h h'
  go_enter Try.func12, Try.ntmps12
  go_wp2_with fail
  go_loopw [13] (fun i wr => ∃ k : Nat, i = .int .i64 (k : Int) ∧ k ≤ m ∧ Below w.heap.size w wr) (fun i _ => m - (intOf i).toNat)
  case atStart => exact ⟨0, rfl, Nat.zero_le _, Below.refl _ _⟩
  case round =>
    obtain ⟨k, rfl, hk, hb⟩ := hrel
    by_cases hgo : k < m
    · obtain ⟨a, rfl, ha⟩ := H1.out.at_ hb hgo
      obtain ⟨b, rfl, hb2⟩ := H2.out.at_ hb hgo
      obtain ⟨x, hx⟩ : ∃ x, x = co xs k := ⟨_, rfl⟩
      rw [← hx] at ha hb2
      have B := Lib.hid hb
      clear hb hx
      go_wp2_with fail
      go_quiet (fail)
      all_goals
        go_wp2_with fail
        exact ⟨⟨k + 1, by simp, by omega, below_drewN B.out _⟩, by simp [intOf]; omega⟩
    · obtain rfl : k = m := by omega
      have B := Lib.hid hb
      clear hb
      go_wp2_with fail
      go_ret
      exact ⟨rfl, B.out⟩
end Go.Proofs.Ytibbgmahdiphpaa
