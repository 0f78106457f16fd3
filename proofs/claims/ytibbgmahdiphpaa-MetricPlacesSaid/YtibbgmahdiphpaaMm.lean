/- Proved here: the laws MetricReads, MetricWidths, MetricPlaces, over what lies in memory. No condition. -/
import Derived.Test.YtibbgmahdiphpaaMl
namespace Go.Proofs.Ytibbgmahdiphpaa
open Go.RowKit

theorem WL_len (h : Hd) (l : List UInt8) : (WL h l).length ≤ 1024 := by
  unfold WL
  split
  · rename_i h0
    unfold WE at h0
    split at h0
    · rename_i hm
      obtain ⟨_, h1, _⟩ := hm
      rw [gen_len]
      omega
    · cases h0
  · exact Nat.zero_le _
theorem PlL_len (h : Hd) (l : List UInt8) (z : Int) : (PlL h l z).length ≤ 1025 := by
  unfold PlL
  split
  · rename_i h0
    unfold PlE at h0
    split at h0
    · rename_i hm
      obtain ⟨_, h1, _⟩ := hm
      rw [gen_len]
      omega
    · cases h0
  · exact Nat.zero_le _
/-- A list of N numbers, and an error, are answered. -/
def LmE (N : Nat) (x : Int) (xs : List Int) (w : World) (e : Ending) (w' : World) : Prop := ∃ A c, e = .returned (.tuple #[.slice A N c, .int .i64 x]) ∧ Il w' A N xs ∧ Below w.heap.size w w'
theorem lm_of {x : Int} {xs : List Int} {w w' : World} {e : Ending} (h : LsE x xs w e w') : LmE xs.length x xs w e w' := by
  obtain ⟨A, n, c, h1, h2, h3⟩ := h
  obtain rfl : n = xs.length := h2.len.symm
  exact ⟨A, c, h1, h2, h3⟩
theorem ints_yes (A A' : Option Addr) (m c c' : Nat) (xs : List Int) (W : World) (hm : m ≤ 1000000) (h : Il W A m xs ∧ Il W A' m xs) : Calls Try.prog 12 #[.slice A m c, .slice A' m c'] W fun e w' => e = .returned (.bool true) ∧ Below W.heap.size W w' := ints_any A A' m c c' xs W h.1 h.2 hm
theorem reads_big (h : Hd) (s : ByteArray) (z : Int) (w : World) (hs : 1000 < s.size) : Calls Try.prog 3 #[.agg #[.int .i64 h.em, .bool h.lg, .int .i64 h.gl, .int .i64 h.me, .int .i64 h.a1, .int .i64 h.a2, .int .i64 h.a3], .string s, .int .i64 z] w fun e w' => e = .returned (.bool true) ∧ Below w.heap.size w w' := by
  have d1 : decide (1000 < (s.size : Int)) = true := decide_eq_true (by omega)
  have S := Lib.hid (MS.start w h)
  clear hs
  go_enter Try.func3, Try.ntmps3
  go_wp2_with (go_at_call 6; (with_reducible refine (awake_any _).mono ?_); rintro e w1 ⟨rfl, hb⟩; have S := Lib.hid (S.out.next hb); clear hb)
  go_ret
  exact ⟨rfl, S.out.bel⟩
theorem reads_many (h : Hd) (s : ByteArray) (z : Int) (w : World) (hs : ¬ 1000 < s.size) (hf : ¬ (h.gl ≤ 100 ∨ 1024 < h.gl)) : Calls Try.prog 3 #[.agg #[.int .i64 h.em, .bool h.lg, .int .i64 h.gl, .int .i64 h.me, .int .i64 h.a1, .int .i64 h.a2, .int .i64 h.a3], .string s, .int .i64 z] w fun e w' => e = .returned (.bool true) ∧ Below w.heap.size w w' := by
  have d1 : decide (1000 < (s.size : Int)) = false := decide_eq_false (by omega)
  have S := Lib.hid (MS.start w h)
  have cf := fun W => few_any h W
  rw [decide_eq_false hf] at cf
  have CF := Lib.hid cf
  clear hs hf cf
  go_enter Try.func3, Try.ntmps3
  go_wp2_with (first
    | (go_at_call 6; (with_reducible refine (awake_any _).mono ?_); rintro e w1 ⟨rfl, hb⟩; have S := Lib.hid (S.out.next hb); clear hb; obtain ⟨f0, f1, f2, f3, f4, f5, f6⟩ := S.out.cells)
    | (go_at_call 7; (with_reducible refine (CF.out _).mono ?_); rintro e w1 ⟨rfl, hb⟩; have S := Lib.hid (S.out.next hb); clear hb))
  go_ret
  exact ⟨rfl, S.out.bel⟩
set_option maxHeartbeats 2000000 in
theorem reads_in (h : Hd) (s : ByteArray) (z : Int) (w : World) (hs : ¬ 1000 < s.size) (hf : h.gl ≤ 100 ∨ 1024 < h.gl) : Calls Try.prog 3 #[.agg #[.int .i64 h.em, .bool h.lg, .int .i64 h.gl, .int .i64 h.me, .int .i64 h.a1, .int .i64 h.a2, .int .i64 h.a3], .string s, .int .i64 z] w fun e w' => e = .returned (.bool true) ∧ Below w.heap.size w w' := by
  have d1 : decide (1000 < (s.size : Int)) = false := decide_eq_false (by omega)
  have S := Lib.hid (MS.start w h)
  have cf := fun W => few_any h W
  rw [decide_eq_true hf] at cf
  have CF := Lib.hid cf
  have C1 := Lib.hid (fun W => (widths_any h s W (by omega)).mono fun _ _ => lm_of)
  have C2 := Lib.hid (fun W => (rwidths_any h s W (by omega)).mono fun _ _ => lm_of)
  have C3 := Lib.hid (fun W => (places_any h s z W (by omega)).mono fun _ _ => lm_of)
  have C4 := Lib.hid (fun W => (rplaces_any h s z W (by omega)).mono fun _ _ => lm_of)
  have hl1 := WL_len h s.data.toList
  have hl2 := PlL_len h s.data.toList z
  obtain ⟨xs, hxs⟩ : ∃ X, X = WL h s.data.toList := ⟨_, rfl⟩
  obtain ⟨ys, hys⟩ : ∃ X, X = PlL h s.data.toList z := ⟨_, rfl⟩
  obtain ⟨x, hx⟩ : ∃ X, X = WE h s.data.toList := ⟨_, rfl⟩
  obtain ⟨y, hy⟩ : ∃ X, X = PlE h s.data.toList z := ⟨_, rfl⟩
  rw [← hxs] at hl1
  rw [← hys] at hl2
  rw [← hxs, ← hx] at C1 C2
  rw [← hys, ← hy] at C3 C4
  obtain ⟨N, hN⟩ : ∃ N, N = xs.length := ⟨_, rfl⟩
  obtain ⟨N2, hN2⟩ : ∃ N, N = ys.length := ⟨_, rfl⟩
  rw [← hN] at hl1 C1 C2
  rw [← hN2] at hl2 C3 C4
  have hl1 := Lib.hid (show N ≤ 1000000 by omega)
  have hl2 := Lib.hid (show N2 ≤ 1000000 by omega)
  clear hs hf cf hxs hys hx hy hN hN2
  go_enter Try.func3, Try.ntmps3
  go_wp2_with (first
    | (go_at_call 6; (with_reducible refine (awake_any _).mono ?_); rintro e w1 ⟨rfl, hb⟩; have S := Lib.hid (S.out.next hb); clear hb; obtain ⟨f0, f1, f2, f3, f4, f5, f6⟩ := S.out.cells)
    | (go_at_call 7; (with_reducible refine (CF.out _).mono ?_); rintro e w2 ⟨rfl, hb⟩; have S := Lib.hid (S.out.next hb); clear hb f0 f1 f2 f3 f4 f5 f6; obtain ⟨f0, f1, f2, f3, f4, f5, f6⟩ := S.out.cells)
    | (go_at_call 8; (with_reducible refine (C1.out _).mono ?_); rintro e w3 ⟨A1, c1, rfl, ht, hb⟩; have S := Lib.hid (S.out.next hb); have T1 := Lib.hid ht; clear ht hb f0 f1 f2 f3 f4 f5 f6; obtain ⟨f0, f1, f2, f3, f4, f5, f6⟩ := S.out.cells)
    | (go_at_call 9; (with_reducible refine (C2.out _).mono ?_); rintro e w4 ⟨A2, c2, rfl, ht, hb⟩; have S := Lib.hid (S.out.next hb); have T2 := Lib.hid (And.intro (T1.out.bel hb) ht); clear ht hb f0 f1 f2 f3 f4 f5 f6; obtain ⟨f0, f1, f2, f3, f4, f5, f6⟩ := S.out.cells)
    | (go_at_call 10; (with_reducible refine (C3.out _).mono ?_); rintro e w5 ⟨A3, c3, rfl, ht, hb⟩; have S := Lib.hid (S.out.next hb); have T3 := Lib.hid (And.intro (And.intro (T2.out.1.bel hb) (T2.out.2.bel hb)) ht); clear ht hb f0 f1 f2 f3 f4 f5 f6; obtain ⟨f0, f1, f2, f3, f4, f5, f6⟩ := S.out.cells)
    | (go_at_call 11; (with_reducible refine (C4.out _).mono ?_); rintro e w6 ⟨A4, c4, rfl, ht, hb⟩; have S := Lib.hid (S.out.next hb); have T4 := Lib.hid (And.intro (And.intro (T3.out.1.1.bel hb) (T3.out.1.2.bel hb)) (And.intro (T3.out.2.bel hb) ht)); clear ht hb f0 f1 f2 f3 f4 f5 f6; obtain ⟨f0, f1, f2, f3, f4, f5, f6⟩ := S.out.cells)
    | (go_at_call 12; (with_reducible refine (ints_yes A1 A2 N _ _ xs _ hl1.out T4.out.1).mono ?_); rintro e w7 ⟨rfl, hb⟩; have S := Lib.hid (S.out.next hb); have T5 := Lib.hid (And.intro (T4.out.2.1.bel hb) (T4.out.2.2.bel hb)); clear hb f0 f1 f2 f3 f4 f5 f6; obtain ⟨f0, f1, f2, f3, f4, f5, f6⟩ := S.out.cells)
    | (go_at_call 12; (with_reducible refine (ints_yes A3 A4 N2 _ _ ys _ hl2.out T5.out).mono ?_); rintro e w8 ⟨rfl, hb⟩; have S := Lib.hid (S.out.next hb); clear hb))
  go_ret
  exact ⟨rfl, S.out.bel⟩
theorem law_reads (h : Hd) (s : ByteArray) (z : Int) (w : World) : Calls Try.prog 3 #[.agg #[.int .i64 h.em, .bool h.lg, .int .i64 h.gl, .int .i64 h.me, .int .i64 h.a1, .int .i64 h.a2, .int .i64 h.a3], .string s, .int .i64 z] w fun e w' => e = .returned (.bool true) ∧ Below w.heap.size w w' := by
  by_cases hs : 1000 < s.size
  · exact reads_big h s z w hs
  · by_cases hf : h.gl ≤ 100 ∨ 1024 < h.gl
    · exact reads_in h s z w hs hf
    · exact reads_many h s z w hs hf
theorem widl_big (h : Hd) (A : Option Addr) (m c : Nat) (w : World) (hs : 110 < m) : Calls Try.prog 4 #[.agg #[.int .i64 h.em, .bool h.lg, .int .i64 h.gl, .int .i64 h.me, .int .i64 h.a1, .int .i64 h.a2, .int .i64 h.a3], .slice A m c] w fun e w' => e = .returned (.bool true) ∧ Below w.heap.size w w' := by
  have d1 : decide (110 < (m : Int)) = true := decide_eq_true (by omega)
  have S := Lib.hid (MS.start w h)
  clear hs
  go_enter Try.func4, Try.ntmps4
  go_wp2_with (go_at_call 6; (with_reducible refine (awake_any _).mono ?_); rintro e w1 ⟨rfl, hb⟩; have S := Lib.hid (S.out.next hb); clear hb)
  go_ret
  exact ⟨rfl, S.out.bel⟩
theorem widl_many (h : Hd) (A : Option Addr) (m c : Nat) (w : World) (hs : ¬ 110 < m) (hf : ¬ (h.gl ≤ 100 ∨ 1024 < h.gl)) : Calls Try.prog 4 #[.agg #[.int .i64 h.em, .bool h.lg, .int .i64 h.gl, .int .i64 h.me, .int .i64 h.a1, .int .i64 h.a2, .int .i64 h.a3], .slice A m c] w fun e w' => e = .returned (.bool true) ∧ Below w.heap.size w w' := by
  have d1 : decide (110 < (m : Int)) = false := decide_eq_false (by omega)
  have S := Lib.hid (MS.start w h)
  have cf := fun W => few_any h W
  rw [decide_eq_false hf] at cf
  have CF := Lib.hid cf
  clear hs hf cf
  go_enter Try.func4, Try.ntmps4
  go_wp2_with (first
    | (go_at_call 6; (with_reducible refine (awake_any _).mono ?_); rintro e w1 ⟨rfl, hb⟩; have S := Lib.hid (S.out.next hb); clear hb; obtain ⟨f0, f1, f2, f3, f4, f5, f6⟩ := S.out.cells)
    | (go_at_call 7; (with_reducible refine (CF.out _).mono ?_); rintro e w1 ⟨rfl, hb⟩; have S := Lib.hid (S.out.next hb); clear hb))
  go_ret
  exact ⟨rfl, S.out.bel⟩
set_option maxHeartbeats 2000000 in
theorem widl_no (h : Hd) (A : Option Addr) (m c : Nat) (xs : List Int) (w : World) (hI : Il w A m xs) (hs : ¬ 110 < m) (hf : h.gl ≤ 100 ∨ 1024 < h.gl) (hx : ¬ (MayP h ∧ mayW h xs)) : Calls Try.prog 4 #[.agg #[.int .i64 h.em, .bool h.lg, .int .i64 h.gl, .int .i64 h.me, .int .i64 h.a1, .int .i64 h.a2, .int .i64 h.a3], .slice A m c] w fun e w' => e = .returned (.bool true) ∧ Below w.heap.size w w' := by
  have d1 : decide (110 < (m : Int)) = false := decide_eq_false (by omega)
  have S := Lib.hid (MS.start w h)
  have cf := fun W => few_any h W
  rw [decide_eq_true hf] at cf
  have CF := Lib.hid cf
  have HI := Lib.hid hI
  have c1 := fun W (hI : Il W A m xs) => hmtx_any h A m c xs W hI
  have c2 := fun W (hI : Il W A m xs) => rhmtx_any h A m c xs W hI
  unfold StE at c1 c2
  rw [show HmE h xs = 1 from if_neg hx, show HmS h xs = [] from if_neg hx] at c1 c2
  have C1 := Lib.hid (show ∀ W, Il W A m xs → Calls Try.prog 13 #[.agg #[.int .i64 h.em, .bool h.lg, .int .i64 h.gl, .int .i64 h.me, .int .i64 h.a1, .int .i64 h.a2, .int .i64 h.a3], .slice A m c] W fun e w' => e = .returned (.tuple #[.string ⟨#[]⟩, .int .i64 1]) ∧ Below W.heap.size W w' from c1)
  have C2 := Lib.hid (show ∀ W, Il W A m xs → Calls Try.prog 14 #[.agg #[.int .i64 h.em, .bool h.lg, .int .i64 h.gl, .int .i64 h.me, .int .i64 h.a1, .int .i64 h.a2, .int .i64 h.a3], .slice A m c] W fun e w' => e = .returned (.tuple #[.string ⟨#[]⟩, .int .i64 1]) ∧ Below W.heap.size W w' from c2)
  clear hs hf cf hx hI c1 c2
  go_enter Try.func4, Try.ntmps4
  go_wp2_with (first
    | (go_at_call 6; (with_reducible refine (awake_any _).mono ?_); rintro e w1 ⟨rfl, hb⟩; have S := Lib.hid (S.out.next hb); clear hb; obtain ⟨f0, f1, f2, f3, f4, f5, f6⟩ := S.out.cells)
    | (go_at_call 7; (with_reducible refine (CF.out _).mono ?_); rintro e w2 ⟨rfl, hb⟩; have S := Lib.hid (S.out.next hb); clear hb f0 f1 f2 f3 f4 f5 f6; obtain ⟨f0, f1, f2, f3, f4, f5, f6⟩ := S.out.cells)
    | (go_at_call 13; (with_reducible refine (C1.out _ (HI.out.bel S.out.bel)).mono ?_); rintro e w3 ⟨rfl, hb⟩; have S := Lib.hid (S.out.next hb); clear hb f0 f1 f2 f3 f4 f5 f6; obtain ⟨f0, f1, f2, f3, f4, f5, f6⟩ := S.out.cells)
    | (go_at_call 14; (with_reducible refine (C2.out _ (HI.out.bel S.out.bel)).mono ?_); rintro e w4 ⟨rfl, hb⟩; have S := Lib.hid (S.out.next hb); clear hb f0 f1 f2 f3 f4 f5 f6; obtain ⟨f0, f1, f2, f3, f4, f5, f6⟩ := S.out.cells))
  go_ret
  exact ⟨rfl, S.out.bel⟩
theorem plal_big (h : Hd) (A : Option Addr) (m c : Nat) (w : World) (hs : 110 < m) : Calls Try.prog 5 #[.agg #[.int .i64 h.em, .bool h.lg, .int .i64 h.gl, .int .i64 h.me, .int .i64 h.a1, .int .i64 h.a2, .int .i64 h.a3], .slice A m c] w fun e w' => e = .returned (.bool true) ∧ Below w.heap.size w w' := by
  have d1 : decide (110 < (m : Int)) = true := decide_eq_true (by omega)
  have S := Lib.hid (MS.start w h)
  clear hs
  go_enter Try.func5, Try.ntmps5
  go_wp2_with (go_at_call 6; (with_reducible refine (awake_any _).mono ?_); rintro e w1 ⟨rfl, hb⟩; have S := Lib.hid (S.out.next hb); clear hb)
  go_ret
  exact ⟨rfl, S.out.bel⟩
theorem plal_many (h : Hd) (A : Option Addr) (m c : Nat) (w : World) (hs : ¬ 110 < m) (hf : ¬ (h.gl ≤ 100 ∨ 1024 < h.gl)) : Calls Try.prog 5 #[.agg #[.int .i64 h.em, .bool h.lg, .int .i64 h.gl, .int .i64 h.me, .int .i64 h.a1, .int .i64 h.a2, .int .i64 h.a3], .slice A m c] w fun e w' => e = .returned (.bool true) ∧ Below w.heap.size w w' := by
  have d1 : decide (110 < (m : Int)) = false := decide_eq_false (by omega)
  have S := Lib.hid (MS.start w h)
  have cf := fun W => few_any h W
  rw [decide_eq_false hf] at cf
  have CF := Lib.hid cf
  clear hs hf cf
  go_enter Try.func5, Try.ntmps5
  go_wp2_with (first
    | (go_at_call 6; (with_reducible refine (awake_any _).mono ?_); rintro e w1 ⟨rfl, hb⟩; have S := Lib.hid (S.out.next hb); clear hb; obtain ⟨f0, f1, f2, f3, f4, f5, f6⟩ := S.out.cells)
    | (go_at_call 7; (with_reducible refine (CF.out _).mono ?_); rintro e w1 ⟨rfl, hb⟩; have S := Lib.hid (S.out.next hb); clear hb))
  go_ret
  exact ⟨rfl, S.out.bel⟩
set_option maxHeartbeats 2000000 in
theorem plal_no (h : Hd) (A : Option Addr) (m c : Nat) (xs : List Int) (w : World) (hI : Il w A m xs) (hs : ¬ 110 < m) (hf : h.gl ≤ 100 ∨ 1024 < h.gl) (hx : ¬ (MayP h ∧ mayPs h xs)) : Calls Try.prog 5 #[.agg #[.int .i64 h.em, .bool h.lg, .int .i64 h.gl, .int .i64 h.me, .int .i64 h.a1, .int .i64 h.a2, .int .i64 h.a3], .slice A m c] w fun e w' => e = .returned (.bool true) ∧ Below w.heap.size w w' := by
  have d1 : decide (110 < (m : Int)) = false := decide_eq_false (by omega)
  have S := Lib.hid (MS.start w h)
  have cf := fun W => few_any h W
  rw [decide_eq_true hf] at cf
  have CF := Lib.hid cf
  have HI := Lib.hid hI
  have c1 := fun W (hI : Il W A m xs) => loca_any h A m c xs W hI
  have c2 := fun W (hI : Il W A m xs) => rloca_any h A m c xs W hI
  unfold StE at c1 c2
  rw [show LoE h xs = 1 from if_neg hx, show LoS h xs = [] from if_neg hx] at c1 c2
  have C1 := Lib.hid (show ∀ W, Il W A m xs → Calls Try.prog 15 #[.agg #[.int .i64 h.em, .bool h.lg, .int .i64 h.gl, .int .i64 h.me, .int .i64 h.a1, .int .i64 h.a2, .int .i64 h.a3], .slice A m c] W fun e w' => e = .returned (.tuple #[.string ⟨#[]⟩, .int .i64 1]) ∧ Below W.heap.size W w' from c1)
  have C2 := Lib.hid (show ∀ W, Il W A m xs → Calls Try.prog 16 #[.agg #[.int .i64 h.em, .bool h.lg, .int .i64 h.gl, .int .i64 h.me, .int .i64 h.a1, .int .i64 h.a2, .int .i64 h.a3], .slice A m c] W fun e w' => e = .returned (.tuple #[.string ⟨#[]⟩, .int .i64 1]) ∧ Below W.heap.size W w' from c2)
  clear hs hf cf hx hI c1 c2
  go_enter Try.func5, Try.ntmps5
  go_wp2_with (first
    | (go_at_call 6; (with_reducible refine (awake_any _).mono ?_); rintro e w1 ⟨rfl, hb⟩; have S := Lib.hid (S.out.next hb); clear hb; obtain ⟨f0, f1, f2, f3, f4, f5, f6⟩ := S.out.cells)
    | (go_at_call 7; (with_reducible refine (CF.out _).mono ?_); rintro e w2 ⟨rfl, hb⟩; have S := Lib.hid (S.out.next hb); clear hb f0 f1 f2 f3 f4 f5 f6; obtain ⟨f0, f1, f2, f3, f4, f5, f6⟩ := S.out.cells)
    | (go_at_call 15; (with_reducible refine (C1.out _ (HI.out.bel S.out.bel)).mono ?_); rintro e w3 ⟨rfl, hb⟩; have S := Lib.hid (S.out.next hb); clear hb f0 f1 f2 f3 f4 f5 f6; obtain ⟨f0, f1, f2, f3, f4, f5, f6⟩ := S.out.cells)
    | (go_at_call 16; (with_reducible refine (C2.out _ (HI.out.bel S.out.bel)).mono ?_); rintro e w4 ⟨rfl, hb⟩; have S := Lib.hid (S.out.next hb); clear hb f0 f1 f2 f3 f4 f5 f6; obtain ⟨f0, f1, f2, f3, f4, f5, f6⟩ := S.out.cells))
  go_ret
  exact ⟨rfl, S.out.bel⟩
end Go.Proofs.Ytibbgmahdiphpaa
