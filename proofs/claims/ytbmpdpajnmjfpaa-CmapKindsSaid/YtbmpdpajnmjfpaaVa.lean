/- Proved here: what the segments of a part of 4 make of the pairs so far (plain); what number, mayDouble and openShort answer. Condition: a text of at most a billion bytes. -/
import Derived.Test.YtbmpdpajnmjfpaaUd
import Derived.Test.YtbmpdpajnmjfpaaSa
namespace Go.Proofs.Ytbmpdpajnmjfpaa
open Go.RowKit

/-- Whether a number may be twice that of the segments. -/
def mayD (d : Nat) : Prop := 0 < d ∧ d ≤ 16384 ∧ d % 2 = 0
instance (d : Nat) : Decidable (mayD d) := by unfold mayD; infer_instance
def shortE (l : List UInt8) (a : Nat) : Int := if l.length < a + 14 then 3 else if n2 l a = 4 ∧ n2 l (a + 2) % 2 = 0 ∧ mayD (n2 l (a + 6)) ∧ piece l (a + 6) 8 = cntB (n2 l (a + 6) / 2) ∧ 16 + 8 * (n2 l (a + 6) / 2) ≤ n2 l (a + 2) then (if l.length < a + n2 l (a + 2) then 3 else 0) else 4
/-- The part, and how many segments it has. -/
def prt (l : List UInt8) (a : Nat) : List UInt8 := piece l a (n2 l (a + 2))
def nSeg (l : List UInt8) (a : Nat) : Nat := n2 l (a + 6) / 2
/-- A segment's numbers. -/
def sF (P : List UInt8) (n i : Nat) : Nat := n2 P (14 + 2 * i + 2 * n + 2)
def sT (P : List UInt8) (i : Nat) : Nat := n2 P (14 + 2 * i)
def sD (P : List UInt8) (n i : Nat) : Nat := n2 P (14 + 2 * i + 2 * n + 2 + 2 * n)
def sJ (P : List UInt8) (n i : Nat) : Nat := n2 P (14 + 2 * i + 2 * n + 2 + 2 * n + 2 * n)
def sAt (n i : Nat) : Nat := 14 + 2 * i + 2 * n + 2 + 2 * n + 2 * n
/-- A code point's glyph, and an error. -/
def gly (P : List UInt8) (F D J at_ c : Nat) : Int × Int := if J = 0 then (((c + D) % 65536 : Nat), 0) else if P.length < at_ + J + 2 * (c - F) + 2 then (0, 3) else if n2 P (at_ + J + 2 * (c - F)) = 0 then (0, 0) else (((n2 P (at_ + J + 2 * (c - F)) + D) % 65536 : Nat), 0)
def ahS (P : List UInt8) : Nat → Int
  | 0 => -1
  | i + 1 => (sT P i : Int)
def segs (g : Int) (P : List UInt8) (n : Nat) : Nat → Int × List (Int × Int)
  | 0 => (0, [])
  | i + 1 => stick (segs g P n i) fun ps => if (sF P n i : Int) ≤ ahS P i ∨ sT P i < sF P n i ∨ (i + 1 = n ∧ sT P i ≠ 65535) ∨ sJ P n i % 2 ≠ 0 then (4, ps)
      else codes g (gly P (sF P n i) (sD P n i) (sJ P n i) (sAt n i)) (sF P n i) (sT P i + 1 - sF P n i) (0, ps)
theorem segs_stick {g : Int} {P : List UInt8} {n k : Nat} (h : (segs g P n k).1 ≠ 0) : ∀ m, k ≤ m → segs g P n m = segs g P n k
  | 0, hn => by rw [show k = 0 by omega]
  | m + 1, hn => by
    rcases Nat.lt_or_ge m k with h1 | h1
    · rw [show k = m + 1 by omega]
    · have ih := segs_stick h m h1
      simp only [segs]
      rw [ih, stick_err h]
def shortS (g : Int) (l : List UInt8) (a : Nat) : Int × List (Int × Int) := if shortE l a = 0 then (if n2 (prt l a) (14 + 2 * nSeg l a) = 0 then segs g (prt l a) (nSeg l a) (nSeg l a) else (4, [])) else (shortE l a, [])
theorem number_any (s : ByteArray) (a : Nat) (w : World) (hs : s.size ≤ 1000000000) (ha : a + 2 ≤ s.size) : Calls Try.prog 45 #[.string s, .int .i64 (a : Int)] w fun e w' => e = .returned (.int .i64 (n2 s.data.toList a : Int)) ∧ w = w' := by
  have h := fun W => u16_any s (a : Int) W hs (by omega)
  have h2 := cutL_in (l := s.data.toList) (a := a) (n := 2) (by rw [size_list]; exact ha)
  rw [show ((2 : Nat) : Int) = 2 from rfl] at h2
  rw [h2.1, h2.2] at h
  have hb := n2_lt s.data.toList a
  obtain ⟨x, hx⟩ : ∃ x, x = n2 s.data.toList a := ⟨_, rfl⟩
  rw [show bv (piece s.data.toList a 2) 0 = x from hx.symm] at h
  rw [← hx] at hb ⊢
  have C := Lib.hid h
  have e1 : IntKind.i64.wrap (x : Int) = (x : Int) := i64_in _ (by omega)
  clear h h2 hx hs ha
  go_enter Try.func45, Try.ntmps45
  go_wp2_with (go_at_call 58; (with_reducible refine (C.out _).mono ?_); rintro e w' ⟨rfl, rfl⟩)
  go_ret
  exact ⟨rfl, rfl⟩
theorem mayDouble_any (d : Nat) (w : World) (hd : d < 65536) : Calls Try.prog 57 #[.int .i64 (d : Int)] w fun e w' => e = .returned (.bool (decide (mayD d))) ∧ w = w' := by
  by_cases h1 : 0 < d
  · by_cases h2 : d ≤ 16384
    · obtain ⟨q, hq⟩ : ∃ q, q = d % 2 := ⟨_, rfl⟩
      have e1 : (d : Int).tmod 2 = (q : Int) := by rw [Int.tmod_eq_emod_of_nonneg (by omega)]; omega
      by_cases h3 : q = 0
      · rw [decide_eq_true (show mayD d from ⟨h1, h2, by omega⟩)]
        have e2 : ((q : Int) == 0) = true := by simp; omega
        clear hq h3
        go_enter Try.func57, Try.ntmps57
        go_wp2_with fail
        go_ret
        exact ⟨rfl, rfl⟩
      · rw [decide_eq_false (show ¬ mayD d from fun h => h3 (by have := h.2.2; omega))]
        have e2 : ((q : Int) == 0) = false := by simp; omega
        clear hq h3
        go_enter Try.func57, Try.ntmps57
        go_wp2_with fail
        go_ret
        exact ⟨rfl, rfl⟩
    · rw [decide_eq_false (show ¬ mayD d from fun h => h2 h.2.1)]
      go_enter Try.func57, Try.ntmps57
      go_wp2_with fail
      go_ret
      exact ⟨rfl, rfl⟩
  · rw [decide_eq_false (show ¬ mayD d from fun h => h1 h.1)]
    have h0 : d = 0 := by omega
    subst h0
    go_enter Try.func57, Try.ntmps57
    go_wp2_with fail
    go_ret
    exact ⟨rfl, rfl⟩
end Go.Proofs.Ytbmpdpajnmjfpaa
