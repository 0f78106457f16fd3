/- Proved here: what has, Cut, U16 and U32 answer, the program's and the document's. Condition: a text of at most a billion bytes, places of 64 bits. -/
import Derived.Test.YtbmpdpajnmjfpaaOa
namespace Go.Proofs.Ytbmpdpajnmjfpaa
open Go.RowKit

/-- Whether n bytes stand at a place of a text of L bytes. -/
def Has (L : Nat) (a n : Int) : Prop := 0 ≤ a ∧ 0 ≤ n ∧ n ≤ (L : Int) - a
instance (L : Nat) (a n : Int) : Decidable (Has L a n) := inferInstanceAs (Decidable (_ ∧ _ ∧ _))
/-- The n bytes at a place. -/
def piece (l : List UInt8) (a n : Nat) : List UInt8 := (l.drop a).take n
theorem piece_len {l : List UInt8} {a n : Nat} (h : a + n ≤ l.length) : (piece l a n).length = n := by
  unfold piece
  rw [List.length_take, List.length_drop]
  omega
theorem piece_len_le (l : List UInt8) (a n : Nat) : (piece l a n).length ≤ n := by
  unfold piece
  rw [List.length_take]
  omega
theorem sub_run (s : ByteArray) (a b : Int) (h0 : 0 ≤ a) (h1 : a ≤ b) (h2 : b ≤ s.size) (W : World) :
    (Instr.slice 9 (.string s) (some (.int .i64 a)) (some (.int .i64 b)) none).run Try.prog W = .ok (.string ⟨(piece s.data.toList a.toNat (b - a).toNat).toArray⟩) W := by
  have hex : s.extract a.toNat b.toNat = ⟨(piece s.data.toList a.toNat (b - a).toNat).toArray⟩ := by
    apply ByteArray.ext
    apply Array.toList_inj.1
    have e1 : (s.extract a.toNat b.toNat).data.toList = (s.data.toList.drop a.toNat).take (b.toNat - a.toNat) := by
      simp [List.extract]
    rw [e1]
    unfold piece
    rw [show (b - a).toNat = b.toNat - a.toNat by omega]
  have h := run_slice_string (P := Try.prog) W 9 s .i64 .i64 a b Try.underlying9 h0 h1 h2
  rw [h, hex]
set_option maxHeartbeats 2000000 in
theorem has_any (s : ByteArray) (a n : Int) (w : World) (hs : s.size ≤ 1000000000) (ha : a < 9223372036854775808) :
    Calls Try.prog 69 #[.string s, .int .i64 a, .int .i64 n] w fun e w' => e = .returned (.bool (decide (Has s.size a n))) ∧ w = w' := by
  obtain ⟨L, hL⟩ : ∃ L, L = s.size := ⟨_, rfl⟩
  have hsz : s.size = L := hL.symm
  rw [← hL] at hs ⊢
  clear hL
  rcases Int.lt_or_le a 0 with h | h
  · have e1 : decide (Has L a n) = false := decide_eq_false (fun h2 => by have := h2.1; omega)
    have hd : decide (0 ≤ a) = false := decide_eq_false (by omega)
    rw [e1]
    go_enter Try.func69, Try.ntmps69
    go_wp2_with fail
    go_ret
    exact ⟨rfl, rfl⟩
  · have hd : decide (0 ≤ a) = true := decide_eq_true h
    rcases Int.lt_or_le n 0 with h3 | h3
    · have e1 : decide (Has L a n) = false := decide_eq_false (fun h2 => by have := h2.2.1; omega)
      have hd2 : decide (0 ≤ n) = false := decide_eq_false (by omega)
      rw [e1]
      go_enter Try.func69, Try.ntmps69
      go_wp2_with fail
      go_ret
      exact ⟨rfl, rfl⟩
    · have hd2 : decide (0 ≤ n) = true := decide_eq_true h3
      have e1 : decide (Has L a n) = decide (n ≤ (L : Int) - a) := decide_eq_decide.2 ⟨fun h2 => h2.2.2, fun h2 => ⟨h, h3, h2⟩⟩
      have hw : IntKind.i64.wrap ((L : Int) - a) = (L : Int) - a := by rw [IntKind.wrap_i64]; omega
      rw [e1]
      go_enter Try.func69, Try.ntmps69
      go_wp2_with fail
      go_ret
      exact ⟨by simp, rfl⟩
theorem i64_in (x : Int) (h : -9223372036854775808 ≤ x ∧ x ≤ 9223372036854775807) : IntKind.i64.wrap x = x := by rw [IntKind.wrap_i64]; omega
/-- What Cut answers: the bytes, and how it ended. -/
def cutL (l : List UInt8) (a n : Int) : List UInt8 := if Has l.length a n then piece l a.toNat n.toNat else []
def cutE (l : List UInt8) (a n : Int) : Int := if Has l.length a n then 0 else 3
theorem cutL_len (l : List UInt8) (a : Int) (n : Nat) : (cutL l a n).length ≤ n := by
  unfold cutL
  split
  · simpa using piece_len_le l a.toNat n
  · simp
theorem clone_any (s : ByteArray) (w : World) (hs : s.size ≤ 1000000000) : Calls Try.prog 70 #[.string s] w fun e w' => e = .returned (.string s) ∧ Below w.heap.size w w' := by
  have HC := Lib.hid (fun W => Try.stringslite_Clone s W (by omega))
  go_enter Try.func70, Try.ntmps70
  go_wp2_with (go_at_call 72; (with_reducible refine (HC.out _).mono ?_); rintro e w' ⟨rfl, hb⟩; have B := Lib.hid hb; clear hb)
  go_ret
  exact ⟨rfl, B.out⟩
set_option maxHeartbeats 2000000 in
theorem cut_any (s : ByteArray) (a n : Int) (w : World) (hs : s.size ≤ 1000000000) (ha : a < 9223372036854775808) :
    Calls Try.prog 56 #[.string s, .int .i64 a, .int .i64 n] w fun e w' => e = .returned (.tuple #[.string ⟨(cutL s.data.toList a n).toArray⟩, .int .i64 (cutE s.data.toList a n)]) ∧ Below w.heap.size w w' := by
  have hsz : s.data.toList.length = s.size := by simp
  have hh := fun W => has_any s a n W hs ha
  unfold cutL cutE
  rw [hsz]
  by_cases h : Has s.size a n
  · rw [if_pos h, if_pos h]
    rw [decide_eq_true h] at hh
    obtain ⟨h0, h1, h2⟩ := h
    have hsub := fun W => sub_run s a (a + n) h0 (by omega) (by omega) W
    rw [show a + n - a = n by omega] at hsub
    have hwr := i64_in (a + n) (by omega)
    obtain ⟨D, hD⟩ : ∃ D : ByteArray, D = ⟨(piece s.data.toList a.toNat n.toNat).toArray⟩ := ⟨_, rfl⟩
    have hDs : D.size ≤ 1000000000 := by
      have h4 := piece_len (l := s.data.toList) (a := a.toNat) (n := n.toNat) (by omega)
      rw [hD]
      show (piece s.data.toList a.toNat n.toNat).toArray.size ≤ _
      simp only [List.size_toArray]
      omega
    rw [← hD] at hsub ⊢
    have HH := Lib.hid hh
    have HC := Lib.hid (fun W => clone_any D W hDs)
    clear hD hDs hh hsz h0 h1 h2
    go_enter Try.func56, Try.ntmps56
    go_wp2_with (first
      | (go_at_call 69; (with_reducible refine (HH.out _).mono ?_); rintro e w' ⟨rfl, rfl⟩)
      | (go_at_call 70; (with_reducible refine (HC.out _).mono ?_); rintro e w' ⟨rfl, hb⟩; have B := Lib.hid hb; clear hb))
    go_ret2
    exact ⟨rfl, B.out⟩
  · rw [if_neg h, if_neg h]
    rw [decide_eq_false h] at hh
    have HH := Lib.hid hh
    clear hh hsz h
    go_enter Try.func56, Try.ntmps56
    go_wp2_with (go_at_call 69; (with_reducible refine (HH.out _).mono ?_); rintro e w' ⟨rfl, rfl⟩)
    go_ret2
    exact ⟨rfl, Below.refl _ _⟩
end Go.Proofs.Ytbmpdpajnmjfpaa
