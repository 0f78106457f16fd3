/- Proved here: the numbers of two and of four bytes at a place, what plain, turned, begins and marked answer, and the document's u16 and u32. Condition: the bytes are there; a text of at most a billion bytes. -/
import Derived.Test.YtphnapnmeidgkaaTb
namespace Go.Proofs.Ytphnapnmeidgkaa
open Go.RowKit

theorem size_list (s : ByteArray) : s.data.toList.length = s.size := by simp
theorem app_list (a b : ByteArray) : (a ++ b).data.toList = a.data.toList ++ b.data.toList := by simp
theorem of_list {s : ByteArray} {l : List UInt8} (h : s.data.toList = l) : s = ⟨l.toArray⟩ := by
  subst h
  apply ByteArray.ext
  simp
theorem heap_lt {w : World} {g : Nat} {o : Obj} (h : w.heap[g]? = some o) : g < w.heap.size := by
  rcases Nat.lt_or_ge g w.heap.size with hl | hl
  · exact hl
  · rw [Array.getElem?_eq_none hl] at h; cases h
theorem cutL_in {l : List UInt8} {a n : Nat} (h : a + n ≤ l.length) : cutL l (a : Int) (n : Int) = piece l a n ∧ cutE l (a : Int) (n : Int) = 0 := by
  have hh : Has l.length (a : Int) (n : Int) := ⟨by omega, by omega, by omega⟩
  unfold cutL cutE
  rw [if_pos hh, if_pos hh]
  exact ⟨rfl, rfl⟩
/-- The number in the two bytes, and in the four bytes, at a place. -/
def n2 (l : List UInt8) (a : Nat) : Nat := bv (piece l a 2) 0
def n4 (l : List UInt8) (a : Nat) : Nat := bv (piece l a 4) 0
theorem n2_lt (l : List UInt8) (a : Nat) : n2 l a < 65536 := bv_le _ 2 (piece_len_le l a 2)
theorem n4_lt (l : List UInt8) (a : Nat) : n4 l a < 4294967296 := bv_le _ 4 (piece_len_le l a 4)
theorem bv_app : ∀ (x y : List UInt8) (n : Nat), bv (x ++ y) n = bv y (bv x n)
  | [], _, _ => rfl
  | _ :: x, y, _ => bv_app x y _
theorem n4_two {l : List UInt8} {a : Nat} (h : a + 4 ≤ l.length) : n4 l a = n2 l a * 65536 + n2 l (a + 2) := by
  unfold n4 n2
  have e1 : piece l a 4 = piece l a 2 ++ piece l (a + 2) 2 := by
    unfold piece
    rw [show (4 : Nat) = 2 + 2 from rfl, List.take_add, List.drop_drop]
  have h2 : (piece l (a + 2) 2).length = 2 := piece_len (by omega)
  rw [e1, bv_app]
  generalize piece l (a + 2) 2 = y at h2
  generalize bv (piece l a 2) 0 = n
  match y, h2 with
  | [c, d], _ => simp only [bv]; omega
/-- A number of two bytes, with its sign. -/
def sg16 (m : Nat) : Int := if 32768 ≤ m then (m : Int) - 65536 else m
theorem wrap_i16n (m : Nat) (h : m < 65536) : IntKind.i16.wrap (m : Int) = sg16 m := by
  have h1 : IntKind.i16.wrap (m : Int) = ((m : Int) + 32768) % 65536 - 32768 := by
    simp only [IntKind.wrap, IntKind.bits, IntKind.signed]
    simp
    split <;> omega
  rw [h1]
  unfold sg16
  split <;> omega
theorem sg16_in (m : Nat) (h : m < 65536) : -32768 ≤ sg16 m ∧ sg16 m ≤ 32767 := by
  unfold sg16; split <;> omega
set_option maxHeartbeats 2000000 in
theorem plain_any (s : ByteArray) (i : Int) (k : Nat) (hi : i = (k : Int)) (w : World) (hs : s.size ≤ 1000000000) (hk : k + 2 ≤ s.size) :
    Calls Try.prog 33 #[.string s, .int .i64 i] w fun e w' => e = .returned (.int .i64 (n2 s.data.toList k : Int)) ∧ w = w' := by
  have h16 := fun W => u16_any s i W hs (by omega)
  have hc := cutL_in (l := s.data.toList) (a := k) (n := 2) (by rw [size_list]; omega)
  rw [show ((2 : Nat) : Int) = 2 from rfl, ← hi] at hc
  rw [hc.1, hc.2] at h16
  have h16 : ∀ W, Calls Try.prog 47 #[.string s, .int .i64 i] W fun e w' => e = .returned (.tuple #[.int .u16 (n2 s.data.toList k : Int), .int .i64 0]) ∧ W = w' := h16
  have hlt := n2_lt s.data.toList k
  obtain ⟨m, hm⟩ : ∃ m, m = n2 s.data.toList k := ⟨_, rfl⟩
  rw [← hm] at h16 hlt ⊢
  have hw : IntKind.i64.wrap (m : Int) = (m : Int) := i64_in _ (by omega)
  have H := Lib.hid h16
  clear h16 hc hm hlt hs hk hi
  go_enter Try.func33, Try.ntmps33
  go_wp2_with (go_at_call 47; (with_reducible refine (H.out _).mono ?_); rintro e w' ⟨rfl, rfl⟩)
  go_ret
  exact ⟨rfl, rfl⟩
set_option maxHeartbeats 2000000 in
theorem r16_any (s : ByteArray) (i : Int) (k : Nat) (hi : i = (k : Int)) (w : World) (hs : s.size ≤ 1000000000) (hk : k + 2 ≤ s.size) :
    Calls Try.prog 37 #[.string s, .int .i64 i] w fun e w' => e = .returned (.int .i64 (n2 s.data.toList k : Int)) ∧ w = w' := by
  have h16 := fun W => ru16_any s i W hs (by omega)
  have hc := cutL_in (l := s.data.toList) (a := k) (n := 2) (by rw [size_list]; omega)
  rw [show ((2 : Nat) : Int) = 2 from rfl, ← hi] at hc
  rw [hc.1, hc.2] at h16
  have h16 : ∀ W, Calls Try.prog 49 #[.string s, .int .i64 i] W fun e w' => e = .returned (.tuple #[.int .u16 (n2 s.data.toList k : Int), .int .i64 0]) ∧ W = w' := h16
  have hlt := n2_lt s.data.toList k
  obtain ⟨m, hm⟩ : ∃ m, m = n2 s.data.toList k := ⟨_, rfl⟩
  rw [← hm] at h16 hlt ⊢
  have hw : IntKind.i64.wrap (m : Int) = (m : Int) := i64_in _ (by omega)
  have H := Lib.hid h16
  clear h16 hc hm hlt hs hk hi
  go_enter Try.func37, Try.ntmps37
  go_wp2_with (go_at_call 49; (with_reducible refine (H.out _).mono ?_); rintro e w' ⟨rfl, rfl⟩)
  go_ret
  exact ⟨rfl, rfl⟩
set_option maxHeartbeats 2000000 in
theorem r32_any (s : ByteArray) (i : Int) (k : Nat) (hi : i = (k : Int)) (w : World) (hs : s.size ≤ 1000000000) (hk : k + 4 ≤ s.size) :
    Calls Try.prog 38 #[.string s, .int .i64 i] w fun e w' => e = .returned (.int .u32 (n4 s.data.toList k : Int)) ∧ w = w' := by
  have h16 := fun W => ru32_any s i W hs (by omega)
  have hc := cutL_in (l := s.data.toList) (a := k) (n := 4) (by rw [size_list]; omega)
  rw [show ((4 : Nat) : Int) = 4 from rfl, ← hi] at hc
  rw [hc.1, hc.2] at h16
  have h16 : ∀ W, Calls Try.prog 50 #[.string s, .int .i64 i] W fun e w' => e = .returned (.tuple #[.int .u32 (n4 s.data.toList k : Int), .int .i64 0]) ∧ W = w' := h16
  obtain ⟨m, hm⟩ : ∃ m, m = n4 s.data.toList k := ⟨_, rfl⟩
  rw [← hm] at h16 ⊢
  have H := Lib.hid h16
  clear h16 hc hm hs hk hi
  go_enter Try.func38, Try.ntmps38
  go_wp2_with (go_at_call 50; (with_reducible refine (H.out _).mono ?_); rintro e w' ⟨rfl, rfl⟩)
  go_ret
  exact ⟨rfl, rfl⟩
set_option maxHeartbeats 2000000 in
theorem turned_any (s : ByteArray) (i : Int) (k : Nat) (hi : i = (k : Int)) (w : World) (hs : s.size ≤ 1000000000) (hk : k + 2 ≤ s.size) :
    Calls Try.prog 36 #[.string s, .int .i64 i] w fun e w' => e = .returned (.int .i64 (sg16 (n2 s.data.toList k))) ∧ w = w' := by
  have hp := fun W => plain_any s i k hi W hs hk
  have hlt := n2_lt s.data.toList k
  obtain ⟨m, hm⟩ : ∃ m, m = n2 s.data.toList k := ⟨_, rfl⟩
  rw [← hm] at hp hlt ⊢
  have hw := wrap_i16n m hlt
  have hin := sg16_in m hlt
  obtain ⟨z, hz⟩ : ∃ z, z = sg16 m := ⟨_, rfl⟩
  rw [← hz] at hw hin ⊢
  have hw2 : IntKind.i64.wrap z = z := i64_in _ (by omega)
  have H := Lib.hid hp
  clear hp hm hlt hz hin hs hk hi
  go_enter Try.func36, Try.ntmps36
  go_wp2_with (go_at_call 33; (with_reducible refine (H.out _).mono ?_); rintro e w' ⟨rfl, rfl⟩)
  go_ret
  exact ⟨rfl, rfl⟩
set_option maxHeartbeats 2000000 in
theorem begins_any (s : ByteArray) (w : World) (hs : s.size ≤ 1000000000) (hk : 4 ≤ s.size) :
    Calls Try.prog 34 #[.string s] w fun e w' => e = .returned (.bool (decide (n4 s.data.toList 0 = 65536))) ∧ w = w' := by
  have h16 := fun W => u32_any s 0 W hs (by omega)
  have hc := cutL_in (l := s.data.toList) (a := 0) (n := 4) (by rw [size_list]; omega)
  rw [show ((4 : Nat) : Int) = 4 from rfl, show ((0 : Nat) : Int) = 0 from rfl] at hc
  rw [hc.1, hc.2] at h16
  have h16 : ∀ W, Calls Try.prog 48 #[.string s, .int .i64 0] W fun e w' => e = .returned (.tuple #[.int .u32 (n4 s.data.toList 0 : Int), .int .i64 0]) ∧ W = w' := h16
  obtain ⟨m, hm⟩ : ∃ m, m = n4 s.data.toList 0 := ⟨_, rfl⟩
  rw [← hm] at h16 ⊢
  have H := Lib.hid h16
  have hd : ((m : Int) == 65536) = decide (m = 65536) := by
    by_cases h : m = 65536
    · subst h; rfl
    · rw [decide_eq_false h]; simp; omega
  obtain ⟨b, hb⟩ : ∃ b, b = decide (m = 65536) := ⟨_, rfl⟩
  rw [← hb] at hd ⊢
  clear h16 hc hm hs hk hb
  go_enter Try.func34, Try.ntmps34
  go_wp2_with (go_at_call 48; (with_reducible refine (H.out _).mono ?_); rintro e w' ⟨rfl, rfl⟩)
  go_ret
  exact ⟨rfl, rfl⟩
set_option maxHeartbeats 2000000 in
theorem marked_any (s : ByteArray) (w : World) (hs : s.size ≤ 1000000000) (hk : 16 ≤ s.size) :
    Calls Try.prog 35 #[.string s] w fun e w' => e = .returned (.bool (decide (n4 s.data.toList 12 = 1594834165))) ∧ w = w' := by
  have h16 := fun W => u32_any s 12 W hs (by omega)
  have hc := cutL_in (l := s.data.toList) (a := 12) (n := 4) (by rw [size_list]; omega)
  rw [show ((4 : Nat) : Int) = 4 from rfl, show ((12 : Nat) : Int) = 12 from rfl] at hc
  rw [hc.1, hc.2] at h16
  have h16 : ∀ W, Calls Try.prog 48 #[.string s, .int .i64 12] W fun e w' => e = .returned (.tuple #[.int .u32 (n4 s.data.toList 12 : Int), .int .i64 0]) ∧ W = w' := h16
  obtain ⟨m, hm⟩ : ∃ m, m = n4 s.data.toList 12 := ⟨_, rfl⟩
  rw [← hm] at h16 ⊢
  have H := Lib.hid h16
  have hd : ((m : Int) == 1594834165) = decide (m = 1594834165) := by
    by_cases h : m = 1594834165
    · subst h; rfl
    · rw [decide_eq_false h]; simp; omega
  obtain ⟨b, hb⟩ : ∃ b, b = decide (m = 1594834165) := ⟨_, rfl⟩
  rw [← hb] at hd ⊢
  clear h16 hc hm hs hk hb
  go_enter Try.func35, Try.ntmps35
  go_wp2_with (go_at_call 48; (with_reducible refine (H.out _).mono ?_); rintro e w' ⟨rfl, rfl⟩)
  go_ret
  exact ⟨rfl, rfl⟩
end Go.Proofs.Ytphnapnmeidgkaa
