/- Proved here: what a reader's calls answer, told by where it stands. Condition: a text of at most a billion bytes. -/
import Derived.Test.YtbmpdpajnmjfpaaTa
namespace Go.Proofs.Ytbmpdpajnmjfpaa
open Go.RowKit

theorem pass_false {L a : Nat} {f : Bool} {n : Nat} (h : (!okR L a f (n : Int)) = false) : f = false ∧ a + n ≤ L ∧ nxA L a f (n : Int) = a + n ∧ okR L a f (n : Int) = true := by
  have h1 : okR L a f (n : Int) = true := by simpa using h
  have h2 := h1
  unfold okR at h2
  simp only [Bool.and_eq_true, Bool.not_eq_true'] at h2
  have h3 : Has L (a : Int) (n : Int) := of_decide_eq_true h2.2
  obtain ⟨_, _, h4⟩ := h3
  exact ⟨h2.1, by omega, by unfold nxA; rw [if_pos h1, Int.toNat_natCast], h1⟩
theorem pass_true {L a : Nat} {f : Bool} {n : Nat} (h : (!okR L a f (n : Int)) = true) : f = true ∨ L < a + n := by
  have h1 : okR L a f (n : Int) = false := by simpa using h
  unfold okR at h1
  cases f
  · right
    simp at h1
    unfold Has at h1
    omega
  · exact .inl rfl
/-- Behind a reading of n bytes: where the reader stands, and whether it has failed. -/
structure NxS (L a : Nat) (f : Bool) (n a' : Nat) (f' : Bool) : Prop where
  le : a' ≤ L
  yes : f' = false → f = false ∧ a + n ≤ L ∧ a' = a + n
  no : f' = true → f = true ∨ L < a + n
theorem NxS.of {L a : Nat} {f : Bool} {n : Nat} (ha : a ≤ L) : NxS L a f n (nxA L a f (n : Int)) (!okR L a f (n : Int)) :=
  ⟨nxA_le ha, fun h => by obtain ⟨h1, h2, h3, _⟩ := pass_false h; exact ⟨h1, h2, h3⟩, pass_true⟩
theorem rd16_any (g : Nat) (s : ByteArray) (a : Nat) (f : Bool) (w : World) (h : Rd 106 w g s a f) (hs : s.size ≤ 1000000000) (ha : a ≤ s.size) :
    Calls Try.prog 37 #[.pointer (some ⟨g, 0, none⟩)] w fun e w' => ∃ (v a' : Nat) (f' : Bool), e = .returned (.int .u16 (v : Int)) ∧ v < 65536 ∧ NxS s.size a f 2 a' f' ∧ (f' = false → v = n2 s.data.toList a) ∧ Rd 106 w' g s a' f' ∧ Onl g w w' := by
  refine (rdu16_any g s a f w h hs ha).mono fun e w' ⟨h1, h2, h3⟩ => ⟨_, _, _, h1, bv_le _ 2 (outR_len s.data.toList a f 2), NxS.of (n := 2) ha, fun hf => ?_, h2, h3⟩
  obtain ⟨_, _, _, h5⟩ := pass_false (n := 2) hf
  rw [show s.size = s.data.toList.length from (size_list s).symm] at h5
  rw [show (2 : Int) = ((2 : Nat) : Int) from rfl, outR_yes h5]
  rfl
theorem rd32_any (g : Nat) (s : ByteArray) (a : Nat) (f : Bool) (w : World) (h : Rd 106 w g s a f) (hs : s.size ≤ 1000000000) (ha : a ≤ s.size) :
    Calls Try.prog 40 #[.pointer (some ⟨g, 0, none⟩)] w fun e w' => ∃ (v a' : Nat) (f' : Bool), e = .returned (.int .u32 (v : Int)) ∧ v < 4294967296 ∧ NxS s.size a f 4 a' f' ∧ (f' = false → v = n4 s.data.toList a) ∧ Rd 106 w' g s a' f' ∧ Onl g w w' := by
  refine (rdu32_any g s a f w h hs ha).mono fun e w' ⟨h1, h2, h3⟩ => ⟨_, _, _, h1, bv_le _ 4 (outR_len s.data.toList a f 4), NxS.of (n := 4) ha, fun hf => ?_, h2, h3⟩
  obtain ⟨_, _, _, h5⟩ := pass_false (n := 4) hf
  rw [show s.size = s.data.toList.length from (size_list s).symm] at h5
  rw [show (4 : Int) = ((4 : Nat) : Int) from rfl, outR_yes h5]
  rfl
theorem rdskip_any (g : Nat) (s : ByteArray) (a : Nat) (f : Bool) (n : Nat) (w : World) (h : Rd 106 w g s a f) (hs : s.size ≤ 1000000000) (ha : a ≤ s.size) :
    Calls Try.prog 55 #[.pointer (some ⟨g, 0, none⟩), .int .i64 (n : Int)] w fun e w' => ∃ (a' : Nat) (f' : Bool), e = .returned (.tuple #[]) ∧ NxS s.size a f n a' f' ∧ Rd 106 w' g s a' f' ∧ Onl g w w' :=
  (skip_any g s a f (n : Int) w h hs ha).mono fun _e _w' ⟨h1, h2, h3⟩ => ⟨_, _, h1, NxS.of ha, h2, h3⟩
/-- While a reader reads: all else is as it was. -/
structure RdS (w W : World) (g : Nat) (s : ByteArray) (a : Nat) (f : Bool) : Prop where
  bel : Below w.heap.size w W
  og : w.heap.size ≤ g
  rd : Rd 106 W g s a f
  le : a ≤ s.size
section
variable {w W W' : World} {g : Nat} {s : ByteArray} {a : Nat} {f : Bool}
theorem RdS.next (h : RdS w W g s a f) (hb : Below W.heap.size W W') : RdS w W' g s a f := ⟨h.bel.trans (hb.mono h.bel.size), h.og, h.rd.bel hb, h.le⟩
theorem RdS.read (h : RdS w W g s a f) {n a' : Nat} {f' : Bool} (hn : NxS s.size a f n a' f') (hr : Rd 106 W' g s a' f') (ho : Onl g W W') : RdS w W' g s a' f' := ⟨h.bel.trans (ho.below h.og h.bel.size), h.og, hr, hn.le⟩
end
end Go.Proofs.Ytbmpdpajnmjfpaa
