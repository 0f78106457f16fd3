/- Proved here: what a reader's calls that read or skip answer. Condition: the reader lies in a block of its own, its text has at most a billion bytes. -/
import Derived.Test.YtbmeamhpmahlgaaOf
namespace Go.Proofs.Ytbmeamhpmahlgaa
open Go.RowKit

theorem outR_yes {l : List UInt8} {a : Nat} {f : Bool} {n : Nat} (h : okR l.length a f n = true) : outR l a f n = piece l a n := by
  unfold outR
  rw [if_pos h, Int.toNat_natCast]
theorem outR_no {l : List UInt8} {a : Nat} {f : Bool} {n : Int} (h : okR l.length a f n = false) : outR l a f n = [] := by
  unfold outR
  rw [if_neg (by rw [h]; simp)]
set_option maxHeartbeats 2000000 in
theorem next_any (g : Nat) (s : ByteArray) (a : Nat) (f : Bool) (n : Nat) (w : World) (h : Rd 79 w g s a f) (hs : s.size ≤ 1000000000) (ha : a ≤ s.size) (hn : n ≤ 4) :
    Calls Try.prog 71 #[.pointer (some ⟨g, 0, none⟩), .int .i64 (n : Int)] w fun e w' => e = .returned (.int .u32 (bv (outR s.data.toList a f (n : Int)) 0 : Int)) ∧ PsE 79 g s a f (n : Int) w w' := by
  have HP := Lib.hid (pass_any g s a f (n : Int) w h hs ha)
  have hsz : s.data.toList.length = s.size := by simp
  rcases hb : okR s.size a f (n : Int) with _ | _
  · rw [outR_no (by rw [hsz]; exact hb)]
    rw [hb] at HP
    clear h hb hsz
    go_enter Try.func71, Try.ntmps71
    go_wp2_with (go_at_call 47; (with_reducible refine HP.out.mono ?_); rintro e w1 ⟨rfl, hp⟩; have H1 := Lib.hid hp; clear hp)
    go_ret
    exact ⟨rfl, H1.out⟩
  · rw [outR_yes (by rw [hsz]; exact hb)]
    have hA : nxA s.size a f (n : Int) = a + n := by unfold nxA; rw [if_pos hb, Int.toNat_natCast]
    have hle : a + n ≤ s.size := by rw [← hA]; exact nxA_le ha
    rw [hb] at HP
    have hsub := fun W => sub_run s (a : Int) ((a + n : Nat) : Int) (by omega) (by omega) (by omega) W
    rw [Int.toNat_natCast, show (((a + n : Nat) : Int) - (a : Int)).toNat = n by omega] at hsub
    have hw : IntKind.i64.wrap (((a + n : Nat) : Int) - (n : Int)) = (a : Int) := by rw [i64_in _ (by omega)]; omega
    have hpl := piece_len_le s.data.toList a n
    obtain ⟨D, hD⟩ : ∃ D : ByteArray, D = ⟨(piece s.data.toList a n).toArray⟩ := ⟨_, rfl⟩
    have hnum := fun W => (num_any D W (by rw [hD]; simp only; omega)).mono fun _ _ h => And.intro h.1 h.2.symm
    rw [← hD] at hsub
    have hDl : D.data.toList = piece s.data.toList a n := by rw [hD]
    rw [hDl] at hnum
    obtain ⟨m, hm⟩ : ∃ m, m = bv (piece s.data.toList a n) 0 := ⟨_, rfl⟩
    rw [← hm] at hnum ⊢
    have HN := Lib.hid hnum
    have HA := Lib.hid hA
    obtain ⟨b, hbb⟩ : ∃ b, b = a + n := ⟨_, rfl⟩
    rw [← hbb] at hsub hw HA
    clear h hb hsz hA hD hDl hm hnum hpl hbb hle
    go_enter Try.func71, Try.ntmps71
    go_wp2_with (go_at_call 47; (with_reducible refine HP.out.mono ?_); rintro e w1 ⟨rfl, hp⟩; have H1 := Lib.hid hp; have hr := hp.1; rw [HA.out] at hr; obtain ⟨f1, f2, f3, f4, f5⟩ := hr.facts; clear hp hr)
    go_quiet ((go_at_call 50; exact Calls.quiet_of_same (HN.out _)))
    all_goals
      go_wp2_with fail
      go_ret
      exact ⟨rfl, H1.out.1, H1.out.2.trans (Onl.of (below_drewN (Below.refl _ _) _))⟩
theorem ru8_any (g : Nat) (s : ByteArray) (a : Nat) (f : Bool) (w : World) (h : Rd 79 w g s a f) (hs : s.size ≤ 1000000000) (ha : a ≤ s.size) :
    Calls Try.prog 73 #[.pointer (some ⟨g, 0, none⟩)] w fun e w' => e = .returned (.int .u8 (bv (outR s.data.toList a f 1) 0 : Int)) ∧ PsE 79 g s a f 1 w w' := by
  have HP := Lib.hid (next_any g s a f 1 w h hs ha (by omega))
  have hlt := bv_le _ 1 (outR_len s.data.toList a f 1)
  rw [show ((1 : Nat) : Int) = 1 from rfl] at HP hlt
  obtain ⟨m, hm⟩ : ∃ m, m = bv (outR s.data.toList a f 1) 0 := ⟨_, rfl⟩
  rw [← hm] at HP hlt ⊢
  have hw := wrap_u8n m hlt
  clear h hm
  go_enter Try.func73, Try.ntmps73
  go_wp2_with (go_at_call 71; (with_reducible refine HP.out.mono ?_); rintro e w1 ⟨rfl, hp⟩; have H1 := Lib.hid hp; clear hp)
  go_ret
  exact ⟨rfl, H1.out⟩
theorem rdu16_any (g : Nat) (s : ByteArray) (a : Nat) (f : Bool) (w : World) (h : Rd 79 w g s a f) (hs : s.size ≤ 1000000000) (ha : a ≤ s.size) :
    Calls Try.prog 60 #[.pointer (some ⟨g, 0, none⟩)] w fun e w' => e = .returned (.int .u16 (bv (outR s.data.toList a f 2) 0 : Int)) ∧ PsE 79 g s a f 2 w w' := by
  have HP := Lib.hid (next_any g s a f 2 w h hs ha (by omega))
  have hlt := bv_le _ 2 (outR_len s.data.toList a f 2)
  rw [show ((2 : Nat) : Int) = 2 from rfl] at HP hlt
  obtain ⟨m, hm⟩ : ∃ m, m = bv (outR s.data.toList a f 2) 0 := ⟨_, rfl⟩
  rw [← hm] at HP hlt ⊢
  have hw := wrap_u16n m hlt
  clear h hm
  go_enter Try.func60, Try.ntmps60
  go_wp2_with (go_at_call 71; (with_reducible refine HP.out.mono ?_); rintro e w1 ⟨rfl, hp⟩; have H1 := Lib.hid hp; clear hp)
  go_ret
  exact ⟨rfl, H1.out⟩
/-- A number of 16 bits, with its sign. -/
def sg16 (m : Nat) : Int := if 32768 ≤ m then (m : Int) - 65536 else m
theorem wrap_i16n (m : Nat) (h : m < 65536) : IntKind.i16.wrap (m : Int) = sg16 m := by
  have h1 : IntKind.i16.wrap (m : Int) = ((m : Int) + 32768) % 65536 - 32768 := by
    simp only [IntKind.wrap, IntKind.bits, IntKind.signed]
    simp
    split <;> omega
  rw [h1]
  unfold sg16
  split <;> omega
theorem i16_any (g : Nat) (s : ByteArray) (a : Nat) (f : Bool) (w : World) (h : Rd 79 w g s a f) (hs : s.size ≤ 1000000000) (ha : a ≤ s.size) :
    Calls Try.prog 72 #[.pointer (some ⟨g, 0, none⟩)] w fun e w' => e = .returned (.int .i16 (sg16 (bv (outR s.data.toList a f 2) 0))) ∧ PsE 79 g s a f 2 w w' := by
  have HP := Lib.hid (next_any g s a f 2 w h hs ha (by omega))
  have hlt := bv_le _ 2 (outR_len s.data.toList a f 2)
  rw [show ((2 : Nat) : Int) = 2 from rfl] at HP hlt
  obtain ⟨m, hm⟩ : ∃ m, m = bv (outR s.data.toList a f 2) 0 := ⟨_, rfl⟩
  rw [← hm] at HP hlt ⊢
  have hw := wrap_i16n m hlt
  clear h hm
  go_enter Try.func72, Try.ntmps72
  go_wp2_with (go_at_call 71; (with_reducible refine HP.out.mono ?_); rintro e w1 ⟨rfl, hp⟩; have H1 := Lib.hid hp; clear hp)
  go_ret
  exact ⟨rfl, H1.out⟩
theorem skip_any (g : Nat) (s : ByteArray) (a : Nat) (f : Bool) (n : Int) (w : World) (h : Rd 79 w g s a f) (hs : s.size ≤ 1000000000) (ha : a ≤ s.size) :
    Calls Try.prog 27 #[.pointer (some ⟨g, 0, none⟩), .int .i64 n] w fun e w' => e = .returned (.tuple #[]) ∧ PsE 79 g s a f n w w' := by
  have HP := Lib.hid (pass_any g s a f n w h hs ha)
  clear h
  go_enter Try.func27, Try.ntmps27
  go_wp2_with (go_at_call 47; (with_reducible refine HP.out.mono ?_); rintro e w1 ⟨rfl, hp⟩; have H1 := Lib.hid hp; clear hp)
  exact bodyPost_end (results_none rfl _ _ _) rfl ⟨rfl, H1.out⟩
end Go.Proofs.Ytbmeamhpmahlgaa
