/- Proved here: what the document's reader answers. Condition: it lies in a block of its own, its text has at most a billion bytes. -/
import Derived.Test.YtbmeamhpmahlgaaOg
namespace Go.Proofs.Ytbmeamhpmahlgaa
open Go.RowKit

set_option maxHeartbeats 2000000 in
theorem take_any (g : Nat) (s : ByteArray) (a : Nat) (f : Bool) (n : Int) (w : World) (h : Rd 62 w g s a f) (hs : s.size ≤ 1000000000) (ha : a ≤ s.size) :
    Calls Try.prog 65 #[.pointer (some ⟨g, 0, none⟩), .int .i64 n] w fun e w' => e = .returned (.string ⟨(outR s.data.toList a f n).toArray⟩) ∧ PsE 62 g s a f n w w' := by
  have hsz : s.data.toList.length = s.size := by simp
  have hh := fun W => (rcut_any s (a : Int) n W hs (by omega)).mono fun _ _ h => And.intro h.1 h.2.symm
  have HR := Lib.hid h
  obtain ⟨f1, f2, f3, f4, f5⟩ := HR.out.facts
  unfold cutE cutL at hh
  rw [hsz, Int.toNat_natCast] at hh
  unfold outR
  rw [hsz]
  by_cases hn : Has s.size a n
  · rw [if_pos hn, if_pos hn] at hh
    obtain ⟨D, hD⟩ : ∃ D : ByteArray, D = ⟨(piece s.data.toList a n.toNat).toArray⟩ := ⟨_, rfl⟩
    cases f
    · have e1 : okR s.size a false n = true := by unfold okR; simp [hn]
      have e2 : nxA s.size a false n = a + n.toNat := by unfold nxA; rw [if_pos e1]
      unfold PsE
      rw [e1, e2]
      rw [if_pos rfl]
      rw [← hD] at hh ⊢
      have HH := Lib.hid hh
      have hw : IntKind.i64.wrap ((a : Int) + n) = ((a + n.toNat : Nat) : Int) := by
        obtain ⟨h1, h2, h3⟩ := hn
        rw [i64_in _ (by omega)]; omega
      obtain ⟨b, hb⟩ : ∃ b, b = a + n.toNat := ⟨_, rfl⟩
      rw [← hb] at hw ⊢
      clear hb hn h hh hD e1 e2
      go_enter Try.func65, Try.ntmps65
      go_wp2_with fail
      go_quiet ((go_at_call 74; exact Calls.quiet_of_same (HH.out _)))
      all_goals
        go_wp2_with fail
        go_ret
        exact ⟨rfl, Rd.set1 (w := w.drewN _) HR.out b, (Onl.of (below_drewN (Below.refl _ _) _)).trans (Onl.set g (w.drewN _) 1 _)⟩
    · have e1 : okR s.size a true n = false := rfl
      have e2 : nxA s.size a true n = a := rfl
      unfold PsE
      rw [e1, e2]
      rw [if_neg (by simp)]
      rw [← hD] at hh
      have HH := Lib.hid hh
      clear hn h hh hD e1 e2
      go_enter Try.func65, Try.ntmps65
      go_wp2_with fail
      go_quiet ((go_at_call 74; exact Calls.quiet_of_same (HH.out _)))
      all_goals
        go_wp2_with fail
        go_ret
        exact ⟨rfl, Rd.set2 (w := w.drewN _) HR.out true, (Onl.of (below_drewN (Below.refl _ _) _)).trans (Onl.set g (w.drewN _) 2 _)⟩
  · rw [if_neg hn, if_neg hn] at hh
    have e1 : okR s.size a f n = false := by unfold okR; simp [hn]
    have e2 : nxA s.size a f n = a := by unfold nxA; rw [if_neg (by rw [e1]; simp)]
    unfold PsE
    rw [e1, e2]
    rw [if_neg (by simp)]
    have HH := Lib.hid hh
    clear hn h hh e1 e2
    cases f
    all_goals
      go_enter Try.func65, Try.ntmps65
      go_wp2_with fail
      go_quiet ((go_at_call 74; exact Calls.quiet_of_same (HH.out _)))
      all_goals
        go_wp2_with fail
        go_ret
        exact ⟨rfl, Rd.set2 (w := w.drewN _) HR.out true, (Onl.of (below_drewN (Below.refl _ _) _)).trans (Onl.set g (w.drewN _) 2 _)⟩
theorem rnum_read (g : Nat) (s : ByteArray) (a : Nat) (f : Bool) (n : Nat) (w : World) (h : Rd 62 w g s a f) (hs : s.size ≤ 1000000000) (ha : a ≤ s.size) (hn : n ≤ 4) :
    Calls Try.prog 51 #[.pointer (some ⟨g, 0, none⟩), .int .i64 (n : Int)] w fun e w' => e = .returned (.int .u32 (bv (outR s.data.toList a f (n : Int)) 0 : Int)) ∧ PsE 62 g s a f (n : Int) w w' := by
  have HT := Lib.hid (take_any g s a f (n : Int) w h hs ha)
  have hpl := outR_len s.data.toList a f n
  obtain ⟨D, hD⟩ : ∃ D : ByteArray, D = ⟨(outR s.data.toList a f (n : Int)).toArray⟩ := ⟨_, rfl⟩
  have hnum := fun W => rnum_any D W (by rw [hD]; simp only; omega)
  have hDl : D.data.toList = outR s.data.toList a f (n : Int) := by rw [hD]
  rw [hDl] at hnum
  rw [← hD] at HT
  have HN := Lib.hid hnum
  clear h hpl hD hDl hnum
  go_enter Try.func51, Try.ntmps51
  go_wp2_with (first
    | (go_at_call 65; (with_reducible refine HT.out.mono ?_); rintro e w1 ⟨rfl, hp⟩; have H1 := Lib.hid hp; clear hp)
    | (go_at_call 64; (with_reducible refine (HN.out _).mono ?_); rintro e w' ⟨rfl, rfl⟩))
  go_ret
  exact ⟨rfl, H1.out⟩
set_option maxHeartbeats 2000000 in
theorem ri16_any (g : Nat) (s : ByteArray) (a : Nat) (f : Bool) (w : World) (h : Rd 62 w g s a f) (hs : s.size ≤ 1000000000) (ha : a ≤ s.size) :
    Calls Try.prog 52 #[.pointer (some ⟨g, 0, none⟩)] w fun e w' => e = .returned (.int .i64 (sg16 (bv (outR s.data.toList a f 2) 0))) ∧ PsE 62 g s a f 2 w w' := by
  have HP := Lib.hid (rnum_read g s a f 2 w h hs ha (by omega))
  have hlt := bv_le _ 2 (outR_len s.data.toList a f 2)
  rw [show ((2 : Nat) : Int) = 2 from rfl] at HP hlt
  obtain ⟨m, hm⟩ : ∃ m, m = bv (outR s.data.toList a f 2) 0 := ⟨_, rfl⟩
  rw [← hm] at HP hlt ⊢
  clear h hm
  unfold sg16
  have hw : IntKind.i64.wrap ((m : Int) - 65536) = (m : Int) - 65536 := i64_in _ (by omega)
  by_cases h3 : 32768 ≤ m
  · have hd : decide (32768 ≤ (m : Int)) = true := decide_eq_true (by omega)
    rw [if_pos h3]
    clear h3
    go_enter Try.func52, Try.ntmps52
    go_wp2_with (go_at_call 51; (with_reducible refine HP.out.mono ?_); rintro e w1 ⟨rfl, hp⟩; have H1 := Lib.hid hp; clear hp)
    go_ret
    exact ⟨rfl, H1.out⟩
  · have hd : decide (32768 ≤ (m : Int)) = false := decide_eq_false (by omega)
    rw [if_neg h3]
    clear h3
    go_enter Try.func52, Try.ntmps52
    go_wp2_with (go_at_call 51; (with_reducible refine HP.out.mono ?_); rintro e w1 ⟨rfl, hp⟩; have H1 := Lib.hid hp; clear hp)
    go_ret
    exact ⟨rfl, H1.out⟩
end Go.Proofs.Ytbmeamhpmahlgaa
