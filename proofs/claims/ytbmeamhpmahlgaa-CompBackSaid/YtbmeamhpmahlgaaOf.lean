/- Proved here: what a reader's pass and next answer, and the document's Take and Num. Condition: the reader lies in a block of its own, its text has at most a billion bytes. -/
import Derived.Test.YtbmeamhpmahlgaaOe
namespace Go.Proofs.Ytbmeamhpmahlgaa
open Go.RowKit

/-- Whether n bytes are passed. -/
def okR (L a : Nat) (f : Bool) (n : Int) : Bool := !f && decide (Has L a n)
def nxA (L a : Nat) (f : Bool) (n : Int) : Nat := if okR L a f n then a + n.toNat else a
def outR (l : List UInt8) (a : Nat) (f : Bool) (n : Int) : List UInt8 := if okR l.length a f n then piece l a n.toNat else []
theorem nxA_le {L a : Nat} {f : Bool} {n : Int} (h : a ≤ L) : nxA L a f n ≤ L := by
  unfold nxA
  split
  · rename_i h1
    unfold okR at h1
    simp only [Bool.and_eq_true] at h1
    have := (of_decide_eq_true h1.2)
    obtain ⟨h2, h3, h4⟩ := this
    omega
  · exact h
theorem outR_len (l : List UInt8) (a : Nat) (f : Bool) (n : Nat) : (outR l a f (n : Int)).length ≤ n := by
  unfold outR
  split
  · simpa using piece_len_le l a n
  · simp
/-- What a call that passes bytes leaves in memory. -/
def PsE (T : TypeId) (g : Nat) (s : ByteArray) (a : Nat) (f : Bool) (n : Int) (w w' : World) : Prop := Rd T w' g s (nxA s.size a f n) (!okR s.size a f n) ∧ Onl g w w'
set_option maxHeartbeats 2000000 in
theorem pass_any (g : Nat) (s : ByteArray) (a : Nat) (f : Bool) (n : Int) (w : World) (h : Rd 79 w g s a f) (hs : s.size ≤ 1000000000) (ha : a ≤ s.size) :
    Calls Try.prog 47 #[.pointer (some ⟨g, 0, none⟩), .int .i64 n] w fun e w' => e = .returned (.bool (okR s.size a f n)) ∧ PsE 79 g s a f n w w' := by
  have HR := Lib.hid h
  have HE := Lib.hid (fun W hW => err_any g s a f W hW)
  have HH := Lib.hid (fun W => (has_any s (a : Int) n W hs (by omega)).mono fun _ _ h => And.intro h.1 h.2.symm)
  have HO := Lib.hid (Onl.refl g w)
  obtain ⟨f1, f2, f3, f4, f5⟩ := HR.out.facts
  cases f
  · by_cases hn : Has s.size a n
    · have e1 : okR s.size a false n = true := by unfold okR; simp [hn]
      have e2 : nxA s.size a false n = a + n.toNat := by unfold nxA; rw [if_pos e1]
      unfold PsE
      rw [e1, e2]
      rw [decide_eq_true hn] at HH
      have hw : IntKind.i64.wrap ((a : Int) + n) = ((a + n.toNat : Nat) : Int) := by
        obtain ⟨h1, h2, h3⟩ := hn
        rw [i64_in _ (by omega)]; omega
      obtain ⟨b, hb⟩ : ∃ b, b = a + n.toNat := ⟨_, rfl⟩
      rw [← hb] at hw ⊢
      clear hb hn h
      go_enter Try.func47, Try.ntmps47
      go_wp2_with (go_at_call 28; (with_reducible refine (HE.out _ HR.out).mono ?_); rintro e w' ⟨rfl, rfl⟩)
      go_quiet ((go_at_call 49; exact Calls.quiet_of_same (HH.out _)))
      all_goals
        go_wp2_with fail
        go_ret
        exact ⟨rfl, Rd.set1 (w := w.drewN _) HR.out b, (Onl.of (below_drewN (Below.refl _ _) _)).trans (Onl.set g (w.drewN _) 1 _)⟩
    · have e1 : okR s.size a false n = false := by unfold okR; simp [hn]
      have e2 : nxA s.size a false n = a := by unfold nxA; rw [if_neg (by rw [e1]; simp)]
      unfold PsE
      rw [e1, e2]
      rw [decide_eq_false hn] at HH
      clear hn h
      go_enter Try.func47, Try.ntmps47
      go_wp2_with (go_at_call 28; (with_reducible refine (HE.out _ HR.out).mono ?_); rintro e w' ⟨rfl, rfl⟩)
      go_quiet ((go_at_call 49; exact Calls.quiet_of_same (HH.out _)))
      all_goals
        go_wp2_with fail
        go_ret
        exact ⟨rfl, Rd.set2 (w := w.drewN _) HR.out true, (Onl.of (below_drewN (Below.refl _ _) _)).trans (Onl.set g (w.drewN _) 2 _)⟩
  · have e1 : okR s.size a true n = false := rfl
    have e2 : nxA s.size a true n = a := rfl
    unfold PsE
    rw [e1, e2]
    clear h
    go_enter Try.func47, Try.ntmps47
    go_wp2_with (go_at_call 28; (with_reducible refine (HE.out _ HR.out).mono ?_); rintro e w' ⟨rfl, rfl⟩)
    go_ret
    exact ⟨rfl, HR.out, HO.out⟩
end Go.Proofs.Ytbmeamhpmahlgaa
