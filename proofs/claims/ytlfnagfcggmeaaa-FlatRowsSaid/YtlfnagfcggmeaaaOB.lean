/- Proved here: what a reader is in memory, and what New, Err, At and Left answer. Condition: the reader lies in a block of its own. · what a reader's pass and next answer, and the document's Take and Num. Condition: the reader lies in a block of its own, its text has at most a billion bytes. · what a reader's calls that read or skip answer. Condition: the reader lies in a block of its own, its text has at most a billion bytes. · what the document's reader answers. Condition: it lies in a block of its own, its text has at most a billion bytes. · the numbers of two and of four bytes at a place, what plain, turned, begins and marked answer, and the document's u16 and u32. Condition: the bytes are there; a text of at most a billion bytes. · what strings.Builder's WriteString and String do, at a builder in a block of the call's own. Condition: fewer than 2^47 bytes. -/
import Derived.Test.YtlfnagfcggmeaaaOA
import Derived.Lib.Builder
import Derived.Lib.AppendStr
namespace Go.Proofs.Ytlfnagfcggmeaaa
open Go.RowKit

/-- A reader in a block of its own: its text, its place, whether it has failed. -/
def Rd (T : TypeId) (w : World) (g : Nat) (s : ByteArray) (a : Nat) (f : Bool) : Prop := w.heap[g]? = some (.cells #[.string s, .int .i64 (a : Int), .bool f] T (0, 0))
/-- Nothing but one block has turned. -/
structure Onl (g : Nat) (w w' : World) : Prop where
  os : w'.os = w.os
  tape : w'.tape = w.tape
  output : w'.output = w.output
  size : w.heap.size ≤ w'.heap.size
  block : ∀ k, k < w.heap.size → k ≠ g → w'.heap[k]? = w.heap[k]?
theorem Onl.below {g B : Nat} {w w' : World} (h : Onl g w w') (h1 : B ≤ g) (h2 : B ≤ w.heap.size) : Below B w w' := ⟨h.os, h.tape, h.output, h.size, fun k hk => h.block k (by omega) (by omega)⟩
theorem Onl.of {g : Nat} {w w' : World} (h : Below w.heap.size w w') : Onl g w w' := ⟨h.os, h.tape, h.output, h.size, fun k hk _ => h.block k hk⟩
theorem Onl.refl (g : Nat) (w : World) : Onl g w w := Onl.of (Below.refl _ _)
theorem Onl.trans {g : Nat} {a b c : World} (h : Onl g a b) (k : Onl g b c) : Onl g a c :=
  ⟨k.os.trans h.os, k.tape.trans h.tape, k.output.trans h.output, Nat.le_trans h.size k.size, fun i hi h2 => (k.block i (Nat.lt_of_lt_of_le hi h.size) h2).trans (h.block i hi h2)⟩
theorem Onl.set (g : Nat) (w : World) (j : Nat) (u : Value) : Onl g w (w.setCell ⟨g, j, none⟩ u) := ⟨rfl, rfl, rfl, by simp [World.setCell], fun _ _ h => Below.heap_setCell w _ u _ h⟩
section
variable {T : TypeId} {w w' : World} {g : Nat} {s : ByteArray} {a : Nat} {f : Bool}
theorem Rd.lt (h : Rd T w g s a f) : g < w.heap.size := by
  rcases Nat.lt_or_ge g w.heap.size with hl | hl
  · exact hl
  · unfold Rd at h; rw [Array.getElem?_eq_none hl] at h; cases h
theorem Rd.c0 (h : Rd T w g s a f) : w.cell? ⟨g, 0, none⟩ = some (.string s) := cell_of_row w g 0 _ T (0, 0) h
theorem Rd.c1 (h : Rd T w g s a f) : w.cell? ⟨g, 1, none⟩ = some (.int .i64 (a : Int)) := cell_of_row w g 1 _ T (0, 0) h
theorem Rd.c2 (h : Rd T w g s a f) : w.cell? ⟨g, 2, none⟩ = some (.bool f) := cell_of_row w g 2 _ T (0, 0) h
theorem Rd.fr (h : Rd T w g s a f) (j : Nat) : w.frozen? ⟨g, j, none⟩ = false := by
  unfold Rd at h
  simp [World.frozen?, h]
theorem Rd.below {B : Nat} (h : Rd T w g s a f) (hb : Below B w w') (hg : g < B) : Rd T w' g s a f := (hb.block g hg).trans h
theorem Rd.bel (h : Rd T w g s a f) (hb : Below w.heap.size w w') : Rd T w' g s a f := h.below hb h.lt
theorem Rd.onl {k : Nat} (h : Rd T w g s a f) (hb : Onl k w w') (hk : g ≠ k) : Rd T w' g s a f := (hb.block g h.lt hk).trans h
theorem Rd.new (T : TypeId) (w : World) (s : ByteArray) : Rd T (w.alloc (.cells #[.string s, .int .i64 0, .bool false] T)) w.heap.size s 0 false := heap_alloc_new w _
theorem Rd.drew (h : Rd T w g s a f) : Rd T w.drew g s a f := h
theorem Rd.set1 (h : Rd T w g s a f) (b : Nat) : Rd T (w.setCell ⟨g, 1, none⟩ (.int .i64 (b : Int))) g s b f := by
  unfold Rd at h ⊢
  simp [World.setCell, Array.getElem?_modify, h]
theorem Rd.set2 (h : Rd T w g s a f) (b : Bool) : Rd T (w.setCell ⟨g, 2, none⟩ (.bool b)) g s a b := by
  unfold Rd at h ⊢
  simp [World.setCell, Array.getElem?_modify, h]
theorem Rd.facts (h : Rd T w g s a f) : w.cell? ⟨g, 0, none⟩ = some (.string s) ∧ w.cell? ⟨g, 1, none⟩ = some (.int .i64 (a : Int)) ∧ w.cell? ⟨g, 2, none⟩ = some (.bool f) ∧ w.frozen? ⟨g, 1, none⟩ = false ∧ w.frozen? ⟨g, 2, none⟩ = false :=
  ⟨h.c0, h.c1, h.c2, h.fr 1, h.fr 2⟩
end
theorem new_any (s : ByteArray) (w : World) : Calls Try.prog 60 #[.string s] w fun e w' => e = .returned (.pointer (some ⟨w.heap.size, 0, none⟩)) ∧ Below w.heap.size w w' ∧ Rd 127 w' w.heap.size s 0 false ∧ w'.heap.size = w.heap.size + 1 := by
  go_enter Try.func60, Try.ntmps60
  go_wp2_with fail
  go_ret
  exact ⟨rfl, (Below.refl _ _).alloc (Nat.le_refl _) _, Rd.new 127 w s, by simp⟩
theorem err_any (g : Nat) (s : ByteArray) (a : Nat) (f : Bool) (w : World) (h : Rd 127 w g s a f) : Calls Try.prog 62 #[.pointer (some ⟨g, 0, none⟩)] w fun e w' => e = .returned (.int .i64 (if f then 3 else 0)) ∧ w = w' := by
  obtain ⟨f1, f2, f3, _, _⟩ := h.facts
  clear h
  cases f
  all_goals
    go_enter Try.func62, Try.ntmps62
    go_wp2_with fail
    go_ret
    exact ⟨rfl, rfl⟩
end Go.Proofs.Ytlfnagfcggmeaaa
namespace Go.Proofs.Ytlfnagfcggmeaaa
open Go.RowKit

/-- Whether n bytes are passed. -/
def okR (L a : Nat) (f : Bool) (n : Int) : Bool := !f && decide (Has L a n)
def nxA (L a : Nat) (f : Bool) (n : Int) : Nat := if okR L a f n then a + n.toNat else a
def outR (l : List UInt8) (a : Nat) (f : Bool) (n : Int) : List UInt8 := if okR l.length a f n then piece l a n.toNat else []
theorem nxA_le {L a : Nat} {f : Bool} {n : Int} (h : a ≤ L) : nxA L a f n ≤ L := by
  unfold nxA
  split
  · rename_i h1
    unfold okR at h1
    simp only [Bool.and_eq_true] at h1
    have := (of_decide_eq_true h1.2)
    obtain ⟨h2, h3, h4⟩ := this
    omega
  · exact h
theorem outR_len (l : List UInt8) (a : Nat) (f : Bool) (n : Nat) : (outR l a f (n : Int)).length ≤ n := by
  unfold outR
  split
  · simpa using piece_len_le l a n
  · simp
/-- What a call that passes bytes leaves in memory. -/
def PsE (T : TypeId) (g : Nat) (s : ByteArray) (a : Nat) (f : Bool) (n : Int) (w w' : World) : Prop := Rd T w' g s (nxA s.size a f n) (!okR s.size a f n) ∧ Onl g w w'
set_option maxHeartbeats 2000000 in
theorem pass_any (g : Nat) (s : ByteArray) (a : Nat) (f : Bool) (n : Int) (w : World) (h : Rd 127 w g s a f) (hs : s.size ≤ 1000000000) (ha : a ≤ s.size) :
    Calls Try.prog 77 #[.pointer (some ⟨g, 0, none⟩), .int .i64 n] w fun e w' => e = .returned (.bool (okR s.size a f n)) ∧ PsE 127 g s a f n w w' := by
  have HR := Lib.hid h
  have HE := Lib.hid (fun W hW => err_any g s a f W hW)
  have HH := Lib.hid (fun W => (has_any s (a : Int) n W hs (by omega)).mono fun _ _ h => And.intro h.1 h.2.symm)
  have HO := Lib.hid (Onl.refl g w)
  obtain ⟨f1, f2, f3, f4, f5⟩ := HR.out.facts
  cases f
  · by_cases hn : Has s.size a n
    · have e1 : okR s.size a false n = true := by unfold okR; simp [hn]
      have e2 : nxA s.size a false n = a + n.toNat := by unfold nxA; rw [if_pos e1]
      unfold PsE
      rw [e1, e2]
      rw [decide_eq_true hn] at HH
      have hw : IntKind.i64.wrap ((a : Int) + n) = ((a + n.toNat : Nat) : Int) := by
        obtain ⟨h1, h2, h3⟩ := hn
        rw [i64_in _ (by omega)]; omega
      obtain ⟨b, hb⟩ : ∃ b, b = a + n.toNat := ⟨_, rfl⟩
      rw [← hb] at hw ⊢
      clear hb hn h
      go_enter Try.func77, Try.ntmps77
      go_wp2_with (go_at_call 62; (with_reducible refine (HE.out _ HR.out).mono ?_); rintro e w' ⟨rfl, rfl⟩)
      go_quiet ((go_at_call 75; exact Calls.quiet_of_same (HH.out _)))
      all_goals
        go_wp2_with fail
        go_ret
        exact ⟨rfl, Rd.set1 (w := w.drewN _) HR.out b, (Onl.of (below_drewN (Below.refl _ _) _)).trans (Onl.set g (w.drewN _) 1 _)⟩
    · have e1 : okR s.size a false n = false := by unfold okR; simp [hn]
      have e2 : nxA s.size a false n = a := by unfold nxA; rw [if_neg (by rw [e1]; simp)]
      unfold PsE
      rw [e1, e2]
      rw [decide_eq_false hn] at HH
      clear hn h
      go_enter Try.func77, Try.ntmps77
      go_wp2_with (go_at_call 62; (with_reducible refine (HE.out _ HR.out).mono ?_); rintro e w' ⟨rfl, rfl⟩)
      go_quiet ((go_at_call 75; exact Calls.quiet_of_same (HH.out _)))
      all_goals
        go_wp2_with fail
        go_ret
        exact ⟨rfl, Rd.set2 (w := w.drewN _) HR.out true, (Onl.of (below_drewN (Below.refl _ _) _)).trans (Onl.set g (w.drewN _) 2 _)⟩
  · have e1 : okR s.size a true n = false := rfl
    have e2 : nxA s.size a true n = a := rfl
    unfold PsE
    rw [e1, e2]
    clear h
    go_enter Try.func77, Try.ntmps77
    go_wp2_with (go_at_call 62; (with_reducible refine (HE.out _ HR.out).mono ?_); rintro e w' ⟨rfl, rfl⟩)
    go_ret
    exact ⟨rfl, HR.out, HO.out⟩
end Go.Proofs.Ytlfnagfcggmeaaa
namespace Go.Proofs.Ytlfnagfcggmeaaa
open Go.RowKit

theorem outR_yes {l : List UInt8} {a : Nat} {f : Bool} {n : Nat} (h : okR l.length a f n = true) : outR l a f n = piece l a n := by
  unfold outR
  rw [if_pos h, Int.toNat_natCast]
theorem outR_no {l : List UInt8} {a : Nat} {f : Bool} {n : Int} (h : okR l.length a f n = false) : outR l a f n = [] := by
  unfold outR
  rw [if_neg (by rw [h]; simp)]
set_option maxHeartbeats 2000000 in
theorem next_any (g : Nat) (s : ByteArray) (a : Nat) (f : Bool) (n : Nat) (w : World) (h : Rd 127 w g s a f) (hs : s.size ≤ 1000000000) (ha : a ≤ s.size) (hn : n ≤ 4) :
    Calls Try.prog 79 #[.pointer (some ⟨g, 0, none⟩), .int .i64 (n : Int)] w fun e w' => e = .returned (.int .u32 (bv (outR s.data.toList a f (n : Int)) 0 : Int)) ∧ PsE 127 g s a f (n : Int) w w' := by
  have HP := Lib.hid (pass_any g s a f (n : Int) w h hs ha)
  have hsz : s.data.toList.length = s.size := by simp
  rcases hb : okR s.size a f (n : Int) with _ | _
  · rw [outR_no (by rw [hsz]; exact hb)]
    rw [hb] at HP
    clear h hb hsz
    go_enter Try.func79, Try.ntmps79
    go_wp2_with (go_at_call 77; (with_reducible refine HP.out.mono ?_); rintro e w1 ⟨rfl, hp⟩; have H1 := Lib.hid hp; clear hp)
    go_ret
    exact ⟨rfl, H1.out⟩
  · rw [outR_yes (by rw [hsz]; exact hb)]
    have hA : nxA s.size a f (n : Int) = a + n := by unfold nxA; rw [if_pos hb, Int.toNat_natCast]
    have hle : a + n ≤ s.size := by rw [← hA]; exact nxA_le ha
    rw [hb] at HP
    have hsub := fun W => sub_run s (a : Int) ((a + n : Nat) : Int) (by omega) (by omega) (by omega) W
    rw [Int.toNat_natCast, show (((a + n : Nat) : Int) - (a : Int)).toNat = n by omega] at hsub
    have hw : IntKind.i64.wrap (((a + n : Nat) : Int) - (n : Int)) = (a : Int) := by rw [i64_in _ (by omega)]; omega
    have hpl := piece_len_le s.data.toList a n
    obtain ⟨D, hD⟩ : ∃ D : ByteArray, D = ⟨(piece s.data.toList a n).toArray⟩ := ⟨_, rfl⟩
    have hnum := fun W => (num_any D W (by rw [hD]; simp only; omega)).mono fun _ _ h => And.intro h.1 h.2.symm
    rw [← hD] at hsub
    have hDl : D.data.toList = piece s.data.toList a n := by rw [hD]
    rw [hDl] at hnum
    obtain ⟨m, hm⟩ : ∃ m, m = bv (piece s.data.toList a n) 0 := ⟨_, rfl⟩
    rw [← hm] at hnum ⊢
    have HN := Lib.hid hnum
    have HA := Lib.hid hA
    obtain ⟨b, hbb⟩ : ∃ b, b = a + n := ⟨_, rfl⟩
    rw [← hbb] at hsub hw HA
    clear h hb hsz hA hD hDl hm hnum hpl hbb hle
    go_enter Try.func79, Try.ntmps79
    go_wp2_with (go_at_call 77; (with_reducible refine HP.out.mono ?_); rintro e w1 ⟨rfl, hp⟩; have H1 := Lib.hid hp; have hr := hp.1; rw [HA.out] at hr; obtain ⟨f1, f2, f3, f4, f5⟩ := hr.facts; clear hp hr)
    go_quiet ((go_at_call 76; exact Calls.quiet_of_same (HN.out _)))
    all_goals
      go_wp2_with fail
      go_ret
      exact ⟨rfl, H1.out.1, H1.out.2.trans (Onl.of (below_drewN (Below.refl _ _) _))⟩
theorem ru8_any (g : Nat) (s : ByteArray) (a : Nat) (f : Bool) (w : World) (h : Rd 127 w g s a f) (hs : s.size ≤ 1000000000) (ha : a ≤ s.size) :
    Calls Try.prog 90 #[.pointer (some ⟨g, 0, none⟩)] w fun e w' => e = .returned (.int .u8 (bv (outR s.data.toList a f 1) 0 : Int)) ∧ PsE 127 g s a f 1 w w' := by
  have HP := Lib.hid (next_any g s a f 1 w h hs ha (by omega))
  have hlt := bv_le _ 1 (outR_len s.data.toList a f 1)
  rw [show ((1 : Nat) : Int) = 1 from rfl] at HP hlt
  obtain ⟨m, hm⟩ : ∃ m, m = bv (outR s.data.toList a f 1) 0 := ⟨_, rfl⟩
  rw [← hm] at HP hlt ⊢
  have hw := wrap_u8n m hlt
  clear h hm
  go_enter Try.func90, Try.ntmps90
  go_wp2_with (go_at_call 79; (with_reducible refine HP.out.mono ?_); rintro e w1 ⟨rfl, hp⟩; have H1 := Lib.hid hp; clear hp)
  go_ret
  exact ⟨rfl, H1.out⟩
theorem rdu16_any (g : Nat) (s : ByteArray) (a : Nat) (f : Bool) (w : World) (h : Rd 127 w g s a f) (hs : s.size ≤ 1000000000) (ha : a ≤ s.size) :
    Calls Try.prog 81 #[.pointer (some ⟨g, 0, none⟩)] w fun e w' => e = .returned (.int .u16 (bv (outR s.data.toList a f 2) 0 : Int)) ∧ PsE 127 g s a f 2 w w' := by
  have HP := Lib.hid (next_any g s a f 2 w h hs ha (by omega))
  have hlt := bv_le _ 2 (outR_len s.data.toList a f 2)
  rw [show ((2 : Nat) : Int) = 2 from rfl] at HP hlt
  obtain ⟨m, hm⟩ : ∃ m, m = bv (outR s.data.toList a f 2) 0 := ⟨_, rfl⟩
  rw [← hm] at HP hlt ⊢
  have hw := wrap_u16n m hlt
  clear h hm
  go_enter Try.func81, Try.ntmps81
  go_wp2_with (go_at_call 79; (with_reducible refine HP.out.mono ?_); rintro e w1 ⟨rfl, hp⟩; have H1 := Lib.hid hp; clear hp)
  go_ret
  exact ⟨rfl, H1.out⟩
/-- A number of 16 bits, with its sign. -/
def sg16 (m : Nat) : Int := if 32768 ≤ m then (m : Int) - 65536 else m
theorem wrap_i16n (m : Nat) (h : m < 65536) : IntKind.i16.wrap (m : Int) = sg16 m := by
  have h1 : IntKind.i16.wrap (m : Int) = ((m : Int) + 32768) % 65536 - 32768 := by
    simp only [IntKind.wrap, IntKind.bits, IntKind.signed]
    simp
    split <;> omega
  rw [h1]
  unfold sg16
  split <;> omega
theorem i16_any (g : Nat) (s : ByteArray) (a : Nat) (f : Bool) (w : World) (h : Rd 127 w g s a f) (hs : s.size ≤ 1000000000) (ha : a ≤ s.size) :
    Calls Try.prog 64 #[.pointer (some ⟨g, 0, none⟩)] w fun e w' => e = .returned (.int .i16 (sg16 (bv (outR s.data.toList a f 2) 0))) ∧ PsE 127 g s a f 2 w w' := by
  have HP := Lib.hid (next_any g s a f 2 w h hs ha (by omega))
  have hlt := bv_le _ 2 (outR_len s.data.toList a f 2)
  rw [show ((2 : Nat) : Int) = 2 from rfl] at HP hlt
  obtain ⟨m, hm⟩ : ∃ m, m = bv (outR s.data.toList a f 2) 0 := ⟨_, rfl⟩
  rw [← hm] at HP hlt ⊢
  have hw := wrap_i16n m hlt
  clear h hm
  go_enter Try.func64, Try.ntmps64
  go_wp2_with (go_at_call 79; (with_reducible refine HP.out.mono ?_); rintro e w1 ⟨rfl, hp⟩; have H1 := Lib.hid hp; clear hp)
  go_ret
  exact ⟨rfl, H1.out⟩
theorem skip_any (g : Nat) (s : ByteArray) (a : Nat) (f : Bool) (n : Int) (w : World) (h : Rd 127 w g s a f) (hs : s.size ≤ 1000000000) (ha : a ≤ s.size) :
    Calls Try.prog 61 #[.pointer (some ⟨g, 0, none⟩), .int .i64 n] w fun e w' => e = .returned (.tuple #[]) ∧ PsE 127 g s a f n w w' := by
  have HP := Lib.hid (pass_any g s a f n w h hs ha)
  clear h
  go_enter Try.func61, Try.ntmps61
  go_wp2_with (go_at_call 77; (with_reducible refine HP.out.mono ?_); rintro e w1 ⟨rfl, hp⟩; have H1 := Lib.hid hp; clear hp)
  exact bodyPost_end (results_none rfl _ _ _) rfl ⟨rfl, H1.out⟩
end Go.Proofs.Ytlfnagfcggmeaaa
namespace Go.Proofs.Ytlfnagfcggmeaaa
open Go.RowKit

set_option maxHeartbeats 2000000 in
theorem take_any (g : Nat) (s : ByteArray) (a : Nat) (f : Bool) (n : Int) (w : World) (h : Rd 90 w g s a f) (hs : s.size ≤ 1000000000) (ha : a ≤ s.size) :
    Calls Try.prog 47 #[.pointer (some ⟨g, 0, none⟩), .int .i64 n] w fun e w' => e = .returned (.string ⟨(outR s.data.toList a f n).toArray⟩) ∧ PsE 90 g s a f n w w' := by
  have hsz : s.data.toList.length = s.size := by simp
  have hh := fun W => (rcut_any s (a : Int) n W hs (by omega)).mono fun _ _ h => And.intro h.1 h.2.symm
  have HR := Lib.hid h
  obtain ⟨f1, f2, f3, f4, f5⟩ := HR.out.facts
  unfold cutE cutL at hh
  rw [hsz, Int.toNat_natCast] at hh
  unfold outR
  rw [hsz]
  by_cases hn : Has s.size a n
  · rw [if_pos hn, if_pos hn] at hh
    obtain ⟨D, hD⟩ : ∃ D : ByteArray, D = ⟨(piece s.data.toList a n.toNat).toArray⟩ := ⟨_, rfl⟩
    cases f
    · have e1 : okR s.size a false n = true := by unfold okR; simp [hn]
      have e2 : nxA s.size a false n = a + n.toNat := by unfold nxA; rw [if_pos e1]
      unfold PsE
      rw [e1, e2]
      rw [if_pos rfl]
      rw [← hD] at hh ⊢
      have HH := Lib.hid hh
      have hw : IntKind.i64.wrap ((a : Int) + n) = ((a + n.toNat : Nat) : Int) := by
        obtain ⟨h1, h2, h3⟩ := hn
        rw [i64_in _ (by omega)]; omega
      obtain ⟨b, hb⟩ : ∃ b, b = a + n.toNat := ⟨_, rfl⟩
      rw [← hb] at hw ⊢
      clear hb hn h hh hD e1 e2
      go_enter Try.func47, Try.ntmps47
      go_wp2_with fail
      go_quiet ((go_at_call 67; exact Calls.quiet_of_same (HH.out _)))
      all_goals
        go_wp2_with fail
        go_ret
        exact ⟨rfl, Rd.set1 (w := w.drewN _) HR.out b, (Onl.of (below_drewN (Below.refl _ _) _)).trans (Onl.set g (w.drewN _) 1 _)⟩
    · have e1 : okR s.size a true n = false := rfl
      have e2 : nxA s.size a true n = a := rfl
      unfold PsE
      rw [e1, e2]
      rw [if_neg (by simp)]
      rw [← hD] at hh
      have HH := Lib.hid hh
      clear hn h hh hD e1 e2
      go_enter Try.func47, Try.ntmps47
      go_wp2_with fail
      go_quiet ((go_at_call 67; exact Calls.quiet_of_same (HH.out _)))
      all_goals
        go_wp2_with fail
        go_ret
        exact ⟨rfl, Rd.set2 (w := w.drewN _) HR.out true, (Onl.of (below_drewN (Below.refl _ _) _)).trans (Onl.set g (w.drewN _) 2 _)⟩
  · rw [if_neg hn, if_neg hn] at hh
    have e1 : okR s.size a f n = false := by unfold okR; simp [hn]
    have e2 : nxA s.size a f n = a := by unfold nxA; rw [if_neg (by rw [e1]; simp)]
    unfold PsE
    rw [e1, e2]
    rw [if_neg (by simp)]
    have HH := Lib.hid hh
    clear hn h hh e1 e2
    cases f
    all_goals
      go_enter Try.func47, Try.ntmps47
      go_wp2_with fail
      go_quiet ((go_at_call 67; exact Calls.quiet_of_same (HH.out _)))
      all_goals
        go_wp2_with fail
        go_ret
        exact ⟨rfl, Rd.set2 (w := w.drewN _) HR.out true, (Onl.of (below_drewN (Below.refl _ _) _)).trans (Onl.set g (w.drewN _) 2 _)⟩
theorem rnum_read (g : Nat) (s : ByteArray) (a : Nat) (f : Bool) (n : Nat) (w : World) (h : Rd 90 w g s a f) (hs : s.size ≤ 1000000000) (ha : a ≤ s.size) (hn : n ≤ 4) :
    Calls Try.prog 48 #[.pointer (some ⟨g, 0, none⟩), .int .i64 (n : Int)] w fun e w' => e = .returned (.int .u32 (bv (outR s.data.toList a f (n : Int)) 0 : Int)) ∧ PsE 90 g s a f (n : Int) w w' := by
  have HT := Lib.hid (take_any g s a f (n : Int) w h hs ha)
  have hpl := outR_len s.data.toList a f n
  obtain ⟨D, hD⟩ : ∃ D : ByteArray, D = ⟨(outR s.data.toList a f (n : Int)).toArray⟩ := ⟨_, rfl⟩
  have hnum := fun W => rnum_any D W (by rw [hD]; simp only; omega)
  have hDl : D.data.toList = outR s.data.toList a f (n : Int) := by rw [hD]
  rw [hDl] at hnum
  rw [← hD] at HT
  have HN := Lib.hid hnum
  clear h hpl hD hDl hnum
  go_enter Try.func48, Try.ntmps48
  go_wp2_with (first
    | (go_at_call 47; (with_reducible refine HT.out.mono ?_); rintro e w1 ⟨rfl, hp⟩; have H1 := Lib.hid hp; clear hp)
    | (go_at_call 68; (with_reducible refine (HN.out _).mono ?_); rintro e w' ⟨rfl, rfl⟩))
  go_ret
  exact ⟨rfl, H1.out⟩
set_option maxHeartbeats 2000000 in
theorem ri16_any (g : Nat) (s : ByteArray) (a : Nat) (f : Bool) (w : World) (h : Rd 90 w g s a f) (hs : s.size ≤ 1000000000) (ha : a ≤ s.size) :
    Calls Try.prog 46 #[.pointer (some ⟨g, 0, none⟩)] w fun e w' => e = .returned (.int .i64 (sg16 (bv (outR s.data.toList a f 2) 0))) ∧ PsE 90 g s a f 2 w w' := by
  have HP := Lib.hid (rnum_read g s a f 2 w h hs ha (by omega))
  have hlt := bv_le _ 2 (outR_len s.data.toList a f 2)
  rw [show ((2 : Nat) : Int) = 2 from rfl] at HP hlt
  obtain ⟨m, hm⟩ : ∃ m, m = bv (outR s.data.toList a f 2) 0 := ⟨_, rfl⟩
  rw [← hm] at HP hlt ⊢
  clear h hm
  unfold sg16
  have hw : IntKind.i64.wrap ((m : Int) - 65536) = (m : Int) - 65536 := i64_in _ (by omega)
  by_cases h3 : 32768 ≤ m
  · have hd : decide (32768 ≤ (m : Int)) = true := decide_eq_true (by omega)
    rw [if_pos h3]
    clear h3
    go_enter Try.func46, Try.ntmps46
    go_wp2_with (go_at_call 48; (with_reducible refine HP.out.mono ?_); rintro e w1 ⟨rfl, hp⟩; have H1 := Lib.hid hp; clear hp)
    go_ret
    exact ⟨rfl, H1.out⟩
  · have hd : decide (32768 ≤ (m : Int)) = false := decide_eq_false (by omega)
    rw [if_neg h3]
    clear h3
    go_enter Try.func46, Try.ntmps46
    go_wp2_with (go_at_call 48; (with_reducible refine HP.out.mono ?_); rintro e w1 ⟨rfl, hp⟩; have H1 := Lib.hid hp; clear hp)
    go_ret
    exact ⟨rfl, H1.out⟩
end Go.Proofs.Ytlfnagfcggmeaaa
namespace Go.Proofs.Ytlfnagfcggmeaaa
open Go.RowKit

theorem size_list (s : ByteArray) : s.data.toList.length = s.size := by simp
theorem app_list (a b : ByteArray) : (a ++ b).data.toList = a.data.toList ++ b.data.toList := by simp
theorem of_list {s : ByteArray} {l : List UInt8} (h : s.data.toList = l) : s = ⟨l.toArray⟩ := by
  subst h
  apply ByteArray.ext
  simp
theorem heap_lt {w : World} {g : Nat} {o : Obj} (h : w.heap[g]? = some o) : g < w.heap.size := by
  rcases Nat.lt_or_ge g w.heap.size with hl | hl
  · exact hl
  · rw [Array.getElem?_eq_none hl] at h; cases h
theorem cutL_in {l : List UInt8} {a n : Nat} (h : a + n ≤ l.length) : cutL l (a : Int) (n : Int) = piece l a n ∧ cutE l (a : Int) (n : Int) = 0 := by
  have hh : Has l.length (a : Int) (n : Int) := ⟨by omega, by omega, by omega⟩
  unfold cutL cutE
  rw [if_pos hh, if_pos hh]
  exact ⟨rfl, rfl⟩
/-- The number in the two bytes, and in the four bytes, at a place. -/
def n2 (l : List UInt8) (a : Nat) : Nat := bv (piece l a 2) 0
def n4 (l : List UInt8) (a : Nat) : Nat := bv (piece l a 4) 0
theorem n2_lt (l : List UInt8) (a : Nat) : n2 l a < 65536 := bv_le _ 2 (piece_len_le l a 2)
theorem n4_lt (l : List UInt8) (a : Nat) : n4 l a < 4294967296 := bv_le _ 4 (piece_len_le l a 4)
theorem bv_app : ∀ (x y : List UInt8) (n : Nat), bv (x ++ y) n = bv y (bv x n)
  | [], _, _ => rfl
  | _ :: x, y, _ => bv_app x y _
theorem n4_two {l : List UInt8} {a : Nat} (h : a + 4 ≤ l.length) : n4 l a = n2 l a * 65536 + n2 l (a + 2) := by
  unfold n4 n2
  have e1 : piece l a 4 = piece l a 2 ++ piece l (a + 2) 2 := by
    unfold piece
    rw [show (4 : Nat) = 2 + 2 from rfl, List.take_add, List.drop_drop]
  have h2 : (piece l (a + 2) 2).length = 2 := piece_len (by omega)
  rw [e1, bv_app]
  generalize piece l (a + 2) 2 = y at h2
  generalize bv (piece l a 2) 0 = n
  match y, h2 with
  | [c, d], _ => simp only [bv]; omega
end Go.Proofs.Ytlfnagfcggmeaaa
namespace Go.Proofs.Ytlfnagfcggmeaaa
open Go.RowKit

theorem Try.info5 : (Try.prog.info? 5).map (fun i => (i.zero, i.size, i.bytes)) = some (some (.int .u8 0), 1, 1) := by kernel_rfl
/-- Nothing but block b's first cell has turned. -/
structure Chk (b : Nat) (w w' : World) : Prop where
  size : w'.heap.size = w.heap.size
  keep : ∀ k, k ≠ b → w'.heap[k]? = w.heap[k]?
  c1 : w'.cell? ⟨b, 1, none⟩ = w.cell? ⟨b, 1, none⟩
theorem own_slice {w : World} {B n m : Nat} {v : Value} {xs : List Value} (h : w.ownsRow B 5 1 v n xs) (hn : n = m := by rfl) : ∃ A c, v = .slice A m c := by
  subst hn
  rcases h.2 with ⟨hv, h0⟩ | ⟨g, cap, cur, hv, _⟩
  · exact ⟨none, 0, by rw [hv, h0]⟩
  · exact ⟨_, _, hv⟩
/-- What is neither the builder's block nor its row's is as it was. -/
def KeptB (b : Nat) (w w' : World) : Prop := ∀ k, k < w.heap.size → k ≠ b → (∀ v, w.cell? ⟨b, 1, none⟩ = some v → v.ownBlock ≠ some k) → w'.heap[k]? = w.heap[k]?
theorem Chk.kept {b : Nat} {w w1 w2 : World} {v : Value} (h : Chk b w w1) (hc : w1.cell? ⟨b, 1, none⟩ = some v) (hg : w1.grownBy w2 v.ownBlock) (v' : Value) : KeptB b w (w2.setCell ⟨b, 1, none⟩ v') := by
  intro k hk hkb hv
  rw [Below.heap_setCell w2 ⟨b, 1, none⟩ v' k hkb, hg.block k (by rw [h.size]; exact hk) (fun e => hv v (by rw [← h.c1]; exact hc) e.symm), h.keep k hkb]
end Go.Proofs.Ytlfnagfcggmeaaa
