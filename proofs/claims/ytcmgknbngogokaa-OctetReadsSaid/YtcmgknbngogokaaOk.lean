/- Proved here: that OctetReads' law answers true, over every text and every row of deeds. Condition: the deeds lie in memory. -/
import Derived.Test.YtcmgknbngogokaaOj
namespace Go.Proofs.Ytcmgknbngogokaa
open Go.RowKit

theorem left_q (g : Nat) (s : ByteArray) (a : Nat) (f : Bool) (w : World) (h : Rd 66 w g s a f) (hs : s.size ≤ 1000000000) (ha : a ≤ s.size) : Calls Try.prog 25 #[.pointer (some ⟨g, 0, none⟩)] w fun e w' => e = .returned (.int .i64 ((s.size : Int) - a)) ∧ ∃ m, w' = w.drewN m := by
  obtain ⟨f1, f2, f3, _, _⟩ := h.facts
  have hw := i64_in ((s.size : Int) - a) (by omega)
  clear h
  go_enter Try.func25, Try.ntmps25
  go_wp2_with fail
  go_quiet (fail)
  all_goals
    go_wp2_with fail
    go_ret
    exact ⟨rfl, _, rfl⟩
theorem at_q (g : Nat) (s : ByteArray) (a : Nat) (f : Bool) (w : World) (h : Rd 66 w g s a f) : Calls Try.prog 24 #[.pointer (some ⟨g, 0, none⟩)] w fun e w' => e = .returned (.int .i64 (a : Int)) ∧ w' = w :=
  (at_any g s a f w h).mono fun _ _ h => ⟨h.1, h.2.symm⟩
theorem err_q (g : Nat) (s : ByteArray) (a : Nat) (f : Bool) (w : World) (h : Rd 66 w g s a f) : Calls Try.prog 26 #[.pointer (some ⟨g, 0, none⟩)] w fun e w' => e = .returned (.int .i64 (if f then 3 else 0)) ∧ w' = w :=
  (err_any g s a f w h).mono fun _ _ h => ⟨h.1, h.2.symm⟩
theorem Rd.drewN {T : TypeId} {w : World} {g : Nat} {s : ByteArray} {a : Nat} {f : Bool} (h : Rd T w g s a f) (n : Nat) : Rd T (w.drewN n) g s a f := h
theorem Onl.cell {g : Nat} {w w' : World} (h : Onl g w w') {k j : Nat} (hk : k < w.heap.size) (hg : k ≠ g) : w'.cell? ⟨k, j, none⟩ = w.cell? ⟨k, j, none⟩ := World.cell?_of_block (w := w) (h.block k hk hg)
theorem rnum1 (g : Nat) (s : ByteArray) (a : Nat) (f : Bool) (w : World) (h : Rd 47 w g s a f) (hs : s.size ≤ 1000000000) (ha : a ≤ s.size) : Calls Try.prog 17 #[.pointer (some ⟨g, 0, none⟩), .int .i64 1] w fun e w' => e = .returned (.int .u32 (bv (outR s.data.toList a f 1) 0 : Int)) ∧ PsE 47 g s a f 1 w w' := rnum_read g s a f 1 w h hs ha (by omega)
theorem rnum2 (g : Nat) (s : ByteArray) (a : Nat) (f : Bool) (w : World) (h : Rd 47 w g s a f) (hs : s.size ≤ 1000000000) (ha : a ≤ s.size) : Calls Try.prog 17 #[.pointer (some ⟨g, 0, none⟩), .int .i64 2] w fun e w' => e = .returned (.int .u32 (bv (outR s.data.toList a f 2) 0 : Int)) ∧ PsE 47 g s a f 2 w w' := rnum_read g s a f 2 w h hs ha (by omega)
theorem rnum4 (g : Nat) (s : ByteArray) (a : Nat) (f : Bool) (w : World) (h : Rd 47 w g s a f) (hs : s.size ≤ 1000000000) (ha : a ≤ s.size) : Calls Try.prog 17 #[.pointer (some ⟨g, 0, none⟩), .int .i64 4] w fun e w' => e = .returned (.int .u32 (bv (outR s.data.toList a f 4) 0 : Int)) ∧ PsE 47 g s a f 4 w w' := rnum_read g s a f 4 w h hs ha (by omega)
/-- The argument: deeds, as they lie in memory. -/
structure Dds (w : World) (A : Option Addr) (m : Nat) (xs : List (Nat × Int)) : Prop where
  get : ∀ i, i < m → ∃ ad, A = some ad ∧ ad.block < w.heap.size ∧ w.cell? (ad.add (i * 2)) = some (.int .u8 ((xs.getD i (0, 0)).1 : Int)) ∧ w.cell? (ad.add (i * 2 + 1)) = some (.int .i64 (xs.getD i (0, 0)).2)
theorem block_of_add (a : Addr) (n : Nat) : (a.add n).block = a.block := by unfold Addr.add; split <;> rfl
theorem add_next (a : Addr) (n : Nat) : (⟨(a.add n).block, (a.add n).off + 1, none⟩ : Addr) = a.add (n + 1) := by
  unfold Addr.add
  split
  · next h => subst h; simp
  · simp [Nat.add_assoc]
/-- The two readers at each round's head. -/
structure RdS (w W : World) (g1 g2 : Nat) (s : ByteArray) (a : Nat) (f : Bool) : Prop where
  r1 : Rd 66 W g1 s a f
  r2 : Rd 47 W g2 s a f
  le : a ≤ s.size
  bel : Below w.heap.size w W
  o1 : w.heap.size ≤ g1
  o2 : w.heap.size ≤ g2
  ne : g1 ≠ g2
theorem RdS.next {w W W' : World} {g1 g2 : Nat} {s : ByteArray} {a : Nat} {f : Bool} (h : RdS w W g1 g2 s a f) (hb : Below W.heap.size W W') : RdS w W' g1 g2 s a f :=
  ⟨h.r1.bel hb, h.r2.bel hb, h.le, h.bel.trans (hb.mono h.bel.size), h.o1, h.o2, h.ne⟩
/-- Between the two calls of a round. -/
structure RdM (w W : World) (g1 g2 : Nat) (s : ByteArray) (a : Nat) (f : Bool) (n : Int) : Prop where
  r1 : Rd 66 W g1 s (nxA s.size a f n) (!okR s.size a f n)
  r2 : Rd 47 W g2 s a f
  le : a ≤ s.size
  bel : Below w.heap.size w W
  o1 : w.heap.size ≤ g1
  o2 : w.heap.size ≤ g2
  ne : g1 ≠ g2
theorem RdS.mid {w W W' : World} {g1 g2 : Nat} {s : ByteArray} {a : Nat} {f : Bool} {n : Int} (h : RdS w W g1 g2 s a f) (hp : PsE 66 g1 s a f n W W') : RdM w W' g1 g2 s a f n :=
  ⟨hp.1, h.r2.onl hp.2 (Ne.symm h.ne), h.le, h.bel.trans (hp.2.below h.o1 h.bel.size), h.o1, h.o2, h.ne⟩
theorem RdM.fin {w W W' : World} {g1 g2 : Nat} {s : ByteArray} {a : Nat} {f : Bool} {n : Int} (h : RdM w W g1 g2 s a f n) (hp : PsE 47 g2 s a f n W W') : RdS w W' g1 g2 s (nxA s.size a f n) (!okR s.size a f n) :=
  ⟨h.r1.onl hp.2 h.ne, hp.1, nxA_le h.le, h.bel.trans (hp.2.below h.o2 h.bel.size), h.o1, h.o2, h.ne⟩
theorem RdS.start {w W W1 : World} {s : ByteArray} (h0 : Below w.heap.size w W) (hb : Below W.heap.size W W1) (hr : Rd 66 W1 W.heap.size s 0 false) :
    RdS w (W1.alloc (.cells #[.string s, .int .i64 0, .bool false] 47)) W.heap.size W1.heap.size s 0 false :=
  ⟨hr.bel ((Below.refl _ _).alloc (Nat.le_refl _) _), Rd.new 47 W1 s, Nat.zero_le _, (h0.trans (hb.mono h0.size)).alloc (Nat.le_trans h0.size hb.size) _, h0.size, Nat.le_trans h0.size hb.size, Nat.ne_of_lt hr.lt⟩
set_option maxHeartbeats 2000000 in
theorem reads_long (s : ByteArray) (A : Option Addr) (m c : Nat) (w : World) (h : 100 < s.size ∨ 40 < m) : Calls Try.prog 4 #[.string s, .slice A m c] w fun e w' => e = .returned (.bool true) ∧ Below w.heap.size w w' := by
  by_cases h1 : 100 < s.size
  · have hd : decide (100 < (s.size : Int)) = true := decide_eq_true (by omega)
    clear h
    go_enter Try.func4, Try.ntmps4
    go_wp2_with (go_at_call 5; (with_reducible refine (awake_any _).mono ?_); rintro e w1 ⟨rfl, hb⟩; have B := Lib.hid hb; clear hb)
    go_ret
    exact ⟨rfl, B.out⟩
  · have hd : decide (100 < (s.size : Int)) = false := decide_eq_false (by omega)
    have hd2 : decide (40 < (m : Int)) = true := decide_eq_true (by omega)
    clear h
    go_enter Try.func4, Try.ntmps4
    go_wp2_with (go_at_call 5; (with_reducible refine (awake_any _).mono ?_); rintro e w1 ⟨rfl, hb⟩; have B := Lib.hid hb; clear hb)
    go_ret
    exact ⟨rfl, B.out⟩
set_option maxRecDepth 100000 in
set_option maxHeartbeats 8000000 in
theorem reads_main (s : ByteArray) (A : Option Addr) (m c : Nat) (xs : List (Nat × Int)) (w : World) (hX : Dds w A m xs) (h : s.size ≤ 100) (hm : m ≤ 40) : Calls Try.prog 4 #[.string s, .slice A m c] w fun e w' => e = .returned (.bool true) ∧ Below w.heap.size w w' := by
  have hd : decide (100 < (s.size : Int)) = false := decide_eq_false (by omega)
  have hd2 : decide (40 < (m : Int)) = false := decide_eq_false (by omega)
  have HN := Lib.hid (fun W => new_any s W)
  have HX := Lib.hid hX
  have HL := Lib.hid h
  clear h hX
  go_enter Try.func4, Try.ntmps4
  go_upto_region 6 with (first
    | (go_at_call 5; (with_reducible refine (awake_any _).mono ?_); rintro e w1 ⟨rfl, hb⟩; have B1 := Lib.hid hb; clear hb)
    | (go_at_call 15; (with_reducible refine (HN.out _).mono ?_); rintro e w2 ⟨rfl, hb, hr, hz⟩; have B2 := Lib.hid hb; have R2 := Lib.hid hr; clear hb hr hz))
  have HS := Lib.hid (RdS.start B1.out B2.out R2.out)
  obtain ⟨g1, hg1⟩ : ∃ g, g = w1.heap.size := ⟨_, rfl⟩
  obtain ⟨g2, hg2⟩ : ∃ g, g = w2.heap.size := ⟨_, rfl⟩
  rw [← hg1, ← hg2] at HS ⊢
  obtain ⟨W0, hW0⟩ : ∃ W, W = w2.alloc (.cells #[.string s, .int .i64 0, .bool false] 47) := ⟨_, rfl⟩
  rw [← hW0] at HS ⊢
  clear hg1 hg2 hW0 B1 B2 R2
  go_wp2_with fail
  go_loopw [28] (fun i wr => ∃ (k a : Nat) (f : Bool), i = .int .i64 (k : Int) ∧ k ≤ m ∧ RdS w wr g1 g2 s a f) (fun i _ => m - (intOf i).toNat)
  case atStart => exact ⟨0, 0, false, rfl, Nat.zero_le _, HS.out⟩
  case round =>
    obtain ⟨k, a, f, rfl, hk, hS⟩ := hrel
    have HS := Lib.hid hS
    clear hS
    by_cases hgo : k < m
    · obtain ⟨ad, rfl, had, c0, c1⟩ := HX.out.get k hgo
      obtain ⟨kd, hkd⟩ : ∃ z, z = (xs.getD k (0, 0)).1 := ⟨_, rfl⟩
      obtain ⟨nd, hnd⟩ : ∃ z, z = (xs.getD k (0, 0)).2 := ⟨_, rfl⟩
      rw [← hkd] at c0
      rw [← hnd] at c1
      clear hkd hnd
      have g0 : wr.cell? (ad.add (k * 2)) = some (.int .u8 (kd : Int)) := by rw [HS.out.bel.cell (by rw [block_of_add]; exact had)]; exact c0
      have g1' : wr.cell? { block := (ad.add (k * 2)).block, off := (ad.add (k * 2)).off + 1 } = some (.int .i64 nd) := by rw [add_next, HS.out.bel.cell (by rw [block_of_add]; exact had)]; exact c1
      clear c0 c1
      have hL9 : s.size ≤ 1000000000 := Nat.le_trans HL.out (by decide)
      have HD := Lib.hid (show (wr.alloc (.cells #[.int .u8 (kd : Int), .int .i64 nd] 49)).cell? ⟨wr.heap.size, 1, none⟩ = some (.int .i64 nd) from cell_of_row _ _ 1 _ 49 (0, 0) (heap_alloc_new wr _))
      have HS1 := Lib.hid (HS.out.next ((Below.refl _ _).alloc (Nat.le_refl _) (.cells #[.int .u8 (kd : Int), .int .i64 nd] 49)))
      have h5 : kd % 5 = 0 ∨ kd % 5 = 1 ∨ kd % 5 = 2 ∨ kd % 5 = 3 ∨ kd % 5 = 4 := by omega
      rcases h5 with h5 | h5 | h5 | h5 | h5
      · have hk5 : (kd : Int) % 5 = 0 := by omega
        clear h5
        obtain ⟨mm, hmm⟩ : ∃ x, x = bv (outR s.data.toList a f 1) 0 := ⟨_, rfl⟩
        have C1 := Lib.hid (fun W (h : RdS w W g1 g2 s a f) => ru8_any g1 s a f W h.r1 hL9 h.le)
        have C2 := Lib.hid (fun W (h : RdM w W g1 g2 s a f 1) => rnum1 g2 s a f W h.r2 hL9 h.le)
        rw [← hmm] at C1 C2
        have hlt : mm < 256 ^ 1 := by rw [hmm]; exact bv_le _ 1 (outR_len s.data.toList a f 1)
        have hwm : IntKind.u32.wrap (mm : Int) = (mm : Int) := by rw [IntKind.wrap_u32]; omega
        clear hmm
        go_upto_region 22 with (first
          | (go_at_call 16; (with_reducible refine (C1.out _ HS1.out).mono ?_); rintro e w3 ⟨rfl, hp⟩; have H1 := Lib.hid (HS1.out.mid hp); clear hp)
          | (go_at_call 17; (with_reducible refine (C2.out _ H1.out).mono ?_); rintro e w4 ⟨rfl, hp⟩; have H2 := Lib.hid (H1.out.fin hp); clear hp))
        obtain ⟨a', ha'⟩ : ∃ x, x = nxA s.size a f 1 := ⟨_, rfl⟩
        obtain ⟨f', hf'⟩ : ∃ x, x = !okR s.size a f 1 := ⟨_, rfl⟩
        rw [← ha', ← hf'] at H2
        clear ha' hf'
        obtain ⟨q0, q1, q2, _, _⟩ := H2.out.r2.facts
        have hle := H2.out.le
        have hw : IntKind.i64.wrap ((s.size : Int) - (a' : Int)) = (s.size : Int) - (a' : Int) := i64_in _ (by have := HL.out; omega)
        have HA := Lib.hid (fun n => at_q g1 s a' f' _ (H2.out.r1.drewN n))
        have HF := Lib.hid (fun n => left_q g1 s a' f' _ (H2.out.r1.drewN n) (Nat.le_trans HL.out (by decide)) H2.out.le)
        have HE := Lib.hid (fun n => err_q g1 s a' f' _ (H2.out.r1.drewN n))
        cases f'
        all_goals
          simp only [Bool.false_eq_true, if_false] at HE
          go_upto_region 22 with fail
          go_quiet ((first
            | (go_at_call 24; with_reducible exact Calls.quiet_of_same (HA.out _))
            | (go_at_call 25; with_reducible exact Calls.quiet_of (HF.out _))
            | (go_at_call 26; with_reducible exact Calls.quiet_of_same (HE.out _))))
          go_wp2_with fail
          exact ⟨⟨k + 1, a', _, by simp, by omega, H2.out.next (below_drewN (Below.refl _ _) _)⟩, by simp [intOf]; omega⟩
      · have hk5 : (kd : Int) % 5 = 1 := by omega
        clear h5
        obtain ⟨mm, hmm⟩ : ∃ x, x = bv (outR s.data.toList a f 2) 0 := ⟨_, rfl⟩
        have C1 := Lib.hid (fun W (h : RdS w W g1 g2 s a f) => rdu16_any g1 s a f W h.r1 hL9 h.le)
        have C2 := Lib.hid (fun W (h : RdM w W g1 g2 s a f 2) => rnum2 g2 s a f W h.r2 hL9 h.le)
        rw [← hmm] at C1 C2
        have hlt : mm < 256 ^ 2 := by rw [hmm]; exact bv_le _ 2 (outR_len s.data.toList a f 2)
        have hwm : IntKind.u32.wrap (mm : Int) = (mm : Int) := by rw [IntKind.wrap_u32]; omega
        clear hmm
        go_upto_region 22 with (first
          | (go_at_call 18; (with_reducible refine (C1.out _ HS1.out).mono ?_); rintro e w3 ⟨rfl, hp⟩; have H1 := Lib.hid (HS1.out.mid hp); clear hp)
          | (go_at_call 17; (with_reducible refine (C2.out _ H1.out).mono ?_); rintro e w4 ⟨rfl, hp⟩; have H2 := Lib.hid (H1.out.fin hp); clear hp))
        obtain ⟨a', ha'⟩ : ∃ x, x = nxA s.size a f 2 := ⟨_, rfl⟩
        obtain ⟨f', hf'⟩ : ∃ x, x = !okR s.size a f 2 := ⟨_, rfl⟩
        rw [← ha', ← hf'] at H2
        clear ha' hf'
        obtain ⟨q0, q1, q2, _, _⟩ := H2.out.r2.facts
        have hle := H2.out.le
        have hw : IntKind.i64.wrap ((s.size : Int) - (a' : Int)) = (s.size : Int) - (a' : Int) := i64_in _ (by have := HL.out; omega)
        have HA := Lib.hid (fun n => at_q g1 s a' f' _ (H2.out.r1.drewN n))
        have HF := Lib.hid (fun n => left_q g1 s a' f' _ (H2.out.r1.drewN n) (Nat.le_trans HL.out (by decide)) H2.out.le)
        have HE := Lib.hid (fun n => err_q g1 s a' f' _ (H2.out.r1.drewN n))
        cases f'
        all_goals
          simp only [Bool.false_eq_true, if_false] at HE
          go_upto_region 22 with fail
          go_quiet ((first
            | (go_at_call 24; with_reducible exact Calls.quiet_of_same (HA.out _))
            | (go_at_call 25; with_reducible exact Calls.quiet_of (HF.out _))
            | (go_at_call 26; with_reducible exact Calls.quiet_of_same (HE.out _))))
          go_wp2_with fail
          exact ⟨⟨k + 1, a', _, by simp, by omega, H2.out.next (below_drewN (Below.refl _ _) _)⟩, by simp [intOf]; omega⟩
      · have hk5 : (kd : Int) % 5 = 2 := by omega
        clear h5
        obtain ⟨mm, hmm⟩ : ∃ x, x = bv (outR s.data.toList a f 2) 0 := ⟨_, rfl⟩
        have C1 := Lib.hid (fun W (h : RdS w W g1 g2 s a f) => i16_any g1 s a f W h.r1 hL9 h.le)
        have C2 := Lib.hid (fun W (h : RdM w W g1 g2 s a f 2) => ri16_any g2 s a f W h.r2 hL9 h.le)
        rw [← hmm] at C1 C2
        obtain ⟨zz, hzz⟩ : ∃ x, x = sg16 mm := ⟨_, rfl⟩
        rw [← hzz] at C1 C2
        have hlt : mm < 256 ^ 2 := by rw [hmm]; exact bv_le _ 2 (outR_len s.data.toList a f 2)
        have hwz : IntKind.i64.wrap zz = zz := i64_in _ (by rw [hzz]; unfold sg16; split <;> omega)
        clear hmm hzz hlt
        go_upto_region 22 with (first
          | (go_at_call 19; (with_reducible refine (C1.out _ HS1.out).mono ?_); rintro e w3 ⟨rfl, hp⟩; have H1 := Lib.hid (HS1.out.mid hp); clear hp)
          | (go_at_call 20; (with_reducible refine (C2.out _ H1.out).mono ?_); rintro e w4 ⟨rfl, hp⟩; have H2 := Lib.hid (H1.out.fin hp); clear hp))
        obtain ⟨a', ha'⟩ : ∃ x, x = nxA s.size a f 2 := ⟨_, rfl⟩
        obtain ⟨f', hf'⟩ : ∃ x, x = !okR s.size a f 2 := ⟨_, rfl⟩
        rw [← ha', ← hf'] at H2
        clear ha' hf'
        obtain ⟨q0, q1, q2, _, _⟩ := H2.out.r2.facts
        have hle := H2.out.le
        have hw : IntKind.i64.wrap ((s.size : Int) - (a' : Int)) = (s.size : Int) - (a' : Int) := i64_in _ (by have := HL.out; omega)
        have HA := Lib.hid (fun n => at_q g1 s a' f' _ (H2.out.r1.drewN n))
        have HF := Lib.hid (fun n => left_q g1 s a' f' _ (H2.out.r1.drewN n) (Nat.le_trans HL.out (by decide)) H2.out.le)
        have HE := Lib.hid (fun n => err_q g1 s a' f' _ (H2.out.r1.drewN n))
        cases f'
        all_goals
          simp only [Bool.false_eq_true, if_false] at HE
          go_upto_region 22 with fail
          go_quiet ((first
            | (go_at_call 24; with_reducible exact Calls.quiet_of_same (HA.out _))
            | (go_at_call 25; with_reducible exact Calls.quiet_of (HF.out _))
            | (go_at_call 26; with_reducible exact Calls.quiet_of_same (HE.out _))))
          go_wp2_with fail
          exact ⟨⟨k + 1, a', _, by simp, by omega, H2.out.next (below_drewN (Below.refl _ _) _)⟩, by simp [intOf]; omega⟩
      · have hk5 : (kd : Int) % 5 = 3 := by omega
        clear h5
        obtain ⟨mm, hmm⟩ : ∃ x, x = bv (outR s.data.toList a f 4) 0 := ⟨_, rfl⟩
        have C1 := Lib.hid (fun W (h : RdS w W g1 g2 s a f) => rdu32_any g1 s a f W h.r1 hL9 h.le)
        have C2 := Lib.hid (fun W (h : RdM w W g1 g2 s a f 4) => rnum4 g2 s a f W h.r2 hL9 h.le)
        rw [← hmm] at C1 C2
        clear hmm
        go_upto_region 22 with (first
          | (go_at_call 21; (with_reducible refine (C1.out _ HS1.out).mono ?_); rintro e w3 ⟨rfl, hp⟩; have H1 := Lib.hid (HS1.out.mid hp); clear hp)
          | (go_at_call 17; (with_reducible refine (C2.out _ H1.out).mono ?_); rintro e w4 ⟨rfl, hp⟩; have H2 := Lib.hid (H1.out.fin hp); clear hp))
        obtain ⟨a', ha'⟩ : ∃ x, x = nxA s.size a f 4 := ⟨_, rfl⟩
        obtain ⟨f', hf'⟩ : ∃ x, x = !okR s.size a f 4 := ⟨_, rfl⟩
        rw [← ha', ← hf'] at H2
        clear ha' hf'
        obtain ⟨q0, q1, q2, _, _⟩ := H2.out.r2.facts
        have hle := H2.out.le
        have hw : IntKind.i64.wrap ((s.size : Int) - (a' : Int)) = (s.size : Int) - (a' : Int) := i64_in _ (by have := HL.out; omega)
        have HA := Lib.hid (fun n => at_q g1 s a' f' _ (H2.out.r1.drewN n))
        have HF := Lib.hid (fun n => left_q g1 s a' f' _ (H2.out.r1.drewN n) (Nat.le_trans HL.out (by decide)) H2.out.le)
        have HE := Lib.hid (fun n => err_q g1 s a' f' _ (H2.out.r1.drewN n))
        cases f'
        all_goals
          simp only [Bool.false_eq_true, if_false] at HE
          go_upto_region 22 with fail
          go_quiet ((first
            | (go_at_call 24; with_reducible exact Calls.quiet_of_same (HA.out _))
            | (go_at_call 25; with_reducible exact Calls.quiet_of (HF.out _))
            | (go_at_call 26; with_reducible exact Calls.quiet_of_same (HE.out _))))
          go_wp2_with fail
          exact ⟨⟨k + 1, a', _, by simp, by omega, H2.out.next (below_drewN (Below.refl _ _) _)⟩, by simp [intOf]; omega⟩
      · have hk5 : (kd : Int) % 5 = 4 := by omega
        clear h5
        have C1 := Lib.hid (fun W (h : RdS w W g1 g2 s a f) => skip_any g1 s a f nd W h.r1 hL9 h.le)
        have C2 := Lib.hid (fun W (h : RdM w W g1 g2 s a f nd) => take_any g2 s a f nd W h.r2 hL9 h.le)
        go_upto_region 22 with (first
          | (go_at_call 22; (with_reducible refine (C1.out _ HS1.out).mono ?_); rintro e w3 ⟨rfl, hp⟩; have H1 := Lib.hid (HS1.out.mid hp); have d1 : w3.cell? ⟨wr.heap.size, 1, none⟩ = some (.int .i64 nd) := (hp.2.cell (by simp) (Nat.ne_of_gt HS.out.r1.lt)).trans HD.out; clear hp)
          | (go_at_call 23; (with_reducible refine (C2.out _ H1.out).mono ?_); rintro e w4 ⟨rfl, hp⟩; have H2 := Lib.hid (H1.out.fin hp); clear hp))
        obtain ⟨a', ha'⟩ : ∃ x, x = nxA s.size a f nd := ⟨_, rfl⟩
        obtain ⟨f', hf'⟩ : ∃ x, x = !okR s.size a f nd := ⟨_, rfl⟩
        rw [← ha', ← hf'] at H2
        clear ha' hf'
        obtain ⟨q0, q1, q2, _, _⟩ := H2.out.r2.facts
        have hle := H2.out.le
        have hw : IntKind.i64.wrap ((s.size : Int) - (a' : Int)) = (s.size : Int) - (a' : Int) := i64_in _ (by have := HL.out; omega)
        have HA := Lib.hid (fun n => at_q g1 s a' f' _ (H2.out.r1.drewN n))
        have HF := Lib.hid (fun n => left_q g1 s a' f' _ (H2.out.r1.drewN n) (Nat.le_trans HL.out (by decide)) H2.out.le)
        have HE := Lib.hid (fun n => err_q g1 s a' f' _ (H2.out.r1.drewN n))
        cases f'
        all_goals
          simp only [Bool.false_eq_true, if_false] at HE
          go_upto_region 22 with fail
          go_quiet ((first
            | (go_at_call 24; with_reducible exact Calls.quiet_of_same (HA.out _))
            | (go_at_call 25; with_reducible exact Calls.quiet_of (HF.out _))
            | (go_at_call 26; with_reducible exact Calls.quiet_of_same (HE.out _))))
          go_wp2_with fail
          exact ⟨⟨k + 1, a', _, by simp, by omega, H2.out.next (below_drewN (Below.refl _ _) _)⟩, by simp [intOf]; omega⟩
    · obtain rfl : k = m := by omega
      go_wp2_with (first
        | (go_at_call 22; (with_reducible refine (nskip_any _ _).mono ?_); rintro e w' ⟨rfl, rfl⟩)
        | (go_at_call 16; (with_reducible refine (nu8_any _).mono ?_); rintro e w' ⟨rfl, rfl⟩)
        | (go_at_call 18; (with_reducible refine (nu16_any _).mono ?_); rintro e w' ⟨rfl, rfl⟩)
        | (go_at_call 19; (with_reducible refine (ni16_any _).mono ?_); rintro e w' ⟨rfl, rfl⟩)
        | (go_at_call 21; (with_reducible refine (nu32_any _).mono ?_); rintro e w' ⟨rfl, rfl⟩)
        | (go_at_call 24; (with_reducible refine (nat_any _).mono ?_); rintro e w' ⟨rfl, rfl⟩)
        | (go_at_call 25; (with_reducible refine (nleft_any _).mono ?_); rintro e w' ⟨rfl, rfl⟩)
        | (go_at_call 26; (with_reducible refine (nerr_any _).mono ?_); rintro e w' ⟨rfl, rfl⟩))
      go_ret
      exact ⟨rfl, HS.out.bel⟩
theorem law_reads (s : ByteArray) (A : Option Addr) (m c : Nat) (xs : List (Nat × Int)) (w : World) (hX : Dds w A m xs) : Calls Try.prog 4 #[.string s, .slice A m c] w fun e w' => e = .returned (.bool true) ∧ Below w.heap.size w w' := by
  by_cases h : 100 < s.size ∨ 40 < m
  · exact reads_long s A m c w h
  · exact reads_main s A m c xs w hX (by omega) (by omega)
end Go.Proofs.Ytcmgknbngogokaa
