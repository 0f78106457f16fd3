/- Proved here: which bits of a part may be; memory while a part is read. Condition: a number of two bytes · what readMove and readNumbers answer. Condition: a reader of a text of at most a billion bytes, and a part's box · what readNumbers answers. Condition: a reader of a text of at most a billion bytes, and a part's box. -/
import Derived.Test.YtfhaloclbbmbeaaGreatM31
namespace Go.Proofs.YtfhaloclbbmbeaaGreat
open Go.RowKit
namespace N15.C
theorem and_pow (f k : Nat) : f &&& 2 ^ k = f / 2 ^ k % 2 * 2 ^ k := by
  apply Nat.eq_of_testBit_eq
  intro i
  rw [Nat.testBit_and, Nat.testBit_two_pow]
  have e := Nat.testBit_eq_decide_div_mod_eq (x := f) (i := k)
  by_cases h : f / 2 ^ k % 2 = 1
  · rw [h, Nat.one_mul, Nat.testBit_two_pow]
    by_cases hi : k = i
    · subst hi; rw [e, decide_eq_true h]; rfl
    · rw [decide_eq_false hi, Bool.and_false]
  · have h0 : f / 2 ^ k % 2 = 0 := by omega
    rw [h0, Nat.zero_mul, Nat.zero_testBit]
    by_cases hi : k = i
    · subst hi; rw [e, decide_eq_false h]; rfl
    · rw [decide_eq_false hi, Bool.and_false]
theorem and1 (f : Nat) (hf : f < 65536) : bits .and .u16 (f : Int) 1 = ((f % 2 : Nat) : Int) := by
  have := u16_and_nat f 1 hf (by omega)
  rw [show f &&& 1 = f % 2 by simp] at this
  exact this
theorem and2 (f : Nat) (hf : f < 65536) : bits .and .u16 (f : Int) 2 = ((f / 2 % 2 * 2 : Nat) : Int) := by
  have := u16_and_nat f 2 hf (by omega)
  rw [show f &&& 2 = _ from and_pow f 1] at this
  exact this
theorem and8 (f : Nat) (hf : f < 65536) : bits .and .u16 (f : Int) 8 = ((f / 8 % 2 * 8 : Nat) : Int) := by
  have := u16_and_nat f 8 hf (by omega)
  rw [show f &&& 8 = _ from and_pow f 3] at this
  exact this
theorem and32 (f : Nat) (hf : f < 65536) : bits .and .u16 (f : Int) 32 = ((f / 32 % 2 * 32 : Nat) : Int) := by
  have := u16_and_nat f 32 hf (by omega)
  rw [show f &&& 32 = _ from and_pow f 5] at this
  exact this
theorem and64 (f : Nat) (hf : f < 65536) : bits .and .u16 (f : Int) 64 = ((f / 64 % 2 * 64 : Nat) : Int) := by
  have := u16_and_nat f 64 hf (by omega)
  rw [show f &&& 64 = _ from and_pow f 6] at this
  exact this
theorem and128 (f : Nat) (hf : f < 65536) : bits .and .u16 (f : Int) 128 = ((f / 128 % 2 * 128 : Nat) : Int) := by
  have := u16_and_nat f 128 hf (by omega)
  rw [show f &&& 128 = _ from and_pow f 7] at this
  exact this
theorem and200 (f : Nat) (hf : f < 65536) : bits .and .u16 (f : Int) 200 = ((f / 8 % 2 * 8 + f / 64 % 2 * 64 + f / 128 % 2 * 128 : Nat) : Int) := by
  have := u16_and_nat f 200 hf (by omega)
  rw [show (200 : Nat) = 2 ^ 3 ||| (2 ^ 6 ||| 2 ^ 7) by decide, Nat.and_or_distrib_left, Nat.and_or_distrib_left, and_pow, and_pow, and_pow] at this
  refine Eq.trans this ?_
  have h1 : f / 8 % 2 = 0 ∨ f / 8 % 2 = 1 := by omega
  have h2 : f / 64 % 2 = 0 ∨ f / 64 % 2 = 1 := by omega
  have h3 : f / 128 % 2 = 0 ∨ f / 128 % 2 = 1 := by omega
  show ((f / 8 % 2 * 8 ||| (f / 64 % 2 * 64 ||| f / 128 % 2 * 128) : Nat) : Int) = _
  rcases h1 with h1 | h1 <;> rcases h2 with h2 | h2 <;> rcases h3 with h3 | h3 <;> rw [h1, h2, h3] <;> decide
theorem never_not (f : Nat) (hf : f < 65536) : (bits .and .u16 (f : Int) 59408 != 0) = !decide (f / 16 % 2 = 0 ∧ f / 2048 % 2 = 0 ∧ f < 8192) := by
  have := u16_and_nat f 59408 hf (by omega)
  rw [show (59408 : Nat) = 2 ^ 4 ||| (2 ^ 11 ||| (2 ^ 13 ||| (2 ^ 14 ||| 2 ^ 15))) by decide, Nat.and_or_distrib_left, Nat.and_or_distrib_left, Nat.and_or_distrib_left, Nat.and_or_distrib_left, and_pow, and_pow, and_pow, and_pow, and_pow] at this
  have e : bits .and .u16 (f : Int) 59408 = ((f / 2 ^ 4 % 2 * 2 ^ 4 ||| (f / 2 ^ 11 % 2 * 2 ^ 11 ||| (f / 2 ^ 13 % 2 * 2 ^ 13 ||| (f / 2 ^ 14 % 2 * 2 ^ 14 ||| f / 2 ^ 15 % 2 * 2 ^ 15))) : Nat) : Int) := this
  rw [e]
  by_cases h : f / 16 % 2 = 0 ∧ f / 2048 % 2 = 0 ∧ f < 8192
  · rw [decide_eq_true h]
    obtain ⟨h1, h2, h3⟩ := h
    have k1 : f / 2 ^ 4 % 2 = 0 := h1
    have k2 : f / 2 ^ 11 % 2 = 0 := h2
    have k3 : f / 2 ^ 13 % 2 = 0 := by show f / 8192 % 2 = 0; omega
    have k4 : f / 2 ^ 14 % 2 = 0 := by show f / 16384 % 2 = 0; omega
    have k5 : f / 2 ^ 15 % 2 = 0 := by show f / 32768 % 2 = 0; omega
    rw [k1, k2, k3, k4, k5]
    decide
  · rw [decide_eq_false h]
    refine bne_iff_ne.2 fun h0 => h ?_
    have h0 : (f / 2 ^ 4 % 2 * 2 ^ 4 ||| (f / 2 ^ 11 % 2 * 2 ^ 11 ||| (f / 2 ^ 13 % 2 * 2 ^ 13 ||| (f / 2 ^ 14 % 2 * 2 ^ 14 ||| f / 2 ^ 15 % 2 * 2 ^ 15)))) = 0 := Int.ofNat.inj h0
    simp only [Nat.or_eq_zero_iff] at h0
    obtain ⟨k1, k2, k3, k4, k5⟩ := h0
    have k3 : f / 8192 % 2 * 8192 = 0 := k3
    have k4 : f / 16384 % 2 * 16384 = 0 := k4
    have k5 : f / 32768 % 2 * 32768 = 0 := k5
    have k1 : f / 16 % 2 * 16 = 0 := k1
    have k2 : f / 2048 % 2 * 2048 = 0 := k2
    omega
theorem bit_ne {f m : Nat} {z : Int} (h : z = ((f / m % 2 * m : Nat) : Int)) (hm : 0 < m) : (z != 0) = decide (f / m % 2 = 1) := by
  rw [h]
  by_cases h1 : f / m % 2 = 1
  · rw [decide_eq_true h1, h1]
    exact bne_iff_ne.2 fun h2 => by omega
  · have h0 : f / m % 2 = 0 := by omega
    rw [decide_eq_false h1, h0]
    simp
set_option maxHeartbeats 2000000 in
theorem mayBits_any (f : Nat) (hf : f < 65536) (w : World) : Calls Tryz.prog 292 #[.int .u16 (f : Int)] w fun e w' => e = .returned (.bool (decide (okB f))) ∧ w = w' := by
  have e1 := and2 f hf
  have e2 := never_not f hf
  have e3 := and200 f hf
  by_cases h1 : f / 2 % 2 = 1
  · rw [h1] at e1
    have e1 : bits .and .u16 (f : Int) 2 = 2 := e1
    by_cases h2 : f / 16 % 2 = 0 ∧ f / 2048 % 2 = 0 ∧ f < 8192
    · rw [decide_eq_true h2] at e2
      have e2 : (bits .and .u16 (f : Int) 59408 != 0) = false := e2
      by_cases h3 : f / 8 % 2 + f / 64 % 2 + f / 128 % 2 ≤ 1
      · rw [decide_eq_true (show okB f from ⟨h1, h2.1, h2.2.1, h2.2.2, h3⟩)]
        have hh : bits .and .u16 (f : Int) 200 = 0 ∨ bits .and .u16 (f : Int) 200 = 8 ∨ bits .and .u16 (f : Int) 200 = 64 ∨ bits .and .u16 (f : Int) 200 = 128 := by omega
        clear e3 h1 h2 h3 hf
        rcases hh with e3 | e3 | e3 | e3
        all_goals
          go_enter Tryz.func292, Tryz.ntmps292
          go_wp2_with fail
          go_ret
          exact ⟨rfl, rfl⟩
      · rw [decide_eq_false (show ¬ okB f from fun h => h3 h.2.2.2.2)]
        have hh : bits .and .u16 (f : Int) 200 = 72 ∨ bits .and .u16 (f : Int) 200 = 136 ∨ bits .and .u16 (f : Int) 200 = 192 ∨ bits .and .u16 (f : Int) 200 = 200 := by omega
        clear e3 h1 h2 h3 hf
        rcases hh with e3 | e3 | e3 | e3
        all_goals
          go_enter Tryz.func292, Tryz.ntmps292
          go_wp2_with fail
          go_ret
          exact ⟨rfl, rfl⟩
    · rw [decide_eq_false h2] at e2
      have e2 : (bits .and .u16 (f : Int) 59408 != 0) = true := e2
      rw [decide_eq_false (show ¬ okB f from fun h => h2 ⟨h.2.1, h.2.2.1, h.2.2.2.1⟩)]
      clear e3 h1 h2 hf
      go_enter Tryz.func292, Tryz.ntmps292
      go_wp2_with fail
      go_ret
      exact ⟨rfl, rfl⟩
  · have h0 : f / 2 % 2 = 0 := by omega
    rw [h0] at e1
    have e1 : bits .and .u16 (f : Int) 2 = 0 := e1
    rw [decide_eq_false (show ¬ okB f from fun h => h1 h.1)]
    clear e2 e3 h1 h0 hf
    go_enter Tryz.func292, Tryz.ntmps292
    go_wp2_with fail
    go_ret
    exact ⟨rfl, rfl⟩
structure On2 (g b : Nat) (w w' : World) : Prop where
  os : w'.os = w.os
  tape : w'.tape = w.tape
  output : w'.output = w.output
  size : w.heap.size ≤ w'.heap.size
  block : ∀ k, k < w.heap.size → k ≠ g → k ≠ b → w'.heap[k]? = w.heap[k]?
theorem On2.refl (g b : Nat) (w : World) : On2 g b w w := ⟨rfl, rfl, rfl, Nat.le_refl _, fun _ _ _ _ => rfl⟩
theorem On2.onl {g b : Nat} {w W W' : World} (h : On2 g b w W) (k : Onl g W W') : On2 g b w W' :=
  ⟨k.os.trans h.os, k.tape.trans h.tape, k.output.trans h.output, Nat.le_trans h.size k.size, fun i hi h2 h3 => (k.block i (Nat.lt_of_lt_of_le hi h.size) h2).trans (h.block i hi h2 h3)⟩
theorem On2.bel {g b : Nat} {w W W' : World} (h : On2 g b w W) (k : Below W.heap.size W W') : On2 g b w W' := h.onl (Onl.of k)
theorem On2.set {g b : Nat} {w W : World} (h : On2 g b w W) (j : Nat) (u : Value) : On2 g b w (W.setCell ⟨b, j, none⟩ u) :=
  ⟨h.os, h.tape, h.output, by simpa [World.setCell] using h.size, fun i hi h2 h3 => (Below.heap_setCell W _ u _ h3).trans (h.block i hi h2 h3)⟩
section
variable {w : World} {b : Nat} {p : Prt}
theorem Bp.set1 (k : Bp w b p) (v : Int) : Bp (w.setCell ⟨b, 1, none⟩ (.int .i64 v)) b (p.1, v, p.2.2) := by
  unfold Bp at k ⊢; simp [World.setCell, Array.getElem?_modify, k]
theorem Bp.set2 (k : Bp w b p) (v : Int) : Bp (w.setCell ⟨b, 2, none⟩ (.int .i64 v)) b (p.1, p.2.1, v, p.2.2.2) := by
  unfold Bp at k ⊢; simp [World.setCell, Array.getElem?_modify, k]
theorem Bp.set3 (k : Bp w b p) (v : Int) : Bp (w.setCell ⟨b, 3, none⟩ (.int .i64 v)) b (p.1, p.2.1, p.2.2.1, v, p.2.2.2.2) := by
  unfold Bp at k ⊢; simp [World.setCell, Array.getElem?_modify, k]
theorem Bp.set4 (k : Bp w b p) (v : Int) : Bp (w.setCell ⟨b, 4, none⟩ (.int .i64 v)) b (p.1, p.2.1, p.2.2.1, p.2.2.2.1, v, p.2.2.2.2.2) := by
  unfold Bp at k ⊢; simp [World.setCell, Array.getElem?_modify, k]
theorem Bp.set5 (k : Bp w b p) (v : Int) : Bp (w.setCell ⟨b, 5, none⟩ (.int .i64 v)) b (p.1, p.2.1, p.2.2.1, p.2.2.2.1, p.2.2.2.2.1, v, p.2.2.2.2.2.2) := by
  unfold Bp at k ⊢; simp [World.setCell, Array.getElem?_modify, k]
theorem Bp.set6 (k : Bp w b p) (v : Int) : Bp (w.setCell ⟨b, 6, none⟩ (.int .i64 v)) b (p.1, p.2.1, p.2.2.1, p.2.2.2.1, p.2.2.2.2.1, p.2.2.2.2.2.1, v) := by
  unfold Bp at k ⊢; simp [World.setCell, Array.getElem?_modify, k]
end
structure RpS (T : TypeId) (w W : World) (g b : Nat) (s : ByteArray) (a : Nat) (f : Bool) (p : Prt) : Prop where
  on : On2 g b w W
  lg : g < w.heap.size
  lb : b < w.heap.size
  ne : b ≠ g
  rd : Rd T W g s a f
  bx : Bp W b p
  le : a ≤ s.size
section
variable {T : TypeId} {w W W' : World} {g b : Nat} {s : ByteArray} {a : Nat} {f : Bool} {p : Prt}
theorem RpS.start (h : Rd T w g s a f) (k : Bp w b p) (hn : b ≠ g) (ha : a ≤ s.size) : RpS T w w g b s a f p := ⟨On2.refl _ _ _, h.lt, k.lt, hn, h, k, ha⟩
theorem RpS.next (h : RpS T w W g b s a f p) (hb : Below W.heap.size W W') : RpS T w W' g b s a f p := ⟨h.on.bel hb, h.lg, h.lb, h.ne, h.rd.bel hb, h.bx.bel hb, h.le⟩
theorem RpS.read (h : RpS T w W g b s a f p) {a' : Nat} {f' : Bool} (hr : Rd T W' g s a' f') (ho : Onl g W W') (hl : a' ≤ s.size) : RpS T w W' g b s a' f' p :=
  ⟨h.on.onl ho, h.lg, h.lb, h.ne, hr, (ho.block b h.bx.lt h.ne).trans h.bx, hl⟩
theorem RpS.put (h : RpS T w W g b s a f p) (j : Nat) (u : Value) {q : Prt} (k : Bp (W.setCell ⟨b, j, none⟩ u) b q) : RpS T w (W.setCell ⟨b, j, none⟩ u) g b s a f q :=
  ⟨h.on.set j u, h.lg, h.lb, h.ne, (Below.heap_setCell W ⟨b, j, none⟩ u g (fun e => h.ne e.symm)).trans h.rd, k, h.le⟩
end
end N15.C
end Go.Proofs.YtfhaloclbbmbeaaGreat
namespace Go.Proofs.YtfhaloclbbmbeaaGreat
open Go.RowKit
theorem NxS.trans {L a n1 n2 a1 a2 : Nat} {f f1 f2 : Bool} (h : NxS L a f n1 a1 f1) (k : NxS L a1 f1 n2 a2 f2) : NxS L a f (n1 + n2) a2 f2 :=
  ⟨k.le, fun e => by
    obtain ⟨e1, e2, e3⟩ := k.yes e
    obtain ⟨e4, e5, e6⟩ := h.yes e1
    exact ⟨e4, by omega, by omega⟩, fun e => by
    cases f1
    · obtain ⟨e4, e5, e6⟩ := h.yes rfl
      rcases k.no e with e7 | e7
      · cases e7
      · exact .inr (by omega)
    · rcases h.no rfl with e7 | e7
      · exact .inl e7
      · exact .inr (by omega)⟩
theorem NxS.nil {L a : Nat} {f : Bool} (h : a ≤ L) : NxS L a f 0 a f := ⟨h, fun e => ⟨e, h, rfl⟩, fun e => .inl e⟩
open Go.RowKit
namespace N15.C
theorem wrap_i8n (m : Nat) (h : m < 256) : IntKind.i8.wrap (m : Int) = sg8 m := by
  have h2 : ∀ m : Fin 256, IntKind.i8.wrap (m.val : Int) = sg8 m.val := by decide +kernel
  exact h2 ⟨m, h⟩
theorem i64_of (v : Int) (h : -32768 ≤ v ∧ v ≤ 32767) : IntKind.i64.wrap v = v := i64_in v (by omega)
theorem rd8_any (g : Nat) (s : ByteArray) (a : Nat) (f : Bool) (w : World) (h : Rd 278 w g s a f) (hs : s.size ≤ 1000000000) (ha : a ≤ s.size) :
    Calls Tryz.prog 300 #[.pointer (some ⟨g, 0, none⟩)] w fun e w' => ∃ (v a' : Nat) (f' : Bool), e = .returned (.int .u8 (v : Int)) ∧ v < 256 ∧ NxS s.size a f 1 a' f' ∧ (f' = false → v = bat s.data.toList a) ∧ Rd 278 w' g s a' f' ∧ Onl g w w' := by
  refine (ru8_any g s a f w h hs ha).mono fun e w' ⟨h1, h2, h3⟩ => ⟨_, _, _, h1, bv_le _ 1 (outR_len s.data.toList a f 1), NxS.of (n := 1) ha, fun hf => ?_, h2, h3⟩
  obtain ⟨_, h4, _, h5⟩ := pass_false (n := 1) hf
  rw [show s.size = s.data.toList.length from (size_list s).symm] at h4 h5
  rw [show (1 : Int) = ((1 : Nat) : Int) from rfl, outR_yes h5]
  exact piece_one h4
def RmP (w : World) (g b : Nat) (s : ByteArray) (a : Nat) (fl : Bool) (p : Prt) (f : Nat) (e : Ending) (w' : World) : Prop :=
  ∃ (x y : Int) (a' : Nat) (f' : Bool), e = .returned (.tuple #[]) ∧ NxS s.size a fl (mvw f) a' f' ∧ (f' = false → x = mvX s.data.toList f a ∧ y = mvY s.data.toList f a) ∧ RpS 278 w w' g b s a' f' (p.1, x, y, p.2.2.2)
set_option maxHeartbeats 4000000 in
set_option maxRecDepth 100000 in
theorem readMove_any (g b : Nat) (s : ByteArray) (a : Nat) (fl : Bool) (p : Prt) (f : Nat) (w : World) (h : RpS 278 w w g b s a fl p) (hs : s.size ≤ 1000000000) (hf : f < 65536) :
    Calls Tryz.prog 293 #[.pointer (some ⟨g, 0, none⟩), .int .u16 (f : Int), .pointer (some ⟨b, 0, none⟩)] w (RmP w g b s a fl p f) := by
  have e1 := and1 f hf
  have HS := Lib.hid hs
  have H0 := Lib.hid h
  have hbx := h.bx
  have C1 := Lib.hid (rdi16_any g s a fl w h.rd hs h.le)
  have C2 := Lib.hid (rd8_any g s a fl w h.rd hs h.le)
  by_cases h1 : f % 2 = 1
  · rw [h1] at e1
    have e1 : bits .and .u16 (f : Int) 1 = 1 := e1
    have HE := Lib.hid (show ∀ (v1 v2 : Int) (a1 a2 : Nat) (f1 f2 : Bool) (W : World), NxS s.size a fl 2 a1 f1 → NxS s.size a1 f1 2 a2 f2 → (f1 = false → v1 = sg16 (n2 s.data.toList a)) → (f2 = false → v2 = sg16 (n2 s.data.toList a1)) → RpS 278 w W g b s a2 f2 (p.1, v1, v2, p.2.2.2) → RmP w g b s a fl p f (.returned (.tuple #[])) W from fun v1 v2 a1 a2 f1 f2 W k1 k2 k3 k4 k5 => by
      refine ⟨v1, v2, a2, f2, rfl, ?_, fun e => ?_, k5⟩
      · unfold mvw; rw [if_pos h1]; exact k1.trans k2
      · obtain ⟨q1, q2, q3⟩ := k2.yes e
        obtain ⟨q4, q5, q6⟩ := k1.yes q1
        unfold mvX mvY s2
        rw [if_pos h1, if_pos h1, k3 q1, k4 e, q6]
        exact ⟨rfl, rfl⟩)
    clear h h1 hf hs
    go_enter Tryz.func293, Tryz.ntmps293
    go_wp2_with (first
      | (go_at_call 254; (with_reducible refine C1.out.mono ?_); rintro e w1 ⟨v1, a1, f1, rfl, r1, n1, q1, rd1, o1⟩; have H1 := Lib.hid (H0.out.read rd1 o1 n1.le); have N1 := Lib.hid (And.intro n1 q1); have z1 := i64_of v1 r1; obtain ⟨_, c1, c2, _⟩ := H1.out.bx.cells; have fr1 := H1.out.bx.fr 1; have H1b := Lib.hid (H1.out.put 1 (.int .i64 v1) (H1.out.bx.set1 v1)); clear r1 n1 q1 rd1 o1)
      | (go_at_call 254; (with_reducible refine (rdi16_any _ _ _ _ _ H1b.out.rd HS.out H1b.out.le).mono ?_); rintro e w2 ⟨v2, a2, f2, rfl, r2, n2, q2, rd2, o2⟩; have H2 := Lib.hid (H1b.out.read rd2 o2 n2.le); have N2 := Lib.hid (And.intro n2 q2); have z2 := i64_of v2 r2; obtain ⟨_, d1, d2, _⟩ := H2.out.bx.cells; have fr2 := H2.out.bx.fr 2; clear r2 n2 q2 rd2 o2))
    exact bodyPost_end (results_none rfl _ _ _) rfl (HE.out _ _ _ _ _ _ _ N1.out.1 N2.out.1 N1.out.2 N2.out.2 (H2.out.put 2 (.int .i64 v2) (H2.out.bx.set2 v2)))
  · have h0 : f % 2 = 0 := by omega
    rw [h0] at e1
    have e1 : bits .and .u16 (f : Int) 1 = 0 := e1
    have HE := Lib.hid (show ∀ (v1 v2 a1 a2 : Nat) (f1 f2 : Bool) (W : World), NxS s.size a fl 1 a1 f1 → NxS s.size a1 f1 1 a2 f2 → (f1 = false → v1 = bat s.data.toList a) → (f2 = false → v2 = bat s.data.toList a1) → RpS 278 w W g b s a2 f2 (p.1, sg8 v1, sg8 v2, p.2.2.2) → RmP w g b s a fl p f (.returned (.tuple #[])) W from fun v1 v2 a1 a2 f1 f2 W k1 k2 k3 k4 k5 => by
      refine ⟨_, _, a2, f2, rfl, ?_, fun e => ?_, k5⟩
      · unfold mvw; rw [if_neg h1]; exact k1.trans k2
      · obtain ⟨q1, q2, q3⟩ := k2.yes e
        obtain ⟨q4, q5, q6⟩ := k1.yes q1
        unfold mvX mvY
        rw [if_neg h1, if_neg h1, k3 q1, k4 e, q6]
        exact ⟨rfl, rfl⟩)
    clear h h1 h0 hf hs
    go_enter Tryz.func293, Tryz.ntmps293
    go_wp2_with (first
      | (go_at_call 300; (with_reducible refine C2.out.mono ?_); rintro e w1 ⟨v1, a1, f1, rfl, r1, n1, q1, rd1, o1⟩; have H1 := Lib.hid (H0.out.read rd1 o1 n1.le); have N1 := Lib.hid (And.intro n1 q1); have y1 := wrap_i8n v1 r1; have SG1 := Lib.hid (sg8_okF v1 r1); obtain ⟨t1, ht1⟩ : ∃ t, t = sg8 v1 := ⟨_, rfl⟩; rw [← ht1] at y1 SG1; have z1 := i64_of t1 SG1.out; obtain ⟨_, c1, c2, _⟩ := H1.out.bx.cells; have fr1 := H1.out.bx.fr 1; have H1b := Lib.hid (H1.out.put 1 (.int .i64 t1) (H1.out.bx.set1 t1)); have HT1 := Lib.hid ht1; clear r1 n1 q1 rd1 o1 ht1)
      | (go_at_call 300; (with_reducible refine (rd8_any _ _ _ _ _ H1b.out.rd HS.out H1b.out.le).mono ?_); rintro e w2 ⟨v2, a2, f2, rfl, r2, n2, q2, rd2, o2⟩; have H2 := Lib.hid (H1b.out.read rd2 o2 n2.le); have N2 := Lib.hid (And.intro n2 q2); have y2 := wrap_i8n v2 r2; have SG2 := Lib.hid (sg8_okF v2 r2); obtain ⟨t2, ht2⟩ : ∃ t, t = sg8 v2 := ⟨_, rfl⟩; rw [← ht2] at y2 SG2; have z2 := i64_of t2 SG2.out; obtain ⟨_, d1, d2, _⟩ := H2.out.bx.cells; have fr2 := H2.out.bx.fr 2; have HT2 := Lib.hid ht2; clear r2 n2 q2 rd2 o2 ht2))
    refine bodyPost_end (results_none rfl _ _ _) rfl (HE.out v1 v2 _ _ _ _ _ N1.out.1 N2.out.1 N1.out.2 N2.out.2 ?_)
    rw [← HT1.out, ← HT2.out]
    exact H2.out.put 2 (.int .i64 t2) (H2.out.bx.set2 t2)
end N15.C
end Go.Proofs.YtfhaloclbbmbeaaGreat
namespace Go.Proofs.YtfhaloclbbmbeaaGreat
open Go.RowKit
namespace N15.C
def RnP (w : World) (g b : Nat) (s : ByteArray) (a : Nat) (fl : Bool) (p : Prt) (f : Nat) (e : Ending) (w' : World) : Prop :=
  ∃ (q : Int × Int × Int × Int) (a' : Nat) (f' : Bool), e = .returned (.tuple #[]) ∧ NxS s.size a fl (nuw f) a' f' ∧ (f' = false → q = nu4 s.data.toList f a) ∧ RpS 278 w w' g b s a' f' (p.1, p.2.1, p.2.2.1, q)
set_option maxHeartbeats 8000000 in
set_option maxRecDepth 100000 in
theorem readNumbers_any (g b : Nat) (s : ByteArray) (a : Nat) (fl : Bool) (p : Prt) (f : Nat) (w : World) (h : RpS 278 w w g b s a fl p) (hq : p.2.2.2 = (16384, 0, 0, 16384)) (hs : s.size ≤ 1000000000) (hf : f < 65536) :
    Calls Tryz.prog 294 #[.pointer (some ⟨g, 0, none⟩), .int .u16 (f : Int), .pointer (some ⟨b, 0, none⟩)] w (RnP w g b s a fl p f) := by
  have e1 := and8 f hf
  have e2 := and64 f hf
  have e3 := and128 f hf
  have HS := Lib.hid hs
  have hp : p = (p.1, p.2.1, p.2.2.1, 16384, 0, 0, 16384) := by rw [← hq]
  obtain ⟨p1, p2, p3, p4⟩ := p
  dsimp only at hq hp
  subst hq
  have H0 := Lib.hid h
  have C1 := Lib.hid (rdi16_any g s a fl w h.rd hs h.le)
  by_cases h1 : f / 8 % 2 = 1
  · rw [h1] at e1
    have e1 : bits .and .u16 (f : Int) 8 = 8 := e1
    clear e2
    clear e3
    have HE := Lib.hid (show ∀ (v1 : Int) (a1 : Nat) (f1 : Bool) (W : World), NxS s.size a fl 2 a1 f1 → (f1 = false → v1 = sg16 (n2 s.data.toList a)) → RpS 278 w W g b s a1 f1 (p1, p2, p3, (v1, 0, 0, v1)) → RnP w g b s a fl (p1, p2, p3, 16384, 0, 0, 16384) f (.returned (.tuple #[])) W from fun v1 a1 f1 W k1 q1 kk => by
      refine ⟨_, a1, f1, rfl, ?_, fun e => ?_, kk⟩
      · unfold nuw; rw [if_pos h1]; exact k1
      · obtain ⟨u1, _, y1⟩ := k1.yes e; unfold nu4 s2; rw [if_pos h1]
        rw [q1 e])
    clear h hp hf hs h1
    go_enter Tryz.func294, Tryz.ntmps294
    go_wp2_with (first
      | (go_at_call 254; (with_reducible refine C1.out.mono ?_); rintro e w1 ⟨v1, a1, f1, rfl, r1, n1, q1, rd1, o1⟩; have H1 := Lib.hid (H0.out.read rd1 o1 n1.le); have N1 := Lib.hid (And.intro n1 q1); have z1 := i64_of v1 r1; obtain ⟨_, _, _, c13, c14, c15, c16⟩ := H1.out.bx.cells; have fr1 := H1.out.bx.fr 3; have H1b := Lib.hid (H1.out.put 3 (.int .i64 v1) (H1.out.bx.set3 v1)); obtain ⟨_, _, _, d13, _, _, d16⟩ := H1b.out.bx.cells; have fs1 := H1b.out.bx.fr 6; clear r1 n1 q1 rd1 o1))
    exact bodyPost_end (results_none rfl _ _ _) rfl (HE.out _ _ _ _ N1.out.1 N1.out.2 (H1b.out.put 6 (.int .i64 v1) (H1b.out.bx.set6 v1)))
  · have g1 : f / 8 % 2 = 0 := by omega
    by_cases h2 : f / 64 % 2 = 1
    · rw [g1] at e1
      have e1 : bits .and .u16 (f : Int) 8 = 0 := e1
      rw [h2] at e2
      have e2 : bits .and .u16 (f : Int) 64 = 64 := e2
      clear e3
      have HE := Lib.hid (show ∀ (v1 v2 : Int) (a1 a2 : Nat) (f1 f2 : Bool) (W : World), NxS s.size a fl 2 a1 f1 → NxS s.size a1 f1 2 a2 f2 → (f1 = false → v1 = sg16 (n2 s.data.toList a)) → (f2 = false → v2 = sg16 (n2 s.data.toList a1)) → RpS 278 w W g b s a2 f2 (p1, p2, p3, (v1, 0, 0, v2)) → RnP w g b s a fl (p1, p2, p3, 16384, 0, 0, 16384) f (.returned (.tuple #[])) W from fun v1 v2 a1 a2 f1 f2 W k1 k2 q1 q2 kk => by
        refine ⟨_, a2, f2, rfl, ?_, fun e => ?_, kk⟩
        · unfold nuw; rw [if_neg h1, if_pos h2]; exact (k1).trans k2
        · obtain ⟨u2, _, y2⟩ := k2.yes e; obtain ⟨u1, _, y1⟩ := k1.yes u2; unfold nu4 s2; rw [if_neg h1, if_pos h2]
          rw [q1 u2, q2 e]
          subst y1
          rfl)
      clear h hp hf hs g1 h1 h2
      go_enter Tryz.func294, Tryz.ntmps294
      go_wp2_with (first
        | (go_at_call 254; (with_reducible refine C1.out.mono ?_); rintro e w1 ⟨v1, a1, f1, rfl, r1, n1, q1, rd1, o1⟩; have H1 := Lib.hid (H0.out.read rd1 o1 n1.le); have N1 := Lib.hid (And.intro n1 q1); have z1 := i64_of v1 r1; obtain ⟨_, _, _, c13, c14, c15, c16⟩ := H1.out.bx.cells; have fr1 := H1.out.bx.fr 3; have H1b := Lib.hid (H1.out.put 3 (.int .i64 v1) (H1.out.bx.set3 v1)); clear r1 n1 q1 rd1 o1)
        | (go_at_call 254; (with_reducible refine (rdi16_any _ _ _ _ _ H1b.out.rd HS.out H1b.out.le).mono ?_); rintro e w2 ⟨v2, a2, f2, rfl, r2, n2, q2, rd2, o2⟩; have H2 := Lib.hid (H1b.out.read rd2 o2 n2.le); have N2 := Lib.hid (And.intro n2 q2); have z2 := i64_of v2 r2; obtain ⟨_, _, _, c23, c24, c25, c26⟩ := H2.out.bx.cells; have fr2 := H2.out.bx.fr 6; have H2b := Lib.hid (H2.out.put 6 (.int .i64 v2) (H2.out.bx.set6 v2)); clear r2 n2 q2 rd2 o2))
      exact bodyPost_end (results_none rfl _ _ _) rfl (HE.out _ _ _ _ _ _ _ N1.out.1 N2.out.1 N1.out.2 N2.out.2 H2b.out)
    · have g2 : f / 64 % 2 = 0 := by omega
      by_cases h3 : f / 128 % 2 = 1
      · rw [g1] at e1
        have e1 : bits .and .u16 (f : Int) 8 = 0 := e1
        rw [g2] at e2
        have e2 : bits .and .u16 (f : Int) 64 = 0 := e2
        rw [h3] at e3
        have e3 : bits .and .u16 (f : Int) 128 = 128 := e3
        have HE := Lib.hid (show ∀ (v1 v2 v3 v4 : Int) (a1 a2 a3 a4 : Nat) (f1 f2 f3 f4 : Bool) (W : World), NxS s.size a fl 2 a1 f1 → NxS s.size a1 f1 2 a2 f2 → NxS s.size a2 f2 2 a3 f3 → NxS s.size a3 f3 2 a4 f4 → (f1 = false → v1 = sg16 (n2 s.data.toList a)) → (f2 = false → v2 = sg16 (n2 s.data.toList a1)) → (f3 = false → v3 = sg16 (n2 s.data.toList a2)) → (f4 = false → v4 = sg16 (n2 s.data.toList a3)) → RpS 278 w W g b s a4 f4 (p1, p2, p3, (v1, v2, v3, v4)) → RnP w g b s a fl (p1, p2, p3, 16384, 0, 0, 16384) f (.returned (.tuple #[])) W from fun v1 v2 v3 v4 a1 a2 a3 a4 f1 f2 f3 f4 W k1 k2 k3 k4 q1 q2 q3 q4 kk => by
          refine ⟨_, a4, f4, rfl, ?_, fun e => ?_, kk⟩
          · unfold nuw; rw [if_neg h1, if_neg h2, if_pos h3]; exact (((k1).trans k2).trans k3).trans k4
          · obtain ⟨u4, _, y4⟩ := k4.yes e; obtain ⟨u3, _, y3⟩ := k3.yes u4; obtain ⟨u2, _, y2⟩ := k2.yes u3; obtain ⟨u1, _, y1⟩ := k1.yes u2; unfold nu4 s2; rw [if_neg h1, if_neg h2, if_pos h3]
            rw [q1 u2, q2 u3, q3 u4, q4 e]
            subst y1 y2 y3
            rw [show a + 2 + 2 = a + 4 by omega, show a + 4 + 2 = a + 6 by omega])
        clear h hp hf hs g1 h1 g2 h2 h3
        go_enter Tryz.func294, Tryz.ntmps294
        go_wp2_with (first
          | (go_at_call 254; (with_reducible refine C1.out.mono ?_); rintro e w1 ⟨v1, a1, f1, rfl, r1, n1, q1, rd1, o1⟩; have H1 := Lib.hid (H0.out.read rd1 o1 n1.le); have N1 := Lib.hid (And.intro n1 q1); have z1 := i64_of v1 r1; obtain ⟨_, _, _, c13, c14, c15, c16⟩ := H1.out.bx.cells; have fr1 := H1.out.bx.fr 3; have H1b := Lib.hid (H1.out.put 3 (.int .i64 v1) (H1.out.bx.set3 v1)); clear r1 n1 q1 rd1 o1)
          | (go_at_call 254; (with_reducible refine (rdi16_any _ _ _ _ _ H1b.out.rd HS.out H1b.out.le).mono ?_); rintro e w2 ⟨v2, a2, f2, rfl, r2, n2, q2, rd2, o2⟩; have H2 := Lib.hid (H1b.out.read rd2 o2 n2.le); have N2 := Lib.hid (And.intro n2 q2); have z2 := i64_of v2 r2; obtain ⟨_, _, _, c23, c24, c25, c26⟩ := H2.out.bx.cells; have fr2 := H2.out.bx.fr 4; have H2b := Lib.hid (H2.out.put 4 (.int .i64 v2) (H2.out.bx.set4 v2)); clear r2 n2 q2 rd2 o2)
          | (go_at_call 254; (with_reducible refine (rdi16_any _ _ _ _ _ H2b.out.rd HS.out H2b.out.le).mono ?_); rintro e w3 ⟨v3, a3, f3, rfl, r3, n3, q3, rd3, o3⟩; have H3 := Lib.hid (H2b.out.read rd3 o3 n3.le); have N3 := Lib.hid (And.intro n3 q3); have z3 := i64_of v3 r3; obtain ⟨_, _, _, c33, c34, c35, c36⟩ := H3.out.bx.cells; have fr3 := H3.out.bx.fr 5; have H3b := Lib.hid (H3.out.put 5 (.int .i64 v3) (H3.out.bx.set5 v3)); clear r3 n3 q3 rd3 o3)
          | (go_at_call 254; (with_reducible refine (rdi16_any _ _ _ _ _ H3b.out.rd HS.out H3b.out.le).mono ?_); rintro e w4 ⟨v4, a4, f4, rfl, r4, n4, q4, rd4, o4⟩; have H4 := Lib.hid (H3b.out.read rd4 o4 n4.le); have N4 := Lib.hid (And.intro n4 q4); have z4 := i64_of v4 r4; obtain ⟨_, _, _, c43, c44, c45, c46⟩ := H4.out.bx.cells; have fr4 := H4.out.bx.fr 6; have H4b := Lib.hid (H4.out.put 6 (.int .i64 v4) (H4.out.bx.set6 v4)); clear r4 n4 q4 rd4 o4))
        exact bodyPost_end (results_none rfl _ _ _) rfl (HE.out _ _ _ _ _ _ _ _ _ _ _ _ _ N1.out.1 N2.out.1 N3.out.1 N4.out.1 N1.out.2 N2.out.2 N3.out.2 N4.out.2 H4b.out)
      · have g3 : f / 128 % 2 = 0 := by omega
        rw [g1] at e1
        have e1 : bits .and .u16 (f : Int) 8 = 0 := e1
        rw [g2] at e2
        have e2 : bits .and .u16 (f : Int) 64 = 0 := e2
        rw [g3] at e3
        have e3 : bits .and .u16 (f : Int) 128 = 0 := e3
        have HE := Lib.hid (show RnP w g b s a fl (p1, p2, p3, 16384, 0, 0, 16384) f (.returned (.tuple #[])) w from by
          refine ⟨_, a, fl, rfl, ?_, fun _ => ?_, H0.out⟩
          · unfold nuw; rw [if_neg h1, if_neg h2, if_neg h3]; exact NxS.nil H0.out.le
          · unfold nu4; rw [if_neg h1, if_neg h2, if_neg h3])
        clear h hp hf hs g1 h1 g2 h2 g3 h3
        go_enter Tryz.func294, Tryz.ntmps294
        go_wp2_with fail
        exact bodyPost_end (results_none rfl _ _ _) rfl HE.out
end N15.C
end Go.Proofs.YtfhaloclbbmbeaaGreat
