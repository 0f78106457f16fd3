/- Proved here: which bits of a part may be; memory while a part is read. Condition: a number of two bytes. -/
import Derived.Test.YtbmeamhpmahlgaaPd
namespace Go.Proofs.Ytbmeamhpmahlgaa
open Go.RowKit

theorem and_pow (f k : Nat) : f &&& 2 ^ k = f / 2 ^ k % 2 * 2 ^ k := by
  apply Nat.eq_of_testBit_eq
  intro i
  rw [Nat.testBit_and, Nat.testBit_two_pow]
  have e := Nat.testBit_eq_decide_div_mod_eq (x := f) (i := k)
  by_cases h : f / 2 ^ k % 2 = 1
  · rw [h, Nat.one_mul, Nat.testBit_two_pow]
    by_cases hi : k = i
    · subst hi; rw [e, decide_eq_true h]; rfl
    · rw [decide_eq_false hi, Bool.and_false]
  · have h0 : f / 2 ^ k % 2 = 0 := by omega
    rw [h0, Nat.zero_mul, Nat.zero_testBit]
    by_cases hi : k = i
    · subst hi; rw [e, decide_eq_false h]; rfl
    · rw [decide_eq_false hi, Bool.and_false]
theorem and1 (f : Nat) (hf : f < 65536) : bits .and .u16 (f : Int) 1 = ((f % 2 : Nat) : Int) := by
  have := u16_and_nat f 1 hf (by omega)
  rw [show f &&& 1 = f % 2 by simp] at this
  exact this
theorem and2 (f : Nat) (hf : f < 65536) : bits .and .u16 (f : Int) 2 = ((f / 2 % 2 * 2 : Nat) : Int) := by
  have := u16_and_nat f 2 hf (by omega)
  rw [show f &&& 2 = _ from and_pow f 1] at this
  exact this
theorem and8 (f : Nat) (hf : f < 65536) : bits .and .u16 (f : Int) 8 = ((f / 8 % 2 * 8 : Nat) : Int) := by
  have := u16_and_nat f 8 hf (by omega)
  rw [show f &&& 8 = _ from and_pow f 3] at this
  exact this
theorem and32 (f : Nat) (hf : f < 65536) : bits .and .u16 (f : Int) 32 = ((f / 32 % 2 * 32 : Nat) : Int) := by
  have := u16_and_nat f 32 hf (by omega)
  rw [show f &&& 32 = _ from and_pow f 5] at this
  exact this
theorem and64 (f : Nat) (hf : f < 65536) : bits .and .u16 (f : Int) 64 = ((f / 64 % 2 * 64 : Nat) : Int) := by
  have := u16_and_nat f 64 hf (by omega)
  rw [show f &&& 64 = _ from and_pow f 6] at this
  exact this
theorem and128 (f : Nat) (hf : f < 65536) : bits .and .u16 (f : Int) 128 = ((f / 128 % 2 * 128 : Nat) : Int) := by
  have := u16_and_nat f 128 hf (by omega)
  rw [show f &&& 128 = _ from and_pow f 7] at this
  exact this
theorem and200 (f : Nat) (hf : f < 65536) : bits .and .u16 (f : Int) 200 = ((f / 8 % 2 * 8 + f / 64 % 2 * 64 + f / 128 % 2 * 128 : Nat) : Int) := by
  have := u16_and_nat f 200 hf (by omega)
  rw [show (200 : Nat) = 2 ^ 3 ||| (2 ^ 6 ||| 2 ^ 7) by decide, Nat.and_or_distrib_left, Nat.and_or_distrib_left, and_pow, and_pow, and_pow] at this
  refine Eq.trans this ?_
  have h1 : f / 8 % 2 = 0 ∨ f / 8 % 2 = 1 := by omega
  have h2 : f / 64 % 2 = 0 ∨ f / 64 % 2 = 1 := by omega
  have h3 : f / 128 % 2 = 0 ∨ f / 128 % 2 = 1 := by omega
  show ((f / 8 % 2 * 8 ||| (f / 64 % 2 * 64 ||| f / 128 % 2 * 128) : Nat) : Int) = _
  rcases h1 with h1 | h1 <;> rcases h2 with h2 | h2 <;> rcases h3 with h3 | h3 <;> rw [h1, h2, h3] <;> decide
theorem never_not (f : Nat) (hf : f < 65536) : (bits .and .u16 (f : Int) 59408 != 0) = !decide (f / 16 % 2 = 0 ∧ f / 2048 % 2 = 0 ∧ f < 8192) := by
  have := u16_and_nat f 59408 hf (by omega)
  rw [show (59408 : Nat) = 2 ^ 4 ||| (2 ^ 11 ||| (2 ^ 13 ||| (2 ^ 14 ||| 2 ^ 15))) by decide, Nat.and_or_distrib_left, Nat.and_or_distrib_left, Nat.and_or_distrib_left, Nat.and_or_distrib_left, and_pow, and_pow, and_pow, and_pow, and_pow] at this
  have e : bits .and .u16 (f : Int) 59408 = ((f / 2 ^ 4 % 2 * 2 ^ 4 ||| (f / 2 ^ 11 % 2 * 2 ^ 11 ||| (f / 2 ^ 13 % 2 * 2 ^ 13 ||| (f / 2 ^ 14 % 2 * 2 ^ 14 ||| f / 2 ^ 15 % 2 * 2 ^ 15))) : Nat) : Int) := this
  rw [e]
  by_cases h : f / 16 % 2 = 0 ∧ f / 2048 % 2 = 0 ∧ f < 8192
  · rw [decide_eq_true h]
    obtain ⟨h1, h2, h3⟩ := h
    have k1 : f / 2 ^ 4 % 2 = 0 := h1
    have k2 : f / 2 ^ 11 % 2 = 0 := h2
    have k3 : f / 2 ^ 13 % 2 = 0 := by show f / 8192 % 2 = 0; omega
    have k4 : f / 2 ^ 14 % 2 = 0 := by show f / 16384 % 2 = 0; omega
    have k5 : f / 2 ^ 15 % 2 = 0 := by show f / 32768 % 2 = 0; omega
    rw [k1, k2, k3, k4, k5]
    decide
  · rw [decide_eq_false h]
    refine bne_iff_ne.2 fun h0 => h ?_
    have h0 : (f / 2 ^ 4 % 2 * 2 ^ 4 ||| (f / 2 ^ 11 % 2 * 2 ^ 11 ||| (f / 2 ^ 13 % 2 * 2 ^ 13 ||| (f / 2 ^ 14 % 2 * 2 ^ 14 ||| f / 2 ^ 15 % 2 * 2 ^ 15)))) = 0 := Int.ofNat.inj h0
    simp only [Nat.or_eq_zero_iff] at h0
    obtain ⟨k1, k2, k3, k4, k5⟩ := h0
    have k3 : f / 8192 % 2 * 8192 = 0 := k3
    have k4 : f / 16384 % 2 * 16384 = 0 := k4
    have k5 : f / 32768 % 2 * 32768 = 0 := k5
    have k1 : f / 16 % 2 * 16 = 0 := k1
    have k2 : f / 2048 % 2 * 2048 = 0 := k2
    omega
/-- The facts by which the walk parts. -/
theorem bit_ne {f m : Nat} {z : Int} (h : z = ((f / m % 2 * m : Nat) : Int)) (hm : 0 < m) : (z != 0) = decide (f / m % 2 = 1) := by
  rw [h]
  by_cases h1 : f / m % 2 = 1
  · rw [decide_eq_true h1, h1]
    exact bne_iff_ne.2 fun h2 => by omega
  · have h0 : f / m % 2 = 0 := by omega
    rw [decide_eq_false h1, h0]
    simp
set_option maxHeartbeats 2000000 in
theorem mayBits_any (f : Nat) (hf : f < 65536) (w : World) : Calls Try.prog 61 #[.int .u16 (f : Int)] w fun e w' => e = .returned (.bool (decide (okB f))) ∧ w = w' := by
  have e1 := and2 f hf
  have e2 := never_not f hf
  have e3 := and200 f hf
  by_cases h1 : f / 2 % 2 = 1
  · rw [h1] at e1
    have e1 : bits .and .u16 (f : Int) 2 = 2 := e1
    by_cases h2 : f / 16 % 2 = 0 ∧ f / 2048 % 2 = 0 ∧ f < 8192
    · rw [decide_eq_true h2] at e2
      have e2 : (bits .and .u16 (f : Int) 59408 != 0) = false := e2
      by_cases h3 : f / 8 % 2 + f / 64 % 2 + f / 128 % 2 ≤ 1
      · rw [decide_eq_true (show okB f from ⟨h1, h2.1, h2.2.1, h2.2.2, h3⟩)]
        have hh : bits .and .u16 (f : Int) 200 = 0 ∨ bits .and .u16 (f : Int) 200 = 8 ∨ bits .and .u16 (f : Int) 200 = 64 ∨ bits .and .u16 (f : Int) 200 = 128 := by omega
        clear e3 h1 h2 h3 hf
        rcases hh with e3 | e3 | e3 | e3
        all_goals
          go_enter Try.func61, Try.ntmps61
          go_wp2_with fail
          go_ret
          exact ⟨rfl, rfl⟩
      · rw [decide_eq_false (show ¬ okB f from fun h => h3 h.2.2.2.2)]
        have hh : bits .and .u16 (f : Int) 200 = 72 ∨ bits .and .u16 (f : Int) 200 = 136 ∨ bits .and .u16 (f : Int) 200 = 192 ∨ bits .and .u16 (f : Int) 200 = 200 := by omega
        clear e3 h1 h2 h3 hf
        rcases hh with e3 | e3 | e3 | e3
        all_goals
          go_enter Try.func61, Try.ntmps61
          go_wp2_with fail
          go_ret
          exact ⟨rfl, rfl⟩
    · rw [decide_eq_false h2] at e2
      have e2 : (bits .and .u16 (f : Int) 59408 != 0) = true := e2
      rw [decide_eq_false (show ¬ okB f from fun h => h2 ⟨h.2.1, h.2.2.1, h.2.2.2.1⟩)]
      clear e3 h1 h2 hf
      go_enter Try.func61, Try.ntmps61
      go_wp2_with fail
      go_ret
      exact ⟨rfl, rfl⟩
  · have h0 : f / 2 % 2 = 0 := by omega
    rw [h0] at e1
    have e1 : bits .and .u16 (f : Int) 2 = 0 := e1
    rw [decide_eq_false (show ¬ okB f from fun h => h1 h.1)]
    clear e2 e3 h1 h0 hf
    go_enter Try.func61, Try.ntmps61
    go_wp2_with fail
    go_ret
    exact ⟨rfl, rfl⟩

/-- Nothing but two blocks has turned. -/
structure On2 (g b : Nat) (w w' : World) : Prop where
  os : w'.os = w.os
  tape : w'.tape = w.tape
  output : w'.output = w.output
  size : w.heap.size ≤ w'.heap.size
  block : ∀ k, k < w.heap.size → k ≠ g → k ≠ b → w'.heap[k]? = w.heap[k]?
theorem On2.refl (g b : Nat) (w : World) : On2 g b w w := ⟨rfl, rfl, rfl, Nat.le_refl _, fun _ _ _ _ => rfl⟩
theorem On2.onl {g b : Nat} {w W W' : World} (h : On2 g b w W) (k : Onl g W W') : On2 g b w W' :=
  ⟨k.os.trans h.os, k.tape.trans h.tape, k.output.trans h.output, Nat.le_trans h.size k.size, fun i hi h2 h3 => (k.block i (Nat.lt_of_lt_of_le hi h.size) h2).trans (h.block i hi h2 h3)⟩
theorem On2.bel {g b : Nat} {w W W' : World} (h : On2 g b w W) (k : Below W.heap.size W W') : On2 g b w W' := h.onl (Onl.of k)
theorem On2.set {g b : Nat} {w W : World} (h : On2 g b w W) (j : Nat) (u : Value) : On2 g b w (W.setCell ⟨b, j, none⟩ u) :=
  ⟨h.os, h.tape, h.output, by simpa [World.setCell] using h.size, fun i hi h2 h3 => (Below.heap_setCell W _ u _ h3).trans (h.block i hi h2 h3)⟩
section
variable {w : World} {b : Nat} {p : Prt}
theorem Bp.set1 (k : Bp w b p) (v : Int) : Bp (w.setCell ⟨b, 1, none⟩ (.int .i64 v)) b (p.1, v, p.2.2) := by
  unfold Bp at k ⊢; simp [World.setCell, Array.getElem?_modify, k]
theorem Bp.set2 (k : Bp w b p) (v : Int) : Bp (w.setCell ⟨b, 2, none⟩ (.int .i64 v)) b (p.1, p.2.1, v, p.2.2.2) := by
  unfold Bp at k ⊢; simp [World.setCell, Array.getElem?_modify, k]
theorem Bp.set3 (k : Bp w b p) (v : Int) : Bp (w.setCell ⟨b, 3, none⟩ (.int .i64 v)) b (p.1, p.2.1, p.2.2.1, v, p.2.2.2.2) := by
  unfold Bp at k ⊢; simp [World.setCell, Array.getElem?_modify, k]
theorem Bp.set4 (k : Bp w b p) (v : Int) : Bp (w.setCell ⟨b, 4, none⟩ (.int .i64 v)) b (p.1, p.2.1, p.2.2.1, p.2.2.2.1, v, p.2.2.2.2.2) := by
  unfold Bp at k ⊢; simp [World.setCell, Array.getElem?_modify, k]
theorem Bp.set5 (k : Bp w b p) (v : Int) : Bp (w.setCell ⟨b, 5, none⟩ (.int .i64 v)) b (p.1, p.2.1, p.2.2.1, p.2.2.2.1, p.2.2.2.2.1, v, p.2.2.2.2.2.2) := by
  unfold Bp at k ⊢; simp [World.setCell, Array.getElem?_modify, k]
theorem Bp.set6 (k : Bp w b p) (v : Int) : Bp (w.setCell ⟨b, 6, none⟩ (.int .i64 v)) b (p.1, p.2.1, p.2.2.1, p.2.2.2.1, p.2.2.2.2.1, p.2.2.2.2.2.1, v) := by
  unfold Bp at k ⊢; simp [World.setCell, Array.getElem?_modify, k]
end
/-- While a part is read: the reader and the part's box alone have turned. -/
structure RpS (T : TypeId) (w W : World) (g b : Nat) (s : ByteArray) (a : Nat) (f : Bool) (p : Prt) : Prop where
  on : On2 g b w W
  lg : g < w.heap.size
  lb : b < w.heap.size
  ne : b ≠ g
  rd : Rd T W g s a f
  bx : Bp W b p
  le : a ≤ s.size
section
variable {T : TypeId} {w W W' : World} {g b : Nat} {s : ByteArray} {a : Nat} {f : Bool} {p : Prt}
theorem RpS.start (h : Rd T w g s a f) (k : Bp w b p) (hn : b ≠ g) (ha : a ≤ s.size) : RpS T w w g b s a f p := ⟨On2.refl _ _ _, h.lt, k.lt, hn, h, k, ha⟩
theorem RpS.next (h : RpS T w W g b s a f p) (hb : Below W.heap.size W W') : RpS T w W' g b s a f p := ⟨h.on.bel hb, h.lg, h.lb, h.ne, h.rd.bel hb, h.bx.bel hb, h.le⟩
theorem RpS.read (h : RpS T w W g b s a f p) {a' : Nat} {f' : Bool} (hr : Rd T W' g s a' f') (ho : Onl g W W') (hl : a' ≤ s.size) : RpS T w W' g b s a' f' p :=
  ⟨h.on.onl ho, h.lg, h.lb, h.ne, hr, (ho.block b h.bx.lt h.ne).trans h.bx, hl⟩
theorem RpS.put (h : RpS T w W g b s a f p) (j : Nat) (u : Value) {q : Prt} (k : Bp (W.setCell ⟨b, j, none⟩ u) b q) : RpS T w (W.setCell ⟨b, j, none⟩ u) g b s a f q :=
  ⟨h.on.set j u, h.lg, h.lb, h.ne, (Below.heap_setCell W ⟨b, j, none⟩ u g (fun e => h.ne e.symm)).trans h.rd, k, h.le⟩
end
end Go.Proofs.Ytbmeamhpmahlgaa
