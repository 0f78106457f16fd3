/- Proved here: what readPart answers. Condition: a reader of a text of at most a billion bytes that has not failed. -/
import Derived.Test.YtbmeamhpmahlgaaQc
namespace Go.Proofs.Ytbmeamhpmahlgaa
open Go.RowKit

theorem NxS.bad {L a n a' : Nat} {f' : Bool} (h : NxS L a false n a' f') (hL : L < a + n) : f' = true := by
  cases f'
  · obtain ⟨_, e2, _⟩ := h.yes rfl; omega
  · rfl
theorem NxS.good {L a n a' : Nat} {f' : Bool} (h : NxS L a false n a' f') (hL : a + n ≤ L) : f' = false ∧ a' = a + n := by
  cases f'
  · exact ⟨rfl, (h.yes rfl).2.2⟩
  · rcases h.no rfl with e | e
    · cases e
    · omega
theorem u16_in (g : Nat) (s : ByteArray) (a : Nat) (w : World) (h : Rd 79 w g s a false) (hs : s.size ≤ 1000000000) (ha : a + 2 ≤ s.size) :
    Calls Try.prog 60 #[.pointer (some ⟨g, 0, none⟩)] w fun e w' => e = .returned (.int .u16 (n2 s.data.toList a : Int)) ∧ Rd 79 w' g s (a + 2) false ∧ Onl g w w' := by
  refine (rd16_any g s a false w h hs (by omega)).mono fun e w' ⟨v, a', f', h1, _, h3, h4, h5, h6⟩ => ?_
  obtain ⟨rfl, rfl⟩ := h3.good ha
  rw [h4 rfl] at h1
  exact ⟨h1, h5, h6⟩
/-- The result's box, while the reader reads. -/
structure QpS (T : TypeId) (w W : World) (g : Nat) (s : ByteArray) (a : Nat) (f : Bool) (b : Nat) (p : Prt) : Prop where
  r : RoS T w W g s a f
  hb : w.heap.size ≤ b
  bx : Bp W b p
section
variable {T : TypeId} {w W W' : World} {g b : Nat} {s : ByteArray} {a : Nat} {f : Bool} {p : Prt}
theorem QpS.next (h : QpS T w W g s a f b p) (hb : Below W.heap.size W W') : QpS T w W' g s a f b p := ⟨h.r.next hb, h.hb, h.bx.bel hb⟩
theorem QpS.ne (h : QpS T w W g s a f b p) : b ≠ g := by have := h.hb; have := h.r.lg; omega
theorem QpS.read (h : QpS T w W g s a f b p) {a' : Nat} {f' : Bool} (hr : Rd T W' g s a' f') (ho : Onl g W W') (hl : a' ≤ s.size) : QpS T w W' g s a' f' b p :=
  ⟨h.r.read hr ho hl, h.hb, (ho.block b h.bx.lt h.ne).trans h.bx⟩
theorem QpS.start (h : Rd T w g s a f) (ha : a ≤ s.size) : QpS T w (w.alloc (.cells #[.int .i64 0, .int .i64 0, .int .i64 0, .int .i64 0, .int .i64 0, .int .i64 0, .int .i64 0] 38)) g s a f w.heap.size p0 :=
  ⟨(RoS.start h ha).next ((Below.refl _ _).alloc (Nat.le_refl _) _), Nat.le_refl _, Bp.new w 0 0 0 0 0 0 0⟩
/-- Behind a second box, in which the part is read. -/
theorem QpS.two {b2 a' : Nat} {f' : Bool} {q : Prt} (h : QpS T w W g s a f b p) (hb2 : W.heap.size ≤ b2) {W1 W2 : World} (h1 : Below W.heap.size W W1) (k : RpS T W1 W2 g b2 s a' f' q) : QpS T w W2 g s a' f' b p := by
  have hg := h.r.rd.lt
  have hs := h.bx.lt
  have hl := h1.size
  refine ⟨⟨?_, h.r.lg, k.rd, k.le⟩, h.hb, ?_⟩
  · refine ⟨k.on.os.trans (h1.os.trans h.r.onl.os), k.on.tape.trans (h1.tape.trans h.r.onl.tape), k.on.output.trans (h1.output.trans h.r.onl.output), ?_, fun i hi hig => ?_⟩
    · have := k.on.size; have := h.r.onl.size; omega
    · have := h.r.onl.size
      rw [k.on.block i (by omega) hig (by omega), h1.block i (by omega)]
      exact h.r.onl.block i hi hig
  · show W2.heap[b]? = _
    rw [k.on.block b (by omega) h.ne (by omega), h1.block b hs]
    exact h.bx
theorem Bp.store (k : Bp W b p) (c0 c1 c2 c3 c4 c5 c6 : Int) : Bp (((((((W.setCell ⟨b, 0, none⟩ (.int .i64 c0)).setCell ⟨b, 1, none⟩ (.int .i64 c1)).setCell ⟨b, 2, none⟩ (.int .i64 c2)).setCell ⟨b, 3, none⟩ (.int .i64 c3)).setCell ⟨b, 4, none⟩ (.int .i64 c4)).setCell ⟨b, 5, none⟩ (.int .i64 c5)).setCell ⟨b, 6, none⟩ (.int .i64 c6)) b (c0, c1, c2, c3, c4, c5, c6) := by
  have k0 : Bp (W.setCell ⟨b, 0, none⟩ (.int .i64 c0)) b (c0, p.2) := by
    unfold Bp at k ⊢; simp [World.setCell, Array.getElem?_modify, k]
  exact (((((k0.set1 c1).set2 c2).set3 c3).set4 c4).set5 c5).set6 c6
theorem QpS.store (h : QpS T w W g s a f b p) (c0 c1 c2 c3 c4 c5 c6 : Int) : QpS T w (((((((W.setCell ⟨b, 0, none⟩ (.int .i64 c0)).setCell ⟨b, 1, none⟩ (.int .i64 c1)).setCell ⟨b, 2, none⟩ (.int .i64 c2)).setCell ⟨b, 3, none⟩ (.int .i64 c3)).setCell ⟨b, 4, none⟩ (.int .i64 c4)).setCell ⟨b, 5, none⟩ (.int .i64 c5)).setCell ⟨b, 6, none⟩ (.int .i64 c6)) g s a f b (c0, c1, c2, c3, c4, c5, c6) := by
  have on : ∀ {W : World} (j : Nat) (u : Value), Onl g w W → Onl g w (W.setCell ⟨b, j, none⟩ u) := fun j u ho => onl_set ho h.hb
  have rd : ∀ {W : World} (j : Nat) (u : Value), Rd T W g s a f → Rd T (W.setCell ⟨b, j, none⟩ u) g s a f := fun j u hr => (Below.heap_setCell _ ⟨b, j, none⟩ u g (fun e => h.ne e.symm)).trans hr
  exact ⟨⟨on _ _ (on _ _ (on _ _ (on _ _ (on _ _ (on _ _ (on _ _ h.r.onl)))))), h.r.lg, rd _ _ (rd _ _ (rd _ _ (rd _ _ (rd _ _ (rd _ _ (rd _ _ h.r.rd)))))), h.r.le⟩, h.hb, h.bx.store c0 c1 c2 c3 c4 c5 c6⟩
end
theorem ret_part {fn : Func} {p q r : Tmp} {tmps : Array Value} {W : World} {b : Nat} {k : Prt} {u v : Value} (h : fn.results = #[.cell p 38, .tmp q, .tmp r]) (hp : tmps.getD p undef = .pointer (some ⟨b, 0, none⟩)) (hq : tmps.getD q undef = u) (hr : tmps.getD r undef = v) (hb : Bp W b k) :
    (results fn tmps).run Try.prog W = .ok (.tuple #[.agg #[.int .i64 k.1, .int .i64 k.2.1, .int .i64 k.2.2.1, .int .i64 k.2.2.2.1, .int .i64 k.2.2.2.2.1, .int .i64 k.2.2.2.2.2.1, .int .i64 k.2.2.2.2.2.2], u, v]) W := by
  obtain ⟨c0, c1, c2, c3, c4, c5, c6⟩ := hb.cells
  rw [Array.getD_eq_getD_getElem?] at hp hq hr
  simp [results, h, hp, hq, hr, go_sem, c0, c1, c2, c3, c4, c5, c6]
/-- What readPart answers. -/
def RdP (T : TypeId) (R : Int × Prt × Bool × Nat) (g : Nat) (s : ByteArray) (w : World) (e : Ending) (w' : World) : Prop :=
  ∃ (q : Prt) (n : Bool), e = .returned (.tuple #[.agg #[.int .i64 q.1, .int .i64 q.2.1, .int .i64 q.2.2.1, .int .i64 q.2.2.2.1, .int .i64 q.2.2.2.2.1, .int .i64 q.2.2.2.2.2.1, .int .i64 q.2.2.2.2.2.2], .bool n, .int .i64 R.1]) ∧ Onl g w w'
    ∧ (R.1 = 0 → q = R.2.1 ∧ n = R.2.2.1 ∧ Rd T w' g s R.2.2.2 false ∧ R.2.2.2 ≤ s.size)
theorem rdP_err {T : TypeId} {R : Int × Prt × Bool × Nat} {g : Nat} {s : ByteArray} {w w' : World} {x : Int} {r : Prt × Bool × Nat} (h : R = (x, r)) (hx : x ≠ 0) (ho : Onl g w w') (q : Prt) (n : Bool) : RdP T R g s w (.returned (.tuple #[.agg #[.int .i64 q.1, .int .i64 q.2.1, .int .i64 q.2.2.1, .int .i64 q.2.2.2.1, .int .i64 q.2.2.2.2.1, .int .i64 q.2.2.2.2.2.1, .int .i64 q.2.2.2.2.2.2], .bool n, .int .i64 x])) w' := by
  subst h
  exact ⟨q, n, rfl, ho, fun h => absurd h hx⟩
theorem prt_short {l : List UInt8} {G : Int} {a : Nat} (h : l.length < a + 4) : prt l G a = (3, p0, false, 0) := by unfold prt; rw [if_pos h]
theorem prt_form {l : List UInt8} {G : Int} {a : Nat} (h : ¬ l.length < a + 4) (h2 : ¬ okB (n2 l a) ∨ G ≤ (n2 l (a + 2) : Int)) : prt l G a = (4, p0, false, 0) := by unfold prt; rw [if_neg h, if_pos h2]
theorem prt_end {l : List UInt8} {G : Int} {a : Nat} (h : ¬ l.length < a + 4) (h2 : ¬ (¬ okB (n2 l a) ∨ G ≤ (n2 l (a + 2) : Int))) (h3 : l.length < a + 4 + mvw (n2 l a) + nuw (n2 l a)) : prt l G a = (3, p0, false, 0) := by unfold prt; rw [if_neg h, if_neg h2, if_pos h3]
theorem prt_ok {l : List UInt8} {G : Int} {a : Nat} (h : ¬ l.length < a + 4) (h2 : ¬ (¬ okB (n2 l a) ∨ G ≤ (n2 l (a + 2) : Int))) (h3 : ¬ l.length < a + 4 + mvw (n2 l a) + nuw (n2 l a)) :
    prt l G a = (0, ((n2 l (a + 2) : Int), mvX l (n2 l a) (a + 4), mvY l (n2 l a) (a + 4), nu4 l (n2 l a) (a + 4 + mvw (n2 l a))), decide (n2 l a / 32 % 2 = 1), a + 4 + mvw (n2 l a) + nuw (n2 l a)) := by unfold prt; rw [if_neg h, if_neg h2, if_neg h3]
end Go.Proofs.Ytbmeamhpmahlgaa
