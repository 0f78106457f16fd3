/- Proved here: what readPart answers. Condition: a reader of a text of at most a billion bytes that has not failed · what readPart answers. Condition: a reader of a text of at most a billion bytes that has not failed. -/
import Derived.Test.YtfhaloclbbmbeaaGreatM32
namespace Go.Proofs.YtfhaloclbbmbeaaGreat
open Go.RowKit
theorem NxS.bad {L a n a' : Nat} {f' : Bool} (h : NxS L a false n a' f') (hL : L < a + n) : f' = true := by
  cases f'
  · obtain ⟨_, e2, _⟩ := h.yes rfl; omega
  · rfl
theorem NxS.good {L a n a' : Nat} {f' : Bool} (h : NxS L a false n a' f') (hL : a + n ≤ L) : f' = false ∧ a' = a + n := by
  cases f'
  · exact ⟨rfl, (h.yes rfl).2.2⟩
  · rcases h.no rfl with e | e
    · cases e
    · omega
open Go.RowKit
namespace N15.C
theorem u16_in (g : Nat) (s : ByteArray) (a : Nat) (w : World) (h : Rd 278 w g s a false) (hs : s.size ≤ 1000000000) (ha : a + 2 ≤ s.size) :
    Calls Tryz.prog 210 #[.pointer (some ⟨g, 0, none⟩)] w fun e w' => e = .returned (.int .u16 (n2 s.data.toList a : Int)) ∧ Rd 278 w' g s (a + 2) false ∧ Onl g w w' := by
  refine (rd16_any g s a false w h hs (by omega)).mono fun e w' ⟨v, a', f', h1, _, h3, h4, h5, h6⟩ => ?_
  obtain ⟨rfl, rfl⟩ := h3.good ha
  rw [h4 rfl] at h1
  exact ⟨h1, h5, h6⟩
structure QpS (T : TypeId) (w W : World) (g : Nat) (s : ByteArray) (a : Nat) (f : Bool) (b : Nat) (p : Prt) : Prop where
  r : RoS T w W g s a f
  hb : w.heap.size ≤ b
  bx : Bp W b p
section
variable {T : TypeId} {w W W' : World} {g b : Nat} {s : ByteArray} {a : Nat} {f : Bool} {p : Prt}
theorem QpS.next (h : QpS T w W g s a f b p) (hb : Below W.heap.size W W') : QpS T w W' g s a f b p := ⟨h.r.next hb, h.hb, h.bx.bel hb⟩
theorem QpS.ne (h : QpS T w W g s a f b p) : b ≠ g := by have := h.hb; have := h.r.lg; omega
theorem QpS.read (h : QpS T w W g s a f b p) {a' : Nat} {f' : Bool} (hr : Rd T W' g s a' f') (ho : Onl g W W') (hl : a' ≤ s.size) : QpS T w W' g s a' f' b p :=
  ⟨h.r.read hr ho hl, h.hb, (ho.block b h.bx.lt h.ne).trans h.bx⟩
theorem QpS.start (h : Rd T w g s a f) (ha : a ≤ s.size) : QpS T w (w.alloc (.cells #[.int .i64 0, .int .i64 0, .int .i64 0, .int .i64 0, .int .i64 0, .int .i64 0, .int .i64 0] 265)) g s a f w.heap.size p0 :=
  ⟨(RoS.start h ha).next ((Below.refl _ _).alloc (Nat.le_refl _) _), Nat.le_refl _, Bp.new w 0 0 0 0 0 0 0⟩
theorem QpS.two {b2 a' : Nat} {f' : Bool} {q : Prt} (h : QpS T w W g s a f b p) (hb2 : W.heap.size ≤ b2) {W1 W2 : World} (h1 : Below W.heap.size W W1) (k : RpS T W1 W2 g b2 s a' f' q) : QpS T w W2 g s a' f' b p := by
  have hg := h.r.rd.lt
  have hs := h.bx.lt
  have hl := h1.size
  refine ⟨⟨?_, h.r.lg, k.rd, k.le⟩, h.hb, ?_⟩
  · refine ⟨k.on.os.trans (h1.os.trans h.r.onl.os), k.on.tape.trans (h1.tape.trans h.r.onl.tape), k.on.output.trans (h1.output.trans h.r.onl.output), ?_, fun i hi hig => ?_⟩
    · have := k.on.size; have := h.r.onl.size; omega
    · have := h.r.onl.size
      rw [k.on.block i (by omega) hig (by omega), h1.block i (by omega)]
      exact h.r.onl.block i hi hig
  · show W2.heap[b]? = _
    rw [k.on.block b (by omega) h.ne (by omega), h1.block b hs]
    exact h.bx
theorem Bp.store (k : Bp W b p) (c0 c1 c2 c3 c4 c5 c6 : Int) : Bp (((((((W.setCell ⟨b, 0, none⟩ (.int .i64 c0)).setCell ⟨b, 1, none⟩ (.int .i64 c1)).setCell ⟨b, 2, none⟩ (.int .i64 c2)).setCell ⟨b, 3, none⟩ (.int .i64 c3)).setCell ⟨b, 4, none⟩ (.int .i64 c4)).setCell ⟨b, 5, none⟩ (.int .i64 c5)).setCell ⟨b, 6, none⟩ (.int .i64 c6)) b (c0, c1, c2, c3, c4, c5, c6) := by
  have k0 : Bp (W.setCell ⟨b, 0, none⟩ (.int .i64 c0)) b (c0, p.2) := by
    unfold Bp at k ⊢; simp [World.setCell, Array.getElem?_modify, k]
  exact (((((k0.set1 c1).set2 c2).set3 c3).set4 c4).set5 c5).set6 c6
theorem QpS.store (h : QpS T w W g s a f b p) (c0 c1 c2 c3 c4 c5 c6 : Int) : QpS T w (((((((W.setCell ⟨b, 0, none⟩ (.int .i64 c0)).setCell ⟨b, 1, none⟩ (.int .i64 c1)).setCell ⟨b, 2, none⟩ (.int .i64 c2)).setCell ⟨b, 3, none⟩ (.int .i64 c3)).setCell ⟨b, 4, none⟩ (.int .i64 c4)).setCell ⟨b, 5, none⟩ (.int .i64 c5)).setCell ⟨b, 6, none⟩ (.int .i64 c6)) g s a f b (c0, c1, c2, c3, c4, c5, c6) := by
  have on : ∀ {W : World} (j : Nat) (u : Value), Onl g w W → Onl g w (W.setCell ⟨b, j, none⟩ u) := fun j u ho => onl_set ho h.hb
  have rd : ∀ {W : World} (j : Nat) (u : Value), Rd T W g s a f → Rd T (W.setCell ⟨b, j, none⟩ u) g s a f := fun j u hr => (Below.heap_setCell _ ⟨b, j, none⟩ u g (fun e => h.ne e.symm)).trans hr
  exact ⟨⟨on _ _ (on _ _ (on _ _ (on _ _ (on _ _ (on _ _ (on _ _ h.r.onl)))))), h.r.lg, rd _ _ (rd _ _ (rd _ _ (rd _ _ (rd _ _ (rd _ _ (rd _ _ h.r.rd)))))), h.r.le⟩, h.hb, h.bx.store c0 c1 c2 c3 c4 c5 c6⟩
end
theorem ret_part {fn : Func} {p q r : Tmp} {tmps : Array Value} {W : World} {b : Nat} {k : Prt} {u v : Value} (h : fn.results = #[.cell p 265, .tmp q, .tmp r]) (hp : tmps.getD p undef = .pointer (some ⟨b, 0, none⟩)) (hq : tmps.getD q undef = u) (hr : tmps.getD r undef = v) (hb : Bp W b k) :
    (results fn tmps).run Tryz.prog W = .ok (.tuple #[.agg #[.int .i64 k.1, .int .i64 k.2.1, .int .i64 k.2.2.1, .int .i64 k.2.2.2.1, .int .i64 k.2.2.2.2.1, .int .i64 k.2.2.2.2.2.1, .int .i64 k.2.2.2.2.2.2], u, v]) W := by
  obtain ⟨c0, c1, c2, c3, c4, c5, c6⟩ := hb.cells
  rw [Array.getD_eq_getD_getElem?] at hp hq hr
  simp [results, h, hp, hq, hr, go_sem, c0, c1, c2, c3, c4, c5, c6]
def RdP (T : TypeId) (R : Int × Prt × Bool × Nat) (g : Nat) (s : ByteArray) (w : World) (e : Ending) (w' : World) : Prop :=
  ∃ (q : Prt) (n : Bool), e = .returned (.tuple #[.agg #[.int .i64 q.1, .int .i64 q.2.1, .int .i64 q.2.2.1, .int .i64 q.2.2.2.1, .int .i64 q.2.2.2.2.1, .int .i64 q.2.2.2.2.2.1, .int .i64 q.2.2.2.2.2.2], .bool n, .int .i64 R.1]) ∧ Onl g w w'
    ∧ (R.1 = 0 → q = R.2.1 ∧ n = R.2.2.1 ∧ Rd T w' g s R.2.2.2 false ∧ R.2.2.2 ≤ s.size)
theorem rdP_err {T : TypeId} {R : Int × Prt × Bool × Nat} {g : Nat} {s : ByteArray} {w w' : World} {x : Int} {r : Prt × Bool × Nat} (h : R = (x, r)) (hx : x ≠ 0) (ho : Onl g w w') (q : Prt) (n : Bool) : RdP T R g s w (.returned (.tuple #[.agg #[.int .i64 q.1, .int .i64 q.2.1, .int .i64 q.2.2.1, .int .i64 q.2.2.2.1, .int .i64 q.2.2.2.2.1, .int .i64 q.2.2.2.2.2.1, .int .i64 q.2.2.2.2.2.2], .bool n, .int .i64 x])) w' := by
  subst h
  exact ⟨q, n, rfl, ho, fun h => absurd h hx⟩
theorem prt_short {l : List UInt8} {G : Int} {a : Nat} (h : l.length < a + 4) : prt l G a = (3, p0, false, 0) := by unfold prt; rw [if_pos h]
theorem prt_form {l : List UInt8} {G : Int} {a : Nat} (h : ¬ l.length < a + 4) (h2 : ¬ okB (n2 l a) ∨ G ≤ (n2 l (a + 2) : Int)) : prt l G a = (4, p0, false, 0) := by unfold prt; rw [if_neg h, if_pos h2]
theorem prt_end {l : List UInt8} {G : Int} {a : Nat} (h : ¬ l.length < a + 4) (h2 : ¬ (¬ okB (n2 l a) ∨ G ≤ (n2 l (a + 2) : Int))) (h3 : l.length < a + 4 + mvw (n2 l a) + nuw (n2 l a)) : prt l G a = (3, p0, false, 0) := by unfold prt; rw [if_neg h, if_neg h2, if_pos h3]
theorem prt_ok {l : List UInt8} {G : Int} {a : Nat} (h : ¬ l.length < a + 4) (h2 : ¬ (¬ okB (n2 l a) ∨ G ≤ (n2 l (a + 2) : Int))) (h3 : ¬ l.length < a + 4 + mvw (n2 l a) + nuw (n2 l a)) :
    prt l G a = (0, ((n2 l (a + 2) : Int), mvX l (n2 l a) (a + 4), mvY l (n2 l a) (a + 4), nu4 l (n2 l a) (a + 4 + mvw (n2 l a))), decide (n2 l a / 32 % 2 = 1), a + 4 + mvw (n2 l a) + nuw (n2 l a)) := by unfold prt; rw [if_neg h, if_neg h2, if_neg h3]
end N15.C
end Go.Proofs.YtfhaloclbbmbeaaGreat
namespace Go.Proofs.YtfhaloclbbmbeaaGreat
open Go.RowKit
namespace N15.C
theorem Bp.frs {w : World} {b : Nat} {p : Prt} (k : Bp w b p) : w.frozen? ⟨b, 0, none⟩ = false ∧ w.frozen? ⟨b, 1, none⟩ = false ∧ w.frozen? ⟨b, 2, none⟩ = false ∧ w.frozen? ⟨b, 3, none⟩ = false ∧ w.frozen? ⟨b, 4, none⟩ = false ∧ w.frozen? ⟨b, 5, none⟩ = false ∧ w.frozen? ⟨b, 6, none⟩ = false :=
  ⟨k.fr 0, k.fr 1, k.fr 2, k.fr 3, k.fr 4, k.fr 5, k.fr 6⟩
theorem RpS.trans {T : TypeId} {w W W' : World} {g b : Nat} {s : ByteArray} {a a' : Nat} {f f' : Bool} {p q : Prt} (h : RpS T w W g b s a f p) (k : RpS T W W' g b s a' f' q) : RpS T w W' g b s a' f' q :=
  ⟨⟨k.on.os.trans h.on.os, k.on.tape.trans h.on.tape, k.on.output.trans h.on.output, Nat.le_trans h.on.size k.on.size, fun i hi h1 h2 => (k.on.block i (Nat.lt_of_lt_of_le hi h.on.size) h1 h2).trans (h.on.block i hi h1 h2)⟩, h.lg, h.lb, h.ne, k.rd, k.bx, k.le⟩
theorem QpS.box {T : TypeId} {w W : World} {g b : Nat} {s : ByteArray} {a : Nat} {f : Bool} {p : Prt} (h : QpS T w W g s a f b p) (c0 c1 c2 c3 c4 c5 c6 : Int) :
    RpS T (W.alloc (.cells #[.int .i64 c0, .int .i64 c1, .int .i64 c2, .int .i64 c3, .int .i64 c4, .int .i64 c5, .int .i64 c6] 265)) (W.alloc (.cells #[.int .i64 c0, .int .i64 c1, .int .i64 c2, .int .i64 c3, .int .i64 c4, .int .i64 c5, .int .i64 c6] 265)) g W.heap.size s a f (c0, c1, c2, c3, c4, c5, c6) :=
  RpS.start (h.r.rd.bel ((Below.refl _ _).alloc (Nat.le_refl _) _)) (Bp.new W c0 c1 c2 c3 c4 c5 c6) (by have := h.r.rd.lt; omega) h.r.le
set_option maxHeartbeats 8000000 in
set_option maxRecDepth 100000 in
theorem readPart_any (g : Nat) (s : ByteArray) (a : Nat) (G : Int) (w : World) (h : Rd 278 w g s a false) (hs : s.size ≤ 1000000000) (ha : a ≤ s.size) :
    Calls Tryz.prog 281 #[.pointer (some ⟨g, 0, none⟩), .int .i64 G] w (RdP 278 (prt s.data.toList G a) g s w) := by
  have HS := Lib.hid hs
  have H0 := Lib.hid (QpS.start h ha)
  obtain ⟨R, hR⟩ : ∃ R, R = prt s.data.toList G a := ⟨_, rfl⟩
  rw [← hR]
  have HE := Lib.hid (show ∀ x r W (q : Prt) n, R = (x, r) → x ≠ 0 → Onl g w W → RdP 278 R g s w (.returned (.tuple #[.agg #[.int .i64 q.1, .int .i64 q.2.1, .int .i64 q.2.2.1, .int .i64 q.2.2.2.1, .int .i64 q.2.2.2.2.1, .int .i64 q.2.2.2.2.2.1, .int .i64 q.2.2.2.2.2.2], .bool n, .int .i64 x])) W from fun x r W q n h1 h2 h3 => rdP_err h1 h2 h3 q n)
  have hsz := size_list s
  by_cases c1 : s.size < a + 4
  · have HX := Lib.hid (fun W q ho => HE.out 3 _ W q false (hR.trans (prt_short (by rw [hsz]; exact c1))) (by decide) ho)
    have HC1 := Lib.hid c1
    clear hR h c1 hsz
    go_enter Tryz.func281, Tryz.ntmps281
    go_upto_region 1 with fail
    obtain ⟨b, hb⟩ : ∃ b, b = w.heap.size := ⟨_, rfl⟩
    obtain ⟨W0, hW0⟩ : ∃ W, W = w.alloc (.cells #[.int .i64 0, .int .i64 0, .int .i64 0, .int .i64 0, .int .i64 0, .int .i64 0, .int .i64 0] 265) := ⟨_, rfl⟩
    rw [← hW0, ← hb] at H0 ⊢
    clear hW0 hb
    go_wp2_with (first
      | (go_at_call 210; (with_reducible refine (rd16_any _ _ _ _ _ H0.out.r.rd HS.out H0.out.r.le).mono ?_); rintro e w1 ⟨v1, a1, f1, rfl, r1, n1, q1, rd1, o1⟩; have H1 := Lib.hid (H0.out.read rd1 o1 n1.le); have N1 := Lib.hid n1; clear n1 q1 rd1 o1)
      | (go_at_call 210; (with_reducible refine (rd16_any _ _ _ _ _ H1.out.r.rd HS.out H1.out.r.le).mono ?_); rintro e w2 ⟨v2, a2, f2, rfl, r2, n2, q2, rd2, o2⟩; have N2 := (N1.out.trans n2).bad HC1.out; subst N2; have H2 := Lib.hid (H1.out.read rd2 o2 n2.le); obtain ⟨x0, x1, x2, x3, x4, x5, x6⟩ := H2.out.bx.cells; obtain ⟨y0, y1, y2, y3, y4, y5, y6⟩ := H2.out.bx.frs; have z2 : IntKind.i64.wrap (v2 : Int) = (v2 : Int) := (i64_in _ (by omega)); clear n2 q2 rd2 o2)
      | (go_at_call 211; (with_reducible refine (err_bad _ _ _ _ H2.out.r.rd).mono ?_); rintro e w3 ⟨rfl, rfl⟩))
    have HF := H2.out.store 0 0 0 0 0 0 0
    exact bodyPost_ret (ret_part rfl rfl rfl rfl HF.bx) rfl (HX.out _ (0, 0, 0, 0, 0, 0, 0) HF.r.onl)
  · have c1' : ¬ s.data.toList.length < a + 4 := by rw [hsz]; exact c1
    have CA := Lib.hid (fun W (h : Rd 278 W g s a false) => u16_in g s a W h HS.out (by omega))
    have CB := Lib.hid (fun W (h : Rd 278 W g s (a + 2) false) => u16_in g s (a + 2) W h HS.out (by omega))
    have hf := n2_lt s.data.toList a
    have hgl := n2_lt s.data.toList (a + 2)
    have hok := fun h2 h3 => prt_ok (G := G) c1' h2 h3
    have hend := fun h2 h3 => prt_end (G := G) c1' h2 h3
    have hfm := fun h2 => prt_form (G := G) c1' h2
    obtain ⟨f, hff⟩ : ∃ f, f = n2 s.data.toList a := ⟨_, rfl⟩
    obtain ⟨gl, hgg⟩ : ∃ f, f = n2 s.data.toList (a + 2) := ⟨_, rfl⟩
    rw [← hff, ← hgg] at hok hend hfm
    rw [← hff] at CA hf
    rw [← hgg] at CB hgl
    have ha4 : a + 4 ≤ s.size := by omega
    have HA := Lib.hid (show a + 2 ≤ s.size ∧ a + 2 + 2 ≤ s.size by omega)
    have CM := Lib.hid (fun W => mayBits_any f hf W)
    have hz : IntKind.i64.wrap (gl : Int) = (gl : Int) := i64_in _ (by omega)
    clear hff hgg c1
    by_cases c2 : okB f
    · rw [decide_eq_true c2] at CM
      by_cases c3 : G ≤ (gl : Int)
      · have HX := Lib.hid (fun W q ho => HE.out 4 _ W q false (hR.trans (hfm (.inr c3))) (by decide) ho)
        clear c2
        clear hR h hf hok hend hfm hsz c1' ha4
        go_enter Tryz.func281, Tryz.ntmps281
        go_upto_region 1 with fail
        obtain ⟨b, hb⟩ : ∃ b, b = w.heap.size := ⟨_, rfl⟩
        obtain ⟨W0, hW0⟩ : ∃ W, W = w.alloc (.cells #[.int .i64 0, .int .i64 0, .int .i64 0, .int .i64 0, .int .i64 0, .int .i64 0, .int .i64 0] 265) := ⟨_, rfl⟩
        rw [← hW0, ← hb] at H0 ⊢
        clear hW0 hb
        go_wp2_with (first
            | (go_at_call 210; (with_reducible refine (CA.out _ H0.out.r.rd).mono ?_); rintro e w1 ⟨rfl, rd1, o1⟩; have H1 := Lib.hid (H0.out.read rd1 o1 HA.out.1); clear rd1 o1)
            | (go_at_call 210; (with_reducible refine (CB.out _ H1.out.r.rd).mono ?_); rintro e w2 ⟨rfl, rd2, o2⟩; have H2 := Lib.hid (H1.out.read rd2 o2 HA.out.2); obtain ⟨x0, x1, x2, x3, x4, x5, x6⟩ := H2.out.bx.cells; obtain ⟨y0, y1, y2, y3, y4, y5, y6⟩ := H2.out.bx.frs; have K0 := Lib.hid (H2.out.box (gl : Int) 0 0 16384 0 0 16384); clear rd2 o2)
            | (go_at_call 211; (with_reducible refine (err_ok _ _ _ _ H2.out.r.rd).mono ?_); rintro e w3 ⟨rfl, rfl⟩)
            | (go_at_call 292; (with_reducible refine (CM.out _).mono ?_); rintro e w3 ⟨rfl, rfl⟩))
        have HF := H2.out.store 0 0 0 0 0 0 0
        exact bodyPost_ret (ret_part rfl rfl rfl rfl HF.bx) rfl (HX.out _ (0, 0, 0, 0, 0, 0, 0) HF.r.onl)
      · have hn : ¬ (¬ okB f ∨ G ≤ (gl : Int)) := fun h => h.elim (fun h => h c2) c3
        have hok := hok hn
        have hend := hend hn
        have e32 := bit_ne (and32 f hf) (by omega)
        obtain ⟨nx, hnx⟩ : ∃ n, n = decide (f / 32 % 2 = 1) := ⟨_, rfl⟩
        rw [← hnx] at hok e32
        have HFf := Lib.hid hf
        by_cases c4 : s.size < a + 4 + mvw f + nuw f
        · have HX := Lib.hid (fun W q ho => HE.out 3 _ W q false (hR.trans (hend (by rw [hsz]; exact c4))) (by decide) ho)
          have HC4 := Lib.hid (show s.size < a + 2 + 2 + (mvw f + nuw f) by omega)
          clear c2 hn hR h hf hok hend hfm hsz c1' c4 hnx ha4 e32
          go_enter Tryz.func281, Tryz.ntmps281
          go_upto_region 1 with fail
          obtain ⟨b, hb⟩ : ∃ b, b = w.heap.size := ⟨_, rfl⟩
          obtain ⟨W0, hW0⟩ : ∃ W, W = w.alloc (.cells #[.int .i64 0, .int .i64 0, .int .i64 0, .int .i64 0, .int .i64 0, .int .i64 0, .int .i64 0] 265) := ⟨_, rfl⟩
          rw [← hW0, ← hb] at H0 ⊢
          clear hW0 hb
          go_wp2_with (first
            | (go_at_call 210; (with_reducible refine (CA.out _ H0.out.r.rd).mono ?_); rintro e w1 ⟨rfl, rd1, o1⟩; have H1 := Lib.hid (H0.out.read rd1 o1 HA.out.1); clear rd1 o1)
            | (go_at_call 210; (with_reducible refine (CB.out _ H1.out.r.rd).mono ?_); rintro e w2 ⟨rfl, rd2, o2⟩; have H2 := Lib.hid (H1.out.read rd2 o2 HA.out.2); obtain ⟨x0, x1, x2, x3, x4, x5, x6⟩ := H2.out.bx.cells; obtain ⟨y0, y1, y2, y3, y4, y5, y6⟩ := H2.out.bx.frs; have K0 := Lib.hid (H2.out.box (gl : Int) 0 0 16384 0 0 16384); clear rd2 o2)
            | (go_at_call 211; (with_reducible refine (err_ok _ _ _ _ H2.out.r.rd).mono ?_); rintro e w3 ⟨rfl, rfl⟩)
            | (go_at_call 292; (with_reducible refine (CM.out _).mono ?_); rintro e w3 ⟨rfl, rfl⟩)
            | (go_at_call 293; (with_reducible refine (readMove_any g _ s _ false ((gl : Int), 0, 0, 16384, 0, 0, 16384) f _ K0.out HS.out HFf.out).mono ?_); rintro e w3 ⟨mx, my, a3, f3, rfl, n3, q3, h3⟩; dsimp only at h3; have H3 := Lib.hid h3; have N3 := Lib.hid n3; have Q3 := Lib.hid q3; clear h3 n3 q3)
            | (go_at_call 294; (with_reducible refine (readNumbers_any g _ s _ _ ((gl : Int), mx, my, 16384, 0, 0, 16384) f _ (RpS.start H3.out.rd H3.out.bx H3.out.ne H3.out.le) rfl HS.out HFf.out).mono ?_); rintro e w4 ⟨⟨qa, qb, qc, qd⟩, a4, f4, rfl, nn, qq, h4⟩; dsimp only at h4; have N4 := (N3.out.trans nn).bad HC4.out; subst N4; have H4 := Lib.hid h4; have H5 := Lib.hid (H2.out.two (Nat.le_refl _) ((Below.refl _ _).alloc (Nat.le_refl _) _) (H3.out.trans h4)); obtain ⟨x0, x1, x2, x3, x4, x5, x6⟩ := H5.out.bx.cells; obtain ⟨y0, y1, y2, y3, y4, y5, y6⟩ := H5.out.bx.frs; obtain ⟨u0, u1, u2, u3, u4, u5, u6⟩ := H4.out.bx.cells; have nb := H2.out.bx.lt; have nb1 : ¬ b = w2.heap.size := (by omega); have nb2 : ¬ w2.heap.size = b := (by omega); clear nb h4)
            | (go_at_call 211; (with_reducible refine (err_bad _ _ _ _ H4.out.rd).mono ?_); rintro e w5 ⟨rfl, rfl⟩))
          have HF := H5.out.store 0 0 0 0 0 0 0
          exact bodyPost_ret (ret_part rfl rfl rfl rfl HF.bx) rfl (HX.out _ (0, 0, 0, 0, 0, 0, 0) HF.r.onl)
        · have HX := Lib.hid (hok (by rw [hsz]; exact c4))
          have HC4 := Lib.hid (show a + 2 + 2 + (mvw f + nuw f) ≤ s.size by omega)
          have HRR := Lib.hid hR
          clear c2 hn hR h hf hok hend hfm hsz c1' c4 hnx ha4
          go_enter Tryz.func281, Tryz.ntmps281
          go_upto_region 1 with fail
          obtain ⟨b, hb⟩ : ∃ b, b = w.heap.size := ⟨_, rfl⟩
          obtain ⟨W0, hW0⟩ : ∃ W, W = w.alloc (.cells #[.int .i64 0, .int .i64 0, .int .i64 0, .int .i64 0, .int .i64 0, .int .i64 0, .int .i64 0] 265) := ⟨_, rfl⟩
          rw [← hW0, ← hb] at H0 ⊢
          clear hW0 hb
          go_wp2_with (first
            | (go_at_call 210; (with_reducible refine (CA.out _ H0.out.r.rd).mono ?_); rintro e w1 ⟨rfl, rd1, o1⟩; have H1 := Lib.hid (H0.out.read rd1 o1 HA.out.1); clear rd1 o1)
            | (go_at_call 210; (with_reducible refine (CB.out _ H1.out.r.rd).mono ?_); rintro e w2 ⟨rfl, rd2, o2⟩; have H2 := Lib.hid (H1.out.read rd2 o2 HA.out.2); obtain ⟨x0, x1, x2, x3, x4, x5, x6⟩ := H2.out.bx.cells; obtain ⟨y0, y1, y2, y3, y4, y5, y6⟩ := H2.out.bx.frs; have K0 := Lib.hid (H2.out.box (gl : Int) 0 0 16384 0 0 16384); clear rd2 o2)
            | (go_at_call 211; (with_reducible refine (err_ok _ _ _ _ H2.out.r.rd).mono ?_); rintro e w3 ⟨rfl, rfl⟩)
            | (go_at_call 292; (with_reducible refine (CM.out _).mono ?_); rintro e w3 ⟨rfl, rfl⟩)
            | (go_at_call 293; (with_reducible refine (readMove_any g _ s _ false ((gl : Int), 0, 0, 16384, 0, 0, 16384) f _ K0.out HS.out HFf.out).mono ?_); rintro e w3 ⟨mx, my, a3, f3, rfl, n3, q3, h3⟩; dsimp only at h3; have H3 := Lib.hid h3; have N3 := Lib.hid n3; have Q3 := Lib.hid q3; clear h3 n3 q3)
            | (go_at_call 294; (with_reducible refine (readNumbers_any g _ s _ _ ((gl : Int), mx, my, 16384, 0, 0, 16384) f _ (RpS.start H3.out.rd H3.out.bx H3.out.ne H3.out.le) rfl HS.out HFf.out).mono ?_); rintro e w4 ⟨⟨qa, qb, qc, qd⟩, a4, f4, rfl, nn, qq, h4⟩; dsimp only at h4; have N4 := (N3.out.trans nn).good HC4.out; obtain ⟨N5, N6⟩ := N4; subst N5; have H4 := Lib.hid h4; have H5 := Lib.hid (H2.out.two (Nat.le_refl _) ((Below.refl _ _).alloc (Nat.le_refl _) _) (H3.out.trans h4)); obtain ⟨x0, x1, x2, x3, x4, x5, x6⟩ := H5.out.bx.cells; obtain ⟨y0, y1, y2, y3, y4, y5, y6⟩ := H5.out.bx.frs; obtain ⟨u0, u1, u2, u3, u4, u5, u6⟩ := H4.out.bx.cells; have nb := H2.out.bx.lt; have nb1 : ¬ b = w2.heap.size := (by omega); have nb2 : ¬ w2.heap.size = b := (by omega); clear nb h4; have HQ := Lib.hid (And.intro (Q3.out (nn.yes rfl).1) (qq rfl)); have HA4 := Lib.hid (And.intro (N3.out.yes (nn.yes rfl).1).2.2 N6); clear N6)
            | (go_at_call 211; (with_reducible refine (err_ok _ _ _ _ H4.out.rd).mono ?_); rintro e w5 ⟨rfl, rfl⟩))
          have HF := H5.out.store (gl : Int) mx my qa qb qc qd
          have hR2 : R = (0, ((gl : Int), mx, my, qa, qb, qc, qd), nx, a4) := by
            have k1 : a3 = a + 4 + mvw f := HA4.out.1
            have k2 : a4 = a + 4 + mvw f + nuw f := by have := HA4.out.2; omega
            rw [HRR.out, HX.out, HQ.out.2, HQ.out.1.1, HQ.out.1.2, k2, k1]
          refine bodyPost_ret (ret_part rfl rfl rfl rfl HF.bx) rfl ⟨((gl : Int), mx, my, qa, qb, qc, qd), nx, by rw [hR2]; rfl, HF.r.onl, fun _ => ?_⟩
          rw [hR2]
          exact ⟨rfl, rfl, HF.r.rd, HF.r.le⟩
    · rw [decide_eq_false c2] at CM
      have HX := Lib.hid (fun W q ho => HE.out 4 _ W q false (hR.trans (hfm (.inl c2))) (by decide) ho)
      clear c2
      clear hR h hf hok hend hfm hsz c1' ha4
      go_enter Tryz.func281, Tryz.ntmps281
      go_upto_region 1 with fail
      obtain ⟨b, hb⟩ : ∃ b, b = w.heap.size := ⟨_, rfl⟩
      obtain ⟨W0, hW0⟩ : ∃ W, W = w.alloc (.cells #[.int .i64 0, .int .i64 0, .int .i64 0, .int .i64 0, .int .i64 0, .int .i64 0, .int .i64 0] 265) := ⟨_, rfl⟩
      rw [← hW0, ← hb] at H0 ⊢
      clear hW0 hb
      go_wp2_with (first
          | (go_at_call 210; (with_reducible refine (CA.out _ H0.out.r.rd).mono ?_); rintro e w1 ⟨rfl, rd1, o1⟩; have H1 := Lib.hid (H0.out.read rd1 o1 HA.out.1); clear rd1 o1)
          | (go_at_call 210; (with_reducible refine (CB.out _ H1.out.r.rd).mono ?_); rintro e w2 ⟨rfl, rd2, o2⟩; have H2 := Lib.hid (H1.out.read rd2 o2 HA.out.2); obtain ⟨x0, x1, x2, x3, x4, x5, x6⟩ := H2.out.bx.cells; obtain ⟨y0, y1, y2, y3, y4, y5, y6⟩ := H2.out.bx.frs; have K0 := Lib.hid (H2.out.box (gl : Int) 0 0 16384 0 0 16384); clear rd2 o2)
          | (go_at_call 211; (with_reducible refine (err_ok _ _ _ _ H2.out.r.rd).mono ?_); rintro e w3 ⟨rfl, rfl⟩)
          | (go_at_call 292; (with_reducible refine (CM.out _).mono ?_); rintro e w3 ⟨rfl, rfl⟩))
      have HF := H2.out.store 0 0 0 0 0 0 0
      exact bodyPost_ret (ret_part rfl rfl rfl rfl HF.bx) rfl (HX.out _ (0, 0, 0, 0, 0, 0, 0) HF.r.onl)
end N15.C
end Go.Proofs.YtfhaloclbbmbeaaGreat
