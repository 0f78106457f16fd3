/- Proved here: what readPart answers. Condition: a reader of a text of at most a billion bytes that has not failed. · what readParts answers. Condition: a reader of a text of at most a billion bytes that has not failed. -/
import Derived.Test.YtlfnagfcggmeaaaKB
namespace Go.Proofs.Ytlfnagfcggmeaaa.C
open Go.RowKit

theorem Bp.frs {w : World} {b : Nat} {p : Prt} (k : Bp w b p) : w.frozen? ⟨b, 0, none⟩ = false ∧ w.frozen? ⟨b, 1, none⟩ = false ∧ w.frozen? ⟨b, 2, none⟩ = false ∧ w.frozen? ⟨b, 3, none⟩ = false ∧ w.frozen? ⟨b, 4, none⟩ = false ∧ w.frozen? ⟨b, 5, none⟩ = false ∧ w.frozen? ⟨b, 6, none⟩ = false :=
  ⟨k.fr 0, k.fr 1, k.fr 2, k.fr 3, k.fr 4, k.fr 5, k.fr 6⟩
theorem RpS.trans {T : TypeId} {w W W' : World} {g b : Nat} {s : ByteArray} {a a' : Nat} {f f' : Bool} {p q : Prt} (h : RpS T w W g b s a f p) (k : RpS T W W' g b s a' f' q) : RpS T w W' g b s a' f' q :=
  ⟨⟨k.on.os.trans h.on.os, k.on.tape.trans h.on.tape, k.on.output.trans h.on.output, Nat.le_trans h.on.size k.on.size, fun i hi h1 h2 => (k.on.block i (Nat.lt_of_lt_of_le hi h.on.size) h1 h2).trans (h.on.block i hi h1 h2)⟩, h.lg, h.lb, h.ne, k.rd, k.bx, k.le⟩
theorem QpS.box {T : TypeId} {w W : World} {g b : Nat} {s : ByteArray} {a : Nat} {f : Bool} {p : Prt} (h : QpS T w W g s a f b p) (c0 c1 c2 c3 c4 c5 c6 : Int) :
    RpS T (W.alloc (.cells #[.int .i64 c0, .int .i64 c1, .int .i64 c2, .int .i64 c3, .int .i64 c4, .int .i64 c5, .int .i64 c6] 54)) (W.alloc (.cells #[.int .i64 c0, .int .i64 c1, .int .i64 c2, .int .i64 c3, .int .i64 c4, .int .i64 c5, .int .i64 c6] 54)) g W.heap.size s a f (c0, c1, c2, c3, c4, c5, c6) :=
  RpS.start (h.r.rd.bel ((Below.refl _ _).alloc (Nat.le_refl _) _)) (Bp.new W c0 c1 c2 c3 c4 c5 c6) (by have := h.r.rd.lt; omega) h.r.le
set_option maxHeartbeats 8000000 in
set_option maxRecDepth 100000 in
theorem readPart_any (g : Nat) (s : ByteArray) (a : Nat) (G : Int) (w : World) (h : Rd 127 w g s a false) (hs : s.size ≤ 1000000000) (ha : a ≤ s.size) :
    Calls Try.prog 78 #[.pointer (some ⟨g, 0, none⟩), .int .i64 G] w (RdP 127 (prt s.data.toList G a) g s w) := by
  have HS := Lib.hid hs
  have H0 := Lib.hid (QpS.start h ha)
  obtain ⟨R, hR⟩ : ∃ R, R = prt s.data.toList G a := ⟨_, rfl⟩
  rw [← hR]
  have HE := Lib.hid (show ∀ x r W (q : Prt) n, R = (x, r) → x ≠ 0 → Onl g w W → RdP 127 R g s w (.returned (.tuple #[.agg #[.int .i64 q.1, .int .i64 q.2.1, .int .i64 q.2.2.1, .int .i64 q.2.2.2.1, .int .i64 q.2.2.2.2.1, .int .i64 q.2.2.2.2.2.1, .int .i64 q.2.2.2.2.2.2], .bool n, .int .i64 x])) W from fun x r W q n h1 h2 h3 => rdP_err h1 h2 h3 q n)
  have hsz := size_list s
  by_cases c1 : s.size < a + 4
  · have HX := Lib.hid (fun W q ho => HE.out 3 _ W q false (hR.trans (prt_short (by rw [hsz]; exact c1))) (by decide) ho)
    have HC1 := Lib.hid c1
    clear hR h c1 hsz
    go_enter Try.func78, Try.ntmps78
    go_upto_region 1 with fail
    obtain ⟨b, hb⟩ : ∃ b, b = w.heap.size := ⟨_, rfl⟩
    obtain ⟨W0, hW0⟩ : ∃ W, W = w.alloc (.cells #[.int .i64 0, .int .i64 0, .int .i64 0, .int .i64 0, .int .i64 0, .int .i64 0, .int .i64 0] 54) := ⟨_, rfl⟩
    rw [← hW0, ← hb] at H0 ⊢
    clear hW0 hb
    go_wp2_with (first
      | (go_at_call 81; (with_reducible refine (rd16_any _ _ _ _ _ H0.out.r.rd HS.out H0.out.r.le).mono ?_); rintro e w1 ⟨v1, a1, f1, rfl, r1, n1, q1, rd1, o1⟩; have H1 := Lib.hid (H0.out.read rd1 o1 n1.le); have N1 := Lib.hid n1; clear n1 q1 rd1 o1)
      | (go_at_call 81; (with_reducible refine (rd16_any _ _ _ _ _ H1.out.r.rd HS.out H1.out.r.le).mono ?_); rintro e w2 ⟨v2, a2, f2, rfl, r2, n2, q2, rd2, o2⟩; have N2 := (N1.out.trans n2).bad HC1.out; subst N2; have H2 := Lib.hid (H1.out.read rd2 o2 n2.le); obtain ⟨x0, x1, x2, x3, x4, x5, x6⟩ := H2.out.bx.cells; obtain ⟨y0, y1, y2, y3, y4, y5, y6⟩ := H2.out.bx.frs; have z2 : IntKind.i64.wrap (v2 : Int) = (v2 : Int) := (i64_in _ (by omega)); clear n2 q2 rd2 o2)
      | (go_at_call 62; (with_reducible refine (err_bad _ _ _ _ H2.out.r.rd).mono ?_); rintro e w3 ⟨rfl, rfl⟩))
    have HF := H2.out.store 0 0 0 0 0 0 0
    exact bodyPost_ret (ret_part rfl rfl rfl rfl HF.bx) rfl (HX.out _ (0, 0, 0, 0, 0, 0, 0) HF.r.onl)
  · have c1' : ¬ s.data.toList.length < a + 4 := by rw [hsz]; exact c1
    have CA := Lib.hid (fun W (h : Rd 127 W g s a false) => u16_in g s a W h HS.out (by omega))
    have CB := Lib.hid (fun W (h : Rd 127 W g s (a + 2) false) => u16_in g s (a + 2) W h HS.out (by omega))
    have hf := n2_lt s.data.toList a
    have hgl := n2_lt s.data.toList (a + 2)
    have hok := fun h2 h3 => prt_ok (G := G) c1' h2 h3
    have hend := fun h2 h3 => prt_end (G := G) c1' h2 h3
    have hfm := fun h2 => prt_form (G := G) c1' h2
    obtain ⟨f, hff⟩ : ∃ f, f = n2 s.data.toList a := ⟨_, rfl⟩
    obtain ⟨gl, hgg⟩ : ∃ f, f = n2 s.data.toList (a + 2) := ⟨_, rfl⟩
    rw [← hff, ← hgg] at hok hend hfm
    rw [← hff] at CA hf
    rw [← hgg] at CB hgl
    have ha4 : a + 4 ≤ s.size := by omega
    have HA := Lib.hid (show a + 2 ≤ s.size ∧ a + 2 + 2 ≤ s.size by omega)
    have CM := Lib.hid (fun W => mayBits_any f hf W)
    have hz : IntKind.i64.wrap (gl : Int) = (gl : Int) := i64_in _ (by omega)
    clear hff hgg c1
    by_cases c2 : okB f
    · rw [decide_eq_true c2] at CM
      by_cases c3 : G ≤ (gl : Int)
      · have HX := Lib.hid (fun W q ho => HE.out 4 _ W q false (hR.trans (hfm (.inr c3))) (by decide) ho)
        clear c2
        clear hR h hf hok hend hfm hsz c1' ha4
        go_enter Try.func78, Try.ntmps78
        go_upto_region 1 with fail
        obtain ⟨b, hb⟩ : ∃ b, b = w.heap.size := ⟨_, rfl⟩
        obtain ⟨W0, hW0⟩ : ∃ W, W = w.alloc (.cells #[.int .i64 0, .int .i64 0, .int .i64 0, .int .i64 0, .int .i64 0, .int .i64 0, .int .i64 0] 54) := ⟨_, rfl⟩
        rw [← hW0, ← hb] at H0 ⊢
        clear hW0 hb
        go_wp2_with (first
            | (go_at_call 81; (with_reducible refine (CA.out _ H0.out.r.rd).mono ?_); rintro e w1 ⟨rfl, rd1, o1⟩; have H1 := Lib.hid (H0.out.read rd1 o1 HA.out.1); clear rd1 o1)
            | (go_at_call 81; (with_reducible refine (CB.out _ H1.out.r.rd).mono ?_); rintro e w2 ⟨rfl, rd2, o2⟩; have H2 := Lib.hid (H1.out.read rd2 o2 HA.out.2); obtain ⟨x0, x1, x2, x3, x4, x5, x6⟩ := H2.out.bx.cells; obtain ⟨y0, y1, y2, y3, y4, y5, y6⟩ := H2.out.bx.frs; have K0 := Lib.hid (H2.out.box (gl : Int) 0 0 16384 0 0 16384); clear rd2 o2)
            | (go_at_call 62; (with_reducible refine (err_ok _ _ _ _ H2.out.r.rd).mono ?_); rintro e w3 ⟨rfl, rfl⟩)
            | (go_at_call 85; (with_reducible refine (CM.out _).mono ?_); rintro e w3 ⟨rfl, rfl⟩))
        have HF := H2.out.store 0 0 0 0 0 0 0
        exact bodyPost_ret (ret_part rfl rfl rfl rfl HF.bx) rfl (HX.out _ (0, 0, 0, 0, 0, 0, 0) HF.r.onl)
      · have hn : ¬ (¬ okB f ∨ G ≤ (gl : Int)) := fun h => h.elim (fun h => h c2) c3
        have hok := hok hn
        have hend := hend hn
        have e32 := bit_ne (and32 f hf) (by omega)
        obtain ⟨nx, hnx⟩ : ∃ n, n = decide (f / 32 % 2 = 1) := ⟨_, rfl⟩
        rw [← hnx] at hok e32
        have HFf := Lib.hid hf
        by_cases c4 : s.size < a + 4 + mvw f + nuw f
        · have HX := Lib.hid (fun W q ho => HE.out 3 _ W q false (hR.trans (hend (by rw [hsz]; exact c4))) (by decide) ho)
          have HC4 := Lib.hid (show s.size < a + 2 + 2 + (mvw f + nuw f) by omega)
          clear c2 hn hR h hf hok hend hfm hsz c1' c4 hnx ha4 e32
          go_enter Try.func78, Try.ntmps78
          go_upto_region 1 with fail
          obtain ⟨b, hb⟩ : ∃ b, b = w.heap.size := ⟨_, rfl⟩
          obtain ⟨W0, hW0⟩ : ∃ W, W = w.alloc (.cells #[.int .i64 0, .int .i64 0, .int .i64 0, .int .i64 0, .int .i64 0, .int .i64 0, .int .i64 0] 54) := ⟨_, rfl⟩
          rw [← hW0, ← hb] at H0 ⊢
          clear hW0 hb
          go_wp2_with (first
            | (go_at_call 81; (with_reducible refine (CA.out _ H0.out.r.rd).mono ?_); rintro e w1 ⟨rfl, rd1, o1⟩; have H1 := Lib.hid (H0.out.read rd1 o1 HA.out.1); clear rd1 o1)
            | (go_at_call 81; (with_reducible refine (CB.out _ H1.out.r.rd).mono ?_); rintro e w2 ⟨rfl, rd2, o2⟩; have H2 := Lib.hid (H1.out.read rd2 o2 HA.out.2); obtain ⟨x0, x1, x2, x3, x4, x5, x6⟩ := H2.out.bx.cells; obtain ⟨y0, y1, y2, y3, y4, y5, y6⟩ := H2.out.bx.frs; have K0 := Lib.hid (H2.out.box (gl : Int) 0 0 16384 0 0 16384); clear rd2 o2)
            | (go_at_call 62; (with_reducible refine (err_ok _ _ _ _ H2.out.r.rd).mono ?_); rintro e w3 ⟨rfl, rfl⟩)
            | (go_at_call 85; (with_reducible refine (CM.out _).mono ?_); rintro e w3 ⟨rfl, rfl⟩)
            | (go_at_call 86; (with_reducible refine (readMove_any g _ s _ false ((gl : Int), 0, 0, 16384, 0, 0, 16384) f _ K0.out HS.out HFf.out).mono ?_); rintro e w3 ⟨mx, my, a3, f3, rfl, n3, q3, h3⟩; dsimp only at h3; have H3 := Lib.hid h3; have N3 := Lib.hid n3; have Q3 := Lib.hid q3; clear h3 n3 q3)
            | (go_at_call 87; (with_reducible refine (readNumbers_any g _ s _ _ ((gl : Int), mx, my, 16384, 0, 0, 16384) f _ (RpS.start H3.out.rd H3.out.bx H3.out.ne H3.out.le) rfl HS.out HFf.out).mono ?_); rintro e w4 ⟨⟨qa, qb, qc, qd⟩, a4, f4, rfl, nn, qq, h4⟩; dsimp only at h4; have N4 := (N3.out.trans nn).bad HC4.out; subst N4; have H4 := Lib.hid h4; have H5 := Lib.hid (H2.out.two (Nat.le_refl _) ((Below.refl _ _).alloc (Nat.le_refl _) _) (H3.out.trans h4)); obtain ⟨x0, x1, x2, x3, x4, x5, x6⟩ := H5.out.bx.cells; obtain ⟨y0, y1, y2, y3, y4, y5, y6⟩ := H5.out.bx.frs; obtain ⟨u0, u1, u2, u3, u4, u5, u6⟩ := H4.out.bx.cells; have nb := H2.out.bx.lt; have nb1 : ¬ b = w2.heap.size := (by omega); have nb2 : ¬ w2.heap.size = b := (by omega); clear nb h4)
            | (go_at_call 62; (with_reducible refine (err_bad _ _ _ _ H4.out.rd).mono ?_); rintro e w5 ⟨rfl, rfl⟩))
          have HF := H5.out.store 0 0 0 0 0 0 0
          exact bodyPost_ret (ret_part rfl rfl rfl rfl HF.bx) rfl (HX.out _ (0, 0, 0, 0, 0, 0, 0) HF.r.onl)
        · have HX := Lib.hid (hok (by rw [hsz]; exact c4))
          have HC4 := Lib.hid (show a + 2 + 2 + (mvw f + nuw f) ≤ s.size by omega)
          have HRR := Lib.hid hR
          clear c2 hn hR h hf hok hend hfm hsz c1' c4 hnx ha4
          go_enter Try.func78, Try.ntmps78
          go_upto_region 1 with fail
          obtain ⟨b, hb⟩ : ∃ b, b = w.heap.size := ⟨_, rfl⟩
          obtain ⟨W0, hW0⟩ : ∃ W, W = w.alloc (.cells #[.int .i64 0, .int .i64 0, .int .i64 0, .int .i64 0, .int .i64 0, .int .i64 0, .int .i64 0] 54) := ⟨_, rfl⟩
          rw [← hW0, ← hb] at H0 ⊢
          clear hW0 hb
          go_wp2_with (first
            | (go_at_call 81; (with_reducible refine (CA.out _ H0.out.r.rd).mono ?_); rintro e w1 ⟨rfl, rd1, o1⟩; have H1 := Lib.hid (H0.out.read rd1 o1 HA.out.1); clear rd1 o1)
            | (go_at_call 81; (with_reducible refine (CB.out _ H1.out.r.rd).mono ?_); rintro e w2 ⟨rfl, rd2, o2⟩; have H2 := Lib.hid (H1.out.read rd2 o2 HA.out.2); obtain ⟨x0, x1, x2, x3, x4, x5, x6⟩ := H2.out.bx.cells; obtain ⟨y0, y1, y2, y3, y4, y5, y6⟩ := H2.out.bx.frs; have K0 := Lib.hid (H2.out.box (gl : Int) 0 0 16384 0 0 16384); clear rd2 o2)
            | (go_at_call 62; (with_reducible refine (err_ok _ _ _ _ H2.out.r.rd).mono ?_); rintro e w3 ⟨rfl, rfl⟩)
            | (go_at_call 85; (with_reducible refine (CM.out _).mono ?_); rintro e w3 ⟨rfl, rfl⟩)
            | (go_at_call 86; (with_reducible refine (readMove_any g _ s _ false ((gl : Int), 0, 0, 16384, 0, 0, 16384) f _ K0.out HS.out HFf.out).mono ?_); rintro e w3 ⟨mx, my, a3, f3, rfl, n3, q3, h3⟩; dsimp only at h3; have H3 := Lib.hid h3; have N3 := Lib.hid n3; have Q3 := Lib.hid q3; clear h3 n3 q3)
            | (go_at_call 87; (with_reducible refine (readNumbers_any g _ s _ _ ((gl : Int), mx, my, 16384, 0, 0, 16384) f _ (RpS.start H3.out.rd H3.out.bx H3.out.ne H3.out.le) rfl HS.out HFf.out).mono ?_); rintro e w4 ⟨⟨qa, qb, qc, qd⟩, a4, f4, rfl, nn, qq, h4⟩; dsimp only at h4; have N4 := (N3.out.trans nn).good HC4.out; obtain ⟨N5, N6⟩ := N4; subst N5; have H4 := Lib.hid h4; have H5 := Lib.hid (H2.out.two (Nat.le_refl _) ((Below.refl _ _).alloc (Nat.le_refl _) _) (H3.out.trans h4)); obtain ⟨x0, x1, x2, x3, x4, x5, x6⟩ := H5.out.bx.cells; obtain ⟨y0, y1, y2, y3, y4, y5, y6⟩ := H5.out.bx.frs; obtain ⟨u0, u1, u2, u3, u4, u5, u6⟩ := H4.out.bx.cells; have nb := H2.out.bx.lt; have nb1 : ¬ b = w2.heap.size := (by omega); have nb2 : ¬ w2.heap.size = b := (by omega); clear nb h4; have HQ := Lib.hid (And.intro (Q3.out (nn.yes rfl).1) (qq rfl)); have HA4 := Lib.hid (And.intro (N3.out.yes (nn.yes rfl).1).2.2 N6); clear N6)
            | (go_at_call 62; (with_reducible refine (err_ok _ _ _ _ H4.out.rd).mono ?_); rintro e w5 ⟨rfl, rfl⟩))
          have HF := H5.out.store (gl : Int) mx my qa qb qc qd
          have hR2 : R = (0, ((gl : Int), mx, my, qa, qb, qc, qd), nx, a4) := by
            have k1 : a3 = a + 4 + mvw f := HA4.out.1
            have k2 : a4 = a + 4 + mvw f + nuw f := by have := HA4.out.2; omega
            rw [HRR.out, HX.out, HQ.out.2, HQ.out.1.1, HQ.out.1.2, k2, k1]
          refine bodyPost_ret (ret_part rfl rfl rfl rfl HF.bx) rfl ⟨((gl : Int), mx, my, qa, qb, qc, qd), nx, by rw [hR2]; rfl, HF.r.onl, fun _ => ?_⟩
          rw [hR2]
          exact ⟨rfl, rfl, HF.r.rd, HF.r.le⟩
    · rw [decide_eq_false c2] at CM
      have HX := Lib.hid (fun W q ho => HE.out 4 _ W q false (hR.trans (hfm (.inl c2))) (by decide) ho)
      clear c2
      clear hR h hf hok hend hfm hsz c1' ha4
      go_enter Try.func78, Try.ntmps78
      go_upto_region 1 with fail
      obtain ⟨b, hb⟩ : ∃ b, b = w.heap.size := ⟨_, rfl⟩
      obtain ⟨W0, hW0⟩ : ∃ W, W = w.alloc (.cells #[.int .i64 0, .int .i64 0, .int .i64 0, .int .i64 0, .int .i64 0, .int .i64 0, .int .i64 0] 54) := ⟨_, rfl⟩
      rw [← hW0, ← hb] at H0 ⊢
      clear hW0 hb
      go_wp2_with (first
          | (go_at_call 81; (with_reducible refine (CA.out _ H0.out.r.rd).mono ?_); rintro e w1 ⟨rfl, rd1, o1⟩; have H1 := Lib.hid (H0.out.read rd1 o1 HA.out.1); clear rd1 o1)
          | (go_at_call 81; (with_reducible refine (CB.out _ H1.out.r.rd).mono ?_); rintro e w2 ⟨rfl, rd2, o2⟩; have H2 := Lib.hid (H1.out.read rd2 o2 HA.out.2); obtain ⟨x0, x1, x2, x3, x4, x5, x6⟩ := H2.out.bx.cells; obtain ⟨y0, y1, y2, y3, y4, y5, y6⟩ := H2.out.bx.frs; have K0 := Lib.hid (H2.out.box (gl : Int) 0 0 16384 0 0 16384); clear rd2 o2)
          | (go_at_call 62; (with_reducible refine (err_ok _ _ _ _ H2.out.r.rd).mono ?_); rintro e w3 ⟨rfl, rfl⟩)
          | (go_at_call 85; (with_reducible refine (CM.out _).mono ?_); rintro e w3 ⟨rfl, rfl⟩))
      have HF := H2.out.store 0 0 0 0 0 0 0
      exact bodyPost_ret (ret_part rfl rfl rfl rfl HF.bx) rfl (HX.out _ (0, 0, 0, 0, 0, 0, 0) HF.r.onl)
end Go.Proofs.Ytlfnagfcggmeaaa.C
namespace Go.Proofs.Ytlfnagfcggmeaaa.C
open Go.RowKit

theorem Try.info38z : (Try.prog.info? 54).map (fun i => (i.zero, i.size, i.bytes)) = some (some (.agg #[.int .i64 0, .int .i64 0, .int .i64 0, .int .i64 0, .int .i64 0, .int .i64 0, .int .i64 0]), 7, 56) := by kernel_rfl
def lenV : Value → Nat
  | .slice _ n _ => n
  | _ => 0
/-- How many rounds are left. -/
def leftV (v u : Value) : Nat := match u with
  | .bool true => 65 - lenV v
  | _ => 0
/-- While a list of parts grows, and the reader reads. -/
structure PwS (T : TypeId) (w W : World) (g : Nat) (s : ByteArray) (a : Nat) (f : Bool) (v : Value) (l : List Prt) : Prop where
  r : RoS T w W g s a f
  row : W.ownsRow w.heap.size 54 7 v l.length (plC l)
section
variable {T : TypeId} {w W W' : World} {g : Nat} {s : ByteArray} {a : Nat} {f : Bool} {v : Value} {l : List Prt}
theorem PwS.start (h : Rd T w g s a f) (ha : a ≤ s.size) : PwS T w w g s a f (.slice none 0 0) [] := ⟨RoS.start h ha, World.ownsRow_nil _ _ _ _⟩
theorem PwS.next (h : PwS T w W g s a f v l) (hb : Below W.heap.size W W') : PwS T w W' g s a f v l := ⟨h.r.next hb, own_bel h.row hb⟩
theorem PwS.read (h : PwS T w W g s a f v l) {a' : Nat} {f' : Bool} (hr : Rd T W' g s a' f') (ho : Onl g W W') (hl : a' ≤ s.size) : PwS T w W' g s a' f' v l := ⟨h.r.read hr ho hl, own_onl h.row ho h.r.lg⟩
theorem PwS.push (h : PwS T w W g s a f v l) (hT : T ≠ 54) {v' : Value} {p : Prt} (ho : W'.ownsRow w.heap.size 54 7 v' (l.length + 1) (plC l ++ prC p)) (hg : W.grownBy W' v.ownBlock) : PwS T w W' g s a f v' (l ++ [p]) :=
  ⟨⟨onl_grown h.r.onl h.row hg, h.r.lg, (hg.block g h.r.rd.lt (own_not h.row h.r.rd hT)).trans h.r.rd, h.r.le⟩, by rw [plC_snoc, List.length_append]; exact ho⟩
end
/-- What readParts, Parse and the document's Parse answer. -/
def PsP (R : Int × List Prt) (e : Ending) (w' : World) : Prop := ∃ A k c, e = .returned (.tuple #[.slice A k c, .int .i64 R.1]) ∧ Prl w' A k R.2
theorem psP_err {R : Int × List Prt} {w : World} {x : Int} (h : R = (x, [])) : PsP R (.returned (.tuple #[.slice none 0 0, .int .i64 x])) w := by
  subst h
  exact ⟨none, 0, 0, rfl, Prl.nil w⟩
theorem two_new (w : World) (o : Obj) (xs : List Value) (t : TypeId) : ∀ j u, xs[j]? = some u → ((w.alloc o).alloc (.cells xs.toArray t)).cell? ((⟨w.heap.size + 1, 0, none⟩ : Addr).add j) = some u := by
  have h := cells_new (w.alloc o) xs t
  rw [show (w.alloc o).heap.size = w.heap.size + 1 by simp] at h
  exact h
theorem prC_one (p : Prt) : ∀ u ∈ prC p, u.oneCell' = true := by
  intro u hu
  simp [prC] at hu
  rcases hu with rfl | rfl | rfl | rfl | rfl | rfl | rfl <;> rfl
set_option maxHeartbeats 8000000 in
set_option maxRecDepth 100000 in
theorem readParts_any (g : Nat) (s : ByteArray) (a0 : Nat) (G : Int) (w : World) (h : Rd 127 w g s a0 false) (hs : s.size ≤ 1000000000) (ha : a0 ≤ s.size) :
    Calls Try.prog 63 #[.pointer (some ⟨g, 0, none⟩), .int .i64 G] w fun e w' => PsP (prs s.data.toList G 64 [] a0) e w' ∧ Onl g w w' := by
  have HS := Lib.hid hs
  have S := Lib.hid (PwS.start h ha)
  obtain ⟨R, hR⟩ : ∃ R, R = prs s.data.toList G 64 [] a0 := ⟨_, rfl⟩
  rw [← hR]
  have HR0 := Lib.hid hR.symm
  have HE := Lib.hid (show ∀ x W, R = (x, []) → PsP R (.returned (.tuple #[.slice none 0 0, .int .i64 x])) W from fun x W h1 => psP_err h1)
  have HF := Lib.hid (show ∀ acc a A c w', R = (0, acc) → PwS 127 w w' g s a false (.slice A acc.length c) acc → PsP R (.returned (.tuple #[.slice A acc.length c, .int .i64 0])) w' from fun acc a A c w' h1 h2 => by
    subst h1
    exact ⟨A, _, c, rfl, own_prl h2.row rfl⟩)
  obtain ⟨i5, h5a, h5b, h5c, h5d⟩ := info_parts Try.info38z
  have H5 := Lib.hid (And.intro h5a (And.intro h5b (And.intro h5c h5d)))
  clear h hs ha hR h5a h5b h5c h5d
  go_enter Try.func63, Try.ntmps63
  go_wp2_with fail
  go_loopw [6, 7] (fun v u wr => ∃ (acc : List Prt) (a : Nat) (A : Option Addr) (c : Nat) (mo : Bool), v = .slice A acc.length c ∧ u = .bool mo ∧ acc.length ≤ 64 ∧ (mo = true → prs s.data.toList G (64 - acc.length) acc a = R) ∧ (mo = false → R = (0, acc)) ∧ PwS 127 w wr g s a false (.slice A acc.length c) acc) (fun v u _ => leftV v u)
  case atStart => exact ⟨[], a0, none, 0, true, rfl, rfl, Nat.zero_le _, fun _ => HR0.out, (fun h => by cases h), S.out⟩
  case round =>
    obtain ⟨acc, a, A, c, mo, rfl, rfl, hk, hR1, hR2, hS⟩ := hrel
    have HS1 := Lib.hid hS
    cases mo
    · have HX := Lib.hid (HF.out acc a A c wr (hR2 rfl) hS)
      obtain ⟨k, hk2⟩ : ∃ k, k = acc.length := ⟨_, rfl⟩
      rw [← hk2] at HX ⊢
      clear hR1 hR2 hS hk hk2
      go_wp2_with fail
      go_ret2
      exact ⟨HX.out, HS1.out.r.onl⟩
    · have hR := hR1 rfl
      by_cases h64 : acc.length = 64
      · have HX := Lib.hid (fun W => HE.out 6 W (by rw [← hR, h64]; rfl))
        clear hR1 hR2 hR hS
        rw [h64]
        clear h64 hk
        go_wp2_with fail
        go_ret2
        exact ⟨HX.out _, HS1.out.r.onl⟩
      · have hgo : acc.length < 64 := by omega
        obtain ⟨t, ht⟩ : ∃ t, 64 - acc.length = t + 1 := ⟨63 - acc.length, by omega⟩
        have ht2 : t = 64 - (acc.length + 1) := by omega
        rw [ht] at hR
        unfold prs at hR
        have CP := Lib.hid (readPart_any g s a G wr hS.r.rd HS.out hS.r.le)
        obtain ⟨R1, hR1'⟩ : ∃ R1, R1 = prt s.data.toList G a := ⟨_, rfl⟩
        rw [← hR1'] at CP hR
        obtain ⟨x, hx⟩ : ∃ x, x = R1.1 := ⟨_, rfl⟩
        have e64 : ((acc.length : Int) == 64) = false := by simp; omega
        by_cases h0 : R1.1 = 0
        · rw [if_neg (fun h => h h0)] at hR
          have HR := Lib.hid hR
          have HT := Lib.hid ht2
          have CQ := Lib.hid (CP.out.mono (R' := fun e w' => ∃ (q : Prt) (n : Bool), e = .returned (.tuple #[.agg #[.int .i64 q.1, .int .i64 q.2.1, .int .i64 q.2.2.1, .int .i64 q.2.2.2.1, .int .i64 q.2.2.2.2.1, .int .i64 q.2.2.2.2.2.1, .int .i64 q.2.2.2.2.2.2], .bool n, .int .i64 0]) ∧ (q = R1.2.1 ∧ n = R1.2.2.1) ∧ PwS 127 w w' g s R1.2.2.2 false (.slice A acc.length c) acc) fun e w' ⟨q, n, h1, h2, h3⟩ => by
            obtain ⟨h4, h5, h6, h7⟩ := h3 h0
            exact ⟨q, n, by rw [h1, h0], ⟨h4, h5⟩, HS1.out.read h6 h2 h7⟩)
          obtain ⟨k, hk2⟩ : ∃ k, k = acc.length := ⟨_, rfl⟩
          have HK := Lib.hid hk2
          rw [← hk2] at hgo e64 CQ HT ⊢
          clear hR1 hR2 hR hS h64 ht ht2 hk hk2 hR1' hx h0 CP
          go_wp2_with (first
            | (go_at_call 78; (with_reducible refine CQ.out.mono ?_); rintro e w2 ⟨q, n, rfl, he, hS2⟩; have H2 := Lib.hid hS2; have HQ := Lib.hid he; have HB3 := Lib.hid ((show PwS 127 w w2 g s R1.2.2.2 false (.slice A k c) acc from hS2).next (((Below.refl _ w2).alloc (Nat.le_refl _) (.cells #[.int .i64 q.1, .int .i64 q.2.1, .int .i64 q.2.2.1, .int .i64 q.2.2.2.1, .int .i64 q.2.2.2.2.1, .int .i64 q.2.2.2.2.2.1, .int .i64 q.2.2.2.2.2.2] 54)).alloc (by simp) (.cells #[.int .i64 q.1, .int .i64 q.2.1, .int .i64 q.2.2.1, .int .i64 q.2.2.2.1, .int .i64 q.2.2.2.2.1, .int .i64 q.2.2.2.2.2.1, .int .i64 q.2.2.2.2.2.2] 54))); have HR3 := Lib.hid (show ((w2.alloc (.cells #[.int .i64 q.1, .int .i64 q.2.1, .int .i64 q.2.2.1, .int .i64 q.2.2.2.1, .int .i64 q.2.2.2.2.1, .int .i64 q.2.2.2.2.2.1, .int .i64 q.2.2.2.2.2.2] 54)).alloc (.cells #[.int .i64 q.1, .int .i64 q.2.1, .int .i64 q.2.2.1, .int .i64 q.2.2.2.1, .int .i64 q.2.2.2.2.1, .int .i64 q.2.2.2.2.2.1, .int .i64 q.2.2.2.2.2.2] 54)).ownsRow w.heap.size 54 7 (.slice A k c) k (plC acc) from (by have h := HB3.out.row; rw [← HK.out] at h; exact h)); have HC3 := Lib.hid (two_new w2 (.cells #[.int .i64 q.1, .int .i64 q.2.1, .int .i64 q.2.2.1, .int .i64 q.2.2.2.1, .int .i64 q.2.2.2.2.1, .int .i64 q.2.2.2.2.2.1, .int .i64 q.2.2.2.2.2.2] 54) (prC q) 54); have HBs := Lib.hid HB3.out.r.onl.size; clear hS2 he)
            | (at_builtin; go_must (refine wpList_append_own _ rfl (.tmp 25) (.tmp 27) 48 rfl w.heap.size 54 i5 _ 7 56 Try.underlying48 H5.out.1 H5.out.2.1 H5.out.2.2.1 H5.out.2.2.2 rfl (by decide) (.slice A k c) k (plC acc) rfl HR3.out ⟨w2.heap.size + 1, 0, none⟩ 1 1 (prC q) rfl rfl HC3.out (prC_one q) (by unfold maxLen; omega) (by omega) HBs.out ?_); intro v' w7 hown' hg' _; obtain ⟨A7, c7, rfl⟩ := own_form hown'; have H7 := Lib.hid (HB3.out.push (by decide) (p := q) (by rw [← HK.out]; exact hown') hg'); clear hown' hg'))
          have hl : (acc ++ [q]).length = k + 1 := by rw [List.length_append, ← HK.out]; rfl
          refine ⟨⟨acc ++ [q], R1.2.2.2, A7, c7, n, by rw [hl], rfl, by omega, fun hn => ?_, fun hn => ?_, by rw [hl]; exact H7.out⟩, ?_⟩
          · have h := HR.out
            rw [if_pos (by rw [← HQ.out.2]; exact hn)] at h
            rw [hl, ← HT.out, HQ.out.1]
            exact h
          · have h := HR.out
            rw [if_neg (by rw [← HQ.out.2, hn]; decide)] at h
            rw [HQ.out.1]
            exact h.symm
          · have hm : ∀ b : Bool, leftV (.slice A7 (k + 1) c7) (.bool b) < leftV (.slice A k c) (.bool true) := by
              intro b
              cases b
              · show 0 < 65 - k
                omega
              · show 65 - (k + 1) < 65 - k
                omega
            exact hm n
        · have HX := Lib.hid (fun W => HE.out R1.1 W (by rw [← hR, if_pos h0]))
          have CQ := Lib.hid (CP.out.mono (R' := fun e w' => ∃ (q : Prt) (n : Bool), e = .returned (.tuple #[.agg #[.int .i64 q.1, .int .i64 q.2.1, .int .i64 q.2.2.1, .int .i64 q.2.2.2.1, .int .i64 q.2.2.2.2.1, .int .i64 q.2.2.2.2.2.1, .int .i64 q.2.2.2.2.2.2], .bool n, .int .i64 R1.1]) ∧ Onl g w w') fun e w' ⟨q, n, h1, h2, _⟩ => ⟨q, n, h1, HS1.out.r.onl.trans h2⟩)
          rw [← hx] at h0 HX CQ
          obtain ⟨k, hk2⟩ : ∃ k, k = acc.length := ⟨_, rfl⟩
          rw [← hk2] at hgo e64 ⊢
          have e0 : (x == 0) = false := by simp [h0]
          have e0' : (x != 0) = true := by simp [h0]
          clear hR1 hR2 hR hS h64 ht ht2 hk hk2 hR1' hx h0 CP
          go_wp2_with (go_at_call 78; (with_reducible refine CQ.out.mono ?_); rintro e w2 ⟨q, n, rfl, ho⟩; have HO := Lib.hid ho; clear ho)
          go_ret2
          exact ⟨HX.out _, HO.out.trans (Onl.of ((Below.refl _ _).alloc (Nat.le_refl _) _))⟩
end Go.Proofs.Ytlfnagfcggmeaaa.C
