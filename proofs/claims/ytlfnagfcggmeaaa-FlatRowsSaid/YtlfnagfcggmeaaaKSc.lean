/- Proved here: what the document's part answers, where DX and DY have two bytes each. Condition: a reader of a text of at most a billion bytes that has not failed. -/
import Derived.Test.YtlfnagfcggmeaaaKD
namespace Go.Proofs.Ytlfnagfcggmeaaa.C
open Go.RowKit

set_option maxHeartbeats 8000000 in
set_option maxRecDepth 100000 in
theorem part_1_8 (g : Nat) (s : ByteArray) (a : Nat) (G : Int) (w : World) (h : Rd 90 w g s a false) (hs : s.size ≤ 1000000000) (ha : a ≤ s.size) (c1 : ¬ s.size < a + 4) (c2 : okB (n2 s.data.toList a)) (c3 : ¬ G ≤ (n2 s.data.toList (a + 2) : Int)) (h1 : n2 s.data.toList a % 2 = 1) (g1 : n2 s.data.toList a / 8 % 2 = 1) :
    Calls Try.prog 45 #[.pointer (some ⟨g, 0, none⟩), .int .i64 G] w (RdP 90 (prt s.data.toList G a) g s w) := by
  have HS := Lib.hid hs
  have H0 := Lib.hid (QpS.start h ha)
  obtain ⟨R, hR⟩ : ∃ R, R = prt s.data.toList G a := ⟨_, rfl⟩
  rw [← hR]
  have HE := Lib.hid (show ∀ x r W (q : Prt) n, R = (x, r) → x ≠ 0 → Onl g w W → RdP 90 R g s w (.returned (.tuple #[.agg #[.int .i64 q.1, .int .i64 q.2.1, .int .i64 q.2.2.1, .int .i64 q.2.2.2.1, .int .i64 q.2.2.2.2.1, .int .i64 q.2.2.2.2.2.1, .int .i64 q.2.2.2.2.2.2], .bool n, .int .i64 x])) W from fun x r W q n h1 h2 h3 => rdP_err h1 h2 h3 q n)
  have hsz := size_list s
  have c1' : ¬ s.data.toList.length < a + 4 := by rw [hsz]; exact c1
  have CA := Lib.hid (fun W (h : Rd 90 W g s a false) => num2_in g s a W h HS.out (by omega))
  have CB := Lib.hid (fun W (h : Rd 90 W g s (a + 2) false) => num2_in g s (a + 2) W h HS.out (by omega))
  have hf := n2_lt s.data.toList a
  have hgl := n2_lt s.data.toList (a + 2)
  have hok := fun h2 h3 => prt_ok (G := G) c1' h2 h3
  have hend := fun h2 h3 => prt_end (G := G) c1' h2 h3
  have hfm := fun h2 => prt_form (G := G) c1' h2
  obtain ⟨f, hff⟩ : ∃ f, f = n2 s.data.toList a := ⟨_, rfl⟩
  obtain ⟨gl, hgg⟩ : ∃ f, f = n2 s.data.toList (a + 2) := ⟨_, rfl⟩
  rw [← hff, ← hgg] at hok hend hfm
  rw [← hff] at c2 h1 g1
  rw [← hgg] at c3
  rw [← hff] at CA hf
  rw [← hgg] at CB hgl
  have HA := Lib.hid (show a + 2 ≤ s.size ∧ a + 2 + 2 ≤ s.size by omega)
  have hz : IntKind.i64.wrap (gl : Int) = (gl : Int) := i64_in _ (by omega)
  clear hff hgg
  have hn : ¬ (¬ okB f ∨ G ≤ (gl : Int)) := fun h => h.elim (fun h => h c2) c3
  have hok := hok hn
  have hend := hend hn
  obtain ⟨e1, e2, e3, e4, e5⟩ := bits_no f hf c2
  have e6 : decide (G ≤ (gl : Int)) = false := decide_eq_false c3
  have e7 : ((f : Int) % 2 == 1) = true := by rw [show (f : Int) % 2 = 1 by omega]; rfl
  have e8 := bit_1 f 8 g1
  have e9 := bit_0 f 64 (by have := c2.2.2.2.2; omega)
  have e10 := bit_0 f 128 (by have := c2.2.2.2.2; omega)
  have e8 : ((f : Int) / 8 % 2 == 1) = true := e8
  have e9 : ((f : Int) / 64 % 2 == 1) = false := e9
  have e10 : ((f : Int) / 128 % 2 == 1) = false := e10
  have wm : mvw f = 4 := by unfold mvw; rw [if_pos h1]
  have wn : nuw f = 2 := by unfold nuw; rw [if_pos g1]
  rw [wm, wn] at hok hend
  by_cases c4 : s.size < a + 10
  · have HX := Lib.hid (fun W q ho => HE.out 3 _ W q false (hR.trans (hend (by rw [hsz]; omega))) (by decide) ho)
    have HC4 := Lib.hid (show s.size < a + 2 + 2 + 6 by omega)
    clear c1 c2 c3 hn hR h hf hok hend hfm hsz c1' c4 h1 g1 wm wn
    go_enter Try.func45, Try.ntmps45
    go_upto_region 1 with fail
    obtain ⟨b, hb⟩ : ∃ b, b = w.heap.size := ⟨_, rfl⟩
    obtain ⟨W0, hW0⟩ : ∃ W, W = w.alloc (.cells #[.int .i64 0, .int .i64 0, .int .i64 0, .int .i64 0, .int .i64 0, .int .i64 0, .int .i64 0] 54) := ⟨_, rfl⟩
    rw [← hW0, ← hb] at H0 ⊢
    clear hW0 hb
    go_wp2_with (first
        | (go_at_call 48; (with_reducible refine (CA.out _ H0.out.r.rd).mono ?_); rintro e w1 ⟨rfl, rd1, o1⟩; have H1 := Lib.hid (H0.out.read rd1 o1 HA.out.1); clear rd1 o1)
        | (go_at_call 48; (with_reducible refine (CB.out _ H1.out.r.rd).mono ?_); rintro e w2 ⟨rfl, rd2, o2⟩; have H2 := Lib.hid (H1.out.read rd2 o2 HA.out.2); obtain ⟨x0, x1, x2, x3, x4, x5, x6⟩ := H2.out.bx.cells; obtain ⟨y0, y1, y2, y3, y4, y5, y6⟩ := H2.out.bx.frs; have bd := H2.out.r.rd.c2; have K0 := Lib.hid (H2.out.box (gl : Int) 0 0 16384 0 0 16384); clear rd2 o2)
        | (go_at_call 46; (with_reducible refine (rri16_any _ _ _ _ _ K0.out.rd HS.out K0.out.le).mono ?_); rintro e t1 ⟨v1, a1, f1, rfl, r1, n1, q1, rd1, o1⟩; have N1 := Lib.hid n1; have L1 := Lib.hid (K0.out.read rd1 o1 n1.le); obtain ⟨_, c11, c12, c13, c14, c15, c16⟩ := L1.out.bx.cells; have fr1 := L1.out.bx.fr 1; have K1 := Lib.hid (L1.out.put 1 (.int .i64 v1) (L1.out.bx.set1 v1)); clear r1 n1 q1 rd1 o1)
        | (go_at_call 46; (with_reducible refine (rri16_any _ _ _ _ _ K1.out.rd HS.out K1.out.le).mono ?_); rintro e t2 ⟨v2, a2, f2, rfl, r2, n2, q2, rd2, o2⟩; have N2 := Lib.hid n2; have L2 := Lib.hid (K1.out.read rd2 o2 n2.le); obtain ⟨_, c21, c22, c23, c24, c25, c26⟩ := L2.out.bx.cells; have fr2 := L2.out.bx.fr 2; have K2 := Lib.hid (L2.out.put 2 (.int .i64 v2) (L2.out.bx.set2 v2)); clear r2 n2 q2 rd2 o2)
        | (go_at_call 46; (with_reducible refine (rri16_any _ _ _ _ _ K2.out.rd HS.out K2.out.le).mono ?_); rintro e t3 ⟨v3, a3, f3, rfl, r3, n3, q3, rd3, o3⟩; have N3 := Lib.hid n3; have NB := ((N1.out.trans N2.out).trans N3.out).bad (by have := HC4.out; omega); subst NB; have L3 := Lib.hid (K2.out.read rd3 o3 n3.le); obtain ⟨_, c31, c32, c33, c34, c35, c36⟩ := L3.out.bx.cells; have fr3 := L3.out.bx.fr 3; have K3 := Lib.hid (L3.out.put 3 (.int .i64 v3) (L3.out.bx.set3 v3)); have K3x := Lib.hid (K3.out.put 6 (.int .i64 v3) (K3.out.bx.set6 v3)); obtain ⟨_, _, _, d3, _, _, d6⟩ := K3.out.bx.cells; have fs := K3.out.bx.fr 6; have H5 := Lib.hid (H2.out.two (Nat.le_refl _) ((Below.refl _ _).alloc (Nat.le_refl _) _) K3x.out); obtain ⟨x0, x1, x2, x3, x4, x5, x6⟩ := H5.out.bx.cells; obtain ⟨y0, y1, y2, y3, y4, y5, y6⟩ := H5.out.bx.frs; obtain ⟨u0, u1, u2, u3, u4, u5, u6⟩ := K3x.out.bx.cells; have bd := K3x.out.rd.c2; have nb := H2.out.bx.lt; have nb1 : ¬ b = w2.heap.size := (by omega); have nb2 : ¬ w2.heap.size = b := (by omega); clear nb; clear r3 n3 q3 rd3 o3))
    have HF := H5.out.store 0 0 0 0 0 0 0
    exact bodyPost_ret (ret_part rfl rfl rfl rfl HF.bx) rfl (HX.out _ (0, 0, 0, 0, 0, 0, 0) HF.r.onl)
  · have hsz4 : a + 10 ≤ s.size := by omega
    obtain ⟨v1, hv1⟩ : ∃ v, v = s2 s.data.toList (a + 4) := ⟨_, rfl⟩
    obtain ⟨v2, hv2⟩ : ∃ v, v = s2 s.data.toList (a + 6) := ⟨_, rfl⟩
    obtain ⟨v3, hv3⟩ : ∃ v, v = s2 s.data.toList (a + 8) := ⟨_, rfl⟩
    obtain ⟨p1, hp1⟩ : ∃ p, p = a + 6 := ⟨_, rfl⟩
    obtain ⟨p2, hp2⟩ : ∃ p, p = a + 8 := ⟨_, rfl⟩
    obtain ⟨p3, hp3⟩ : ∃ p, p = a + 10 := ⟨_, rfl⟩
    have hp0 : a + 2 + 2 = a + 4 := rfl
    have D1 := Lib.hid (show ∀ W, Rd 90 W g s (a + 2 + 2) false → Calls Try.prog 46 #[.pointer (some ⟨g, 0, none⟩)] W (fun e w' => e = .returned (.int .i64 v1) ∧ Rd 90 w' g s p1 false ∧ Onl g W w') from fun W h => by rw [hv1]; exact int2_in g s _ _ W (by exact h) HS.out (by omega) (by omega))
    have D2 := Lib.hid (show ∀ W, Rd 90 W g s (p1) false → Calls Try.prog 46 #[.pointer (some ⟨g, 0, none⟩)] W (fun e w' => e = .returned (.int .i64 v2) ∧ Rd 90 w' g s p2 false ∧ Onl g W w') from fun W h => by rw [hv2]; exact int2_in g s _ _ W (by rw [← hp1]; exact h) HS.out (by omega) (by omega))
    have D3 := Lib.hid (show ∀ W, Rd 90 W g s (p2) false → Calls Try.prog 46 #[.pointer (some ⟨g, 0, none⟩)] W (fun e w' => e = .returned (.int .i64 v3) ∧ Rd 90 w' g s p3 false ∧ Onl g W w') from fun W h => by rw [hv3]; exact int2_in g s _ _ W (by rw [← hp2]; exact h) HS.out (by omega) (by omega))
    have HP := Lib.hid (show p1 ≤ s.size ∧ p2 ≤ s.size ∧ p3 ≤ s.size from ⟨by omega, by omega, by omega⟩)
    have HR2 := Lib.hid (show R = (0, ((gl : Int), v1, v2, v3, 0, 0, v3), decide (f / 32 % 2 = 1), p3) from by
      rw [hR, hok (by rw [hsz]; omega)]
      have k1 : mvX s.data.toList f (a + 4) = v1 := by unfold mvX; rw [if_pos h1, hv1]
      have k2 : mvY s.data.toList f (a + 4) = v2 := by unfold mvY; rw [if_pos h1, hv2]
      have k3 : nu4 s.data.toList f (a + 4 + 4) = (v3, 0, 0, v3) := by unfold nu4; rw [if_pos g1, hv3]
      have k4 : a + 4 + 4 + 2 = p3 := by omega
      rw [k1, k2, k3, k4])
    have e32 : ((f : Int) / 32 % 2 == 1) = decide (f / 32 % 2 = 1) := by
      by_cases h : f / 32 % 2 = 1
      · rw [decide_eq_true h]; exact bit_1 f 32 h
      · rw [decide_eq_false h]; exact bit_0 f 32 (by omega)
    obtain ⟨nx, hnx⟩ : ∃ n, n = decide (f / 32 % 2 = 1) := ⟨_, rfl⟩
    rw [← hnx] at HR2 e32
    clear c1 c2 c3 hn hR h hf hok hend hfm hsz c1' c4 h1 g1 wm wn hsz4 hp0 hnx hv1 hv2 hv3 hp1 hp2 hp3
    go_enter Try.func45, Try.ntmps45
    go_upto_region 1 with fail
    obtain ⟨b, hb⟩ : ∃ b, b = w.heap.size := ⟨_, rfl⟩
    obtain ⟨W0, hW0⟩ : ∃ W, W = w.alloc (.cells #[.int .i64 0, .int .i64 0, .int .i64 0, .int .i64 0, .int .i64 0, .int .i64 0, .int .i64 0] 54) := ⟨_, rfl⟩
    rw [← hW0, ← hb] at H0 ⊢
    clear hW0 hb
    go_wp2_with (first
        | (go_at_call 48; (with_reducible refine (CA.out _ H0.out.r.rd).mono ?_); rintro e w1 ⟨rfl, rd1, o1⟩; have H1 := Lib.hid (H0.out.read rd1 o1 HA.out.1); clear rd1 o1)
        | (go_at_call 48; (with_reducible refine (CB.out _ H1.out.r.rd).mono ?_); rintro e w2 ⟨rfl, rd2, o2⟩; have H2 := Lib.hid (H1.out.read rd2 o2 HA.out.2); obtain ⟨x0, x1, x2, x3, x4, x5, x6⟩ := H2.out.bx.cells; obtain ⟨y0, y1, y2, y3, y4, y5, y6⟩ := H2.out.bx.frs; have bd := H2.out.r.rd.c2; have K0 := Lib.hid (H2.out.box (gl : Int) 0 0 16384 0 0 16384); clear rd2 o2)
        | (go_at_call 46; (with_reducible refine (D1.out _ K0.out.rd).mono ?_); rintro e t1 ⟨rfl, rd1, o1⟩; have L1 := Lib.hid (K0.out.read rd1 o1 HP.out.1); obtain ⟨_, c11, c12, c13, c14, c15, c16⟩ := L1.out.bx.cells; have fr1 := L1.out.bx.fr 1; have K1 := Lib.hid (L1.out.put 1 (.int .i64 v1) (L1.out.bx.set1 v1)); clear rd1 o1)
        | (go_at_call 46; (with_reducible refine (D2.out _ K1.out.rd).mono ?_); rintro e t2 ⟨rfl, rd2, o2⟩; have L2 := Lib.hid (K1.out.read rd2 o2 HP.out.2.1); obtain ⟨_, c21, c22, c23, c24, c25, c26⟩ := L2.out.bx.cells; have fr2 := L2.out.bx.fr 2; have K2 := Lib.hid (L2.out.put 2 (.int .i64 v2) (L2.out.bx.set2 v2)); clear rd2 o2)
        | (go_at_call 46; (with_reducible refine (D3.out _ K2.out.rd).mono ?_); rintro e t3 ⟨rfl, rd3, o3⟩; have L3 := Lib.hid (K2.out.read rd3 o3 HP.out.2.2); obtain ⟨_, c31, c32, c33, c34, c35, c36⟩ := L3.out.bx.cells; have fr3 := L3.out.bx.fr 3; have K3 := Lib.hid (L3.out.put 3 (.int .i64 v3) (L3.out.bx.set3 v3)); have K3x := Lib.hid (K3.out.put 6 (.int .i64 v3) (K3.out.bx.set6 v3)); obtain ⟨_, _, _, d3, _, _, d6⟩ := K3.out.bx.cells; have fs := K3.out.bx.fr 6; have H5 := Lib.hid (H2.out.two (Nat.le_refl _) ((Below.refl _ _).alloc (Nat.le_refl _) _) K3x.out); obtain ⟨x0, x1, x2, x3, x4, x5, x6⟩ := H5.out.bx.cells; obtain ⟨y0, y1, y2, y3, y4, y5, y6⟩ := H5.out.bx.frs; obtain ⟨u0, u1, u2, u3, u4, u5, u6⟩ := K3x.out.bx.cells; have bd := K3x.out.rd.c2; have nb := H2.out.bx.lt; have nb1 : ¬ b = w2.heap.size := (by omega); have nb2 : ¬ w2.heap.size = b := (by omega); clear nb; clear rd3 o3))
    have HF := H5.out.store (gl : Int) v1 v2 v3 0 0 v3
    refine bodyPost_ret (ret_part rfl rfl rfl rfl HF.bx) rfl ⟨((gl : Int), v1, v2, v3, 0, 0, v3), nx, by rw [HR2.out]; rfl, HF.r.onl, fun _ => ?_⟩
    rw [HR2.out]
    exact ⟨rfl, rfl, HF.r.rd, HF.r.le⟩
set_option maxHeartbeats 8000000 in
set_option maxRecDepth 100000 in
theorem part_1_64 (g : Nat) (s : ByteArray) (a : Nat) (G : Int) (w : World) (h : Rd 90 w g s a false) (hs : s.size ≤ 1000000000) (ha : a ≤ s.size) (c1 : ¬ s.size < a + 4) (c2 : okB (n2 s.data.toList a)) (c3 : ¬ G ≤ (n2 s.data.toList (a + 2) : Int)) (h1 : n2 s.data.toList a % 2 = 1) (g1 : n2 s.data.toList a / 8 % 2 = 0) (g2 : n2 s.data.toList a / 64 % 2 = 1) :
    Calls Try.prog 45 #[.pointer (some ⟨g, 0, none⟩), .int .i64 G] w (RdP 90 (prt s.data.toList G a) g s w) := by
  have HS := Lib.hid hs
  have H0 := Lib.hid (QpS.start h ha)
  obtain ⟨R, hR⟩ : ∃ R, R = prt s.data.toList G a := ⟨_, rfl⟩
  rw [← hR]
  have HE := Lib.hid (show ∀ x r W (q : Prt) n, R = (x, r) → x ≠ 0 → Onl g w W → RdP 90 R g s w (.returned (.tuple #[.agg #[.int .i64 q.1, .int .i64 q.2.1, .int .i64 q.2.2.1, .int .i64 q.2.2.2.1, .int .i64 q.2.2.2.2.1, .int .i64 q.2.2.2.2.2.1, .int .i64 q.2.2.2.2.2.2], .bool n, .int .i64 x])) W from fun x r W q n h1 h2 h3 => rdP_err h1 h2 h3 q n)
  have hsz := size_list s
  have c1' : ¬ s.data.toList.length < a + 4 := by rw [hsz]; exact c1
  have CA := Lib.hid (fun W (h : Rd 90 W g s a false) => num2_in g s a W h HS.out (by omega))
  have CB := Lib.hid (fun W (h : Rd 90 W g s (a + 2) false) => num2_in g s (a + 2) W h HS.out (by omega))
  have hf := n2_lt s.data.toList a
  have hgl := n2_lt s.data.toList (a + 2)
  have hok := fun h2 h3 => prt_ok (G := G) c1' h2 h3
  have hend := fun h2 h3 => prt_end (G := G) c1' h2 h3
  have hfm := fun h2 => prt_form (G := G) c1' h2
  obtain ⟨f, hff⟩ : ∃ f, f = n2 s.data.toList a := ⟨_, rfl⟩
  obtain ⟨gl, hgg⟩ : ∃ f, f = n2 s.data.toList (a + 2) := ⟨_, rfl⟩
  rw [← hff, ← hgg] at hok hend hfm
  rw [← hff] at c2 h1 g1 g2
  rw [← hgg] at c3
  rw [← hff] at CA hf
  rw [← hgg] at CB hgl
  have HA := Lib.hid (show a + 2 ≤ s.size ∧ a + 2 + 2 ≤ s.size by omega)
  have hz : IntKind.i64.wrap (gl : Int) = (gl : Int) := i64_in _ (by omega)
  clear hff hgg
  have hn : ¬ (¬ okB f ∨ G ≤ (gl : Int)) := fun h => h.elim (fun h => h c2) c3
  have hok := hok hn
  have hend := hend hn
  obtain ⟨e1, e2, e3, e4, e5⟩ := bits_no f hf c2
  have e6 : decide (G ≤ (gl : Int)) = false := decide_eq_false c3
  have e7 : ((f : Int) % 2 == 1) = true := by rw [show (f : Int) % 2 = 1 by omega]; rfl
  have e8 := bit_0 f 8 g1
  have e9 := bit_1 f 64 g2
  have e10 := bit_0 f 128 (by have := c2.2.2.2.2; omega)
  have e8 : ((f : Int) / 8 % 2 == 1) = false := e8
  have e9 : ((f : Int) / 64 % 2 == 1) = true := e9
  have e10 : ((f : Int) / 128 % 2 == 1) = false := e10
  have wm : mvw f = 4 := by unfold mvw; rw [if_pos h1]
  have wn : nuw f = 4 := by unfold nuw; rw [if_neg (show ¬ f / 8 % 2 = 1 by omega), if_pos g2]
  rw [wm, wn] at hok hend
  by_cases c4 : s.size < a + 12
  · have HX := Lib.hid (fun W q ho => HE.out 3 _ W q false (hR.trans (hend (by rw [hsz]; omega))) (by decide) ho)
    have HC4 := Lib.hid (show s.size < a + 2 + 2 + 8 by omega)
    clear c1 c2 c3 hn hR h hf hok hend hfm hsz c1' c4 h1 g1 g2 wm wn
    go_enter Try.func45, Try.ntmps45
    go_upto_region 1 with fail
    obtain ⟨b, hb⟩ : ∃ b, b = w.heap.size := ⟨_, rfl⟩
    obtain ⟨W0, hW0⟩ : ∃ W, W = w.alloc (.cells #[.int .i64 0, .int .i64 0, .int .i64 0, .int .i64 0, .int .i64 0, .int .i64 0, .int .i64 0] 54) := ⟨_, rfl⟩
    rw [← hW0, ← hb] at H0 ⊢
    clear hW0 hb
    go_wp2_with (first
        | (go_at_call 48; (with_reducible refine (CA.out _ H0.out.r.rd).mono ?_); rintro e w1 ⟨rfl, rd1, o1⟩; have H1 := Lib.hid (H0.out.read rd1 o1 HA.out.1); clear rd1 o1)
        | (go_at_call 48; (with_reducible refine (CB.out _ H1.out.r.rd).mono ?_); rintro e w2 ⟨rfl, rd2, o2⟩; have H2 := Lib.hid (H1.out.read rd2 o2 HA.out.2); obtain ⟨x0, x1, x2, x3, x4, x5, x6⟩ := H2.out.bx.cells; obtain ⟨y0, y1, y2, y3, y4, y5, y6⟩ := H2.out.bx.frs; have bd := H2.out.r.rd.c2; have K0 := Lib.hid (H2.out.box (gl : Int) 0 0 16384 0 0 16384); clear rd2 o2)
        | (go_at_call 46; (with_reducible refine (rri16_any _ _ _ _ _ K0.out.rd HS.out K0.out.le).mono ?_); rintro e t1 ⟨v1, a1, f1, rfl, r1, n1, q1, rd1, o1⟩; have N1 := Lib.hid n1; have L1 := Lib.hid (K0.out.read rd1 o1 n1.le); obtain ⟨_, c11, c12, c13, c14, c15, c16⟩ := L1.out.bx.cells; have fr1 := L1.out.bx.fr 1; have K1 := Lib.hid (L1.out.put 1 (.int .i64 v1) (L1.out.bx.set1 v1)); clear r1 n1 q1 rd1 o1)
        | (go_at_call 46; (with_reducible refine (rri16_any _ _ _ _ _ K1.out.rd HS.out K1.out.le).mono ?_); rintro e t2 ⟨v2, a2, f2, rfl, r2, n2, q2, rd2, o2⟩; have N2 := Lib.hid n2; have L2 := Lib.hid (K1.out.read rd2 o2 n2.le); obtain ⟨_, c21, c22, c23, c24, c25, c26⟩ := L2.out.bx.cells; have fr2 := L2.out.bx.fr 2; have K2 := Lib.hid (L2.out.put 2 (.int .i64 v2) (L2.out.bx.set2 v2)); clear r2 n2 q2 rd2 o2)
        | (go_at_call 46; (with_reducible refine (rri16_any _ _ _ _ _ K2.out.rd HS.out K2.out.le).mono ?_); rintro e t3 ⟨v3, a3, f3, rfl, r3, n3, q3, rd3, o3⟩; have N3 := Lib.hid n3; have L3 := Lib.hid (K2.out.read rd3 o3 n3.le); obtain ⟨_, c31, c32, c33, c34, c35, c36⟩ := L3.out.bx.cells; have fr3 := L3.out.bx.fr 3; have K3 := Lib.hid (L3.out.put 3 (.int .i64 v3) (L3.out.bx.set3 v3)); clear r3 n3 q3 rd3 o3)
        | (go_at_call 46; (with_reducible refine (rri16_any _ _ _ _ _ K3.out.rd HS.out K3.out.le).mono ?_); rintro e t4 ⟨v4, a4, f4, rfl, r4, n4, q4, rd4, o4⟩; have N4 := Lib.hid n4; have NB := (((N1.out.trans N2.out).trans N3.out).trans N4.out).bad (by have := HC4.out; omega); subst NB; have L4 := Lib.hid (K3.out.read rd4 o4 n4.le); obtain ⟨_, c41, c42, c43, c44, c45, c46⟩ := L4.out.bx.cells; have fr4 := L4.out.bx.fr 6; have K4 := Lib.hid (L4.out.put 6 (.int .i64 v4) (L4.out.bx.set6 v4)); have H5 := Lib.hid (H2.out.two (Nat.le_refl _) ((Below.refl _ _).alloc (Nat.le_refl _) _) K4.out); obtain ⟨x0, x1, x2, x3, x4, x5, x6⟩ := H5.out.bx.cells; obtain ⟨y0, y1, y2, y3, y4, y5, y6⟩ := H5.out.bx.frs; obtain ⟨u0, u1, u2, u3, u4, u5, u6⟩ := K4.out.bx.cells; have bd := K4.out.rd.c2; have nb := H2.out.bx.lt; have nb1 : ¬ b = w2.heap.size := (by omega); have nb2 : ¬ w2.heap.size = b := (by omega); clear nb; clear r4 n4 q4 rd4 o4))
    have HF := H5.out.store 0 0 0 0 0 0 0
    exact bodyPost_ret (ret_part rfl rfl rfl rfl HF.bx) rfl (HX.out _ (0, 0, 0, 0, 0, 0, 0) HF.r.onl)
  · have hsz4 : a + 12 ≤ s.size := by omega
    obtain ⟨v1, hv1⟩ : ∃ v, v = s2 s.data.toList (a + 4) := ⟨_, rfl⟩
    obtain ⟨v2, hv2⟩ : ∃ v, v = s2 s.data.toList (a + 6) := ⟨_, rfl⟩
    obtain ⟨v3, hv3⟩ : ∃ v, v = s2 s.data.toList (a + 8) := ⟨_, rfl⟩
    obtain ⟨v4, hv4⟩ : ∃ v, v = s2 s.data.toList (a + 10) := ⟨_, rfl⟩
    obtain ⟨p1, hp1⟩ : ∃ p, p = a + 6 := ⟨_, rfl⟩
    obtain ⟨p2, hp2⟩ : ∃ p, p = a + 8 := ⟨_, rfl⟩
    obtain ⟨p3, hp3⟩ : ∃ p, p = a + 10 := ⟨_, rfl⟩
    obtain ⟨p4, hp4⟩ : ∃ p, p = a + 12 := ⟨_, rfl⟩
    have hp0 : a + 2 + 2 = a + 4 := rfl
    have D1 := Lib.hid (show ∀ W, Rd 90 W g s (a + 2 + 2) false → Calls Try.prog 46 #[.pointer (some ⟨g, 0, none⟩)] W (fun e w' => e = .returned (.int .i64 v1) ∧ Rd 90 w' g s p1 false ∧ Onl g W w') from fun W h => by rw [hv1]; exact int2_in g s _ _ W (by exact h) HS.out (by omega) (by omega))
    have D2 := Lib.hid (show ∀ W, Rd 90 W g s (p1) false → Calls Try.prog 46 #[.pointer (some ⟨g, 0, none⟩)] W (fun e w' => e = .returned (.int .i64 v2) ∧ Rd 90 w' g s p2 false ∧ Onl g W w') from fun W h => by rw [hv2]; exact int2_in g s _ _ W (by rw [← hp1]; exact h) HS.out (by omega) (by omega))
    have D3 := Lib.hid (show ∀ W, Rd 90 W g s (p2) false → Calls Try.prog 46 #[.pointer (some ⟨g, 0, none⟩)] W (fun e w' => e = .returned (.int .i64 v3) ∧ Rd 90 w' g s p3 false ∧ Onl g W w') from fun W h => by rw [hv3]; exact int2_in g s _ _ W (by rw [← hp2]; exact h) HS.out (by omega) (by omega))
    have D4 := Lib.hid (show ∀ W, Rd 90 W g s (p3) false → Calls Try.prog 46 #[.pointer (some ⟨g, 0, none⟩)] W (fun e w' => e = .returned (.int .i64 v4) ∧ Rd 90 w' g s p4 false ∧ Onl g W w') from fun W h => by rw [hv4]; exact int2_in g s _ _ W (by rw [← hp3]; exact h) HS.out (by omega) (by omega))
    have HP := Lib.hid (show p1 ≤ s.size ∧ p2 ≤ s.size ∧ p3 ≤ s.size ∧ p4 ≤ s.size from ⟨by omega, by omega, by omega, by omega⟩)
    have HR2 := Lib.hid (show R = (0, ((gl : Int), v1, v2, v3, 0, 0, v4), decide (f / 32 % 2 = 1), p4) from by
      rw [hR, hok (by rw [hsz]; omega)]
      have k1 : mvX s.data.toList f (a + 4) = v1 := by unfold mvX; rw [if_pos h1, hv1]
      have k2 : mvY s.data.toList f (a + 4) = v2 := by unfold mvY; rw [if_pos h1, hv2]
      have k3 : nu4 s.data.toList f (a + 4 + 4) = (v3, 0, 0, v4) := by unfold nu4; rw [if_neg (show ¬ f / 8 % 2 = 1 by omega), if_pos g2, hv3, hv4]
      have k4 : a + 4 + 4 + 4 = p4 := by omega
      rw [k1, k2, k3, k4])
    have e32 : ((f : Int) / 32 % 2 == 1) = decide (f / 32 % 2 = 1) := by
      by_cases h : f / 32 % 2 = 1
      · rw [decide_eq_true h]; exact bit_1 f 32 h
      · rw [decide_eq_false h]; exact bit_0 f 32 (by omega)
    obtain ⟨nx, hnx⟩ : ∃ n, n = decide (f / 32 % 2 = 1) := ⟨_, rfl⟩
    rw [← hnx] at HR2 e32
    clear c1 c2 c3 hn hR h hf hok hend hfm hsz c1' c4 h1 g1 g2 wm wn hsz4 hp0 hnx hv1 hv2 hv3 hv4 hp1 hp2 hp3 hp4
    go_enter Try.func45, Try.ntmps45
    go_upto_region 1 with fail
    obtain ⟨b, hb⟩ : ∃ b, b = w.heap.size := ⟨_, rfl⟩
    obtain ⟨W0, hW0⟩ : ∃ W, W = w.alloc (.cells #[.int .i64 0, .int .i64 0, .int .i64 0, .int .i64 0, .int .i64 0, .int .i64 0, .int .i64 0] 54) := ⟨_, rfl⟩
    rw [← hW0, ← hb] at H0 ⊢
    clear hW0 hb
    go_wp2_with (first
        | (go_at_call 48; (with_reducible refine (CA.out _ H0.out.r.rd).mono ?_); rintro e w1 ⟨rfl, rd1, o1⟩; have H1 := Lib.hid (H0.out.read rd1 o1 HA.out.1); clear rd1 o1)
        | (go_at_call 48; (with_reducible refine (CB.out _ H1.out.r.rd).mono ?_); rintro e w2 ⟨rfl, rd2, o2⟩; have H2 := Lib.hid (H1.out.read rd2 o2 HA.out.2); obtain ⟨x0, x1, x2, x3, x4, x5, x6⟩ := H2.out.bx.cells; obtain ⟨y0, y1, y2, y3, y4, y5, y6⟩ := H2.out.bx.frs; have bd := H2.out.r.rd.c2; have K0 := Lib.hid (H2.out.box (gl : Int) 0 0 16384 0 0 16384); clear rd2 o2)
        | (go_at_call 46; (with_reducible refine (D1.out _ K0.out.rd).mono ?_); rintro e t1 ⟨rfl, rd1, o1⟩; have L1 := Lib.hid (K0.out.read rd1 o1 HP.out.1); obtain ⟨_, c11, c12, c13, c14, c15, c16⟩ := L1.out.bx.cells; have fr1 := L1.out.bx.fr 1; have K1 := Lib.hid (L1.out.put 1 (.int .i64 v1) (L1.out.bx.set1 v1)); clear rd1 o1)
        | (go_at_call 46; (with_reducible refine (D2.out _ K1.out.rd).mono ?_); rintro e t2 ⟨rfl, rd2, o2⟩; have L2 := Lib.hid (K1.out.read rd2 o2 HP.out.2.1); obtain ⟨_, c21, c22, c23, c24, c25, c26⟩ := L2.out.bx.cells; have fr2 := L2.out.bx.fr 2; have K2 := Lib.hid (L2.out.put 2 (.int .i64 v2) (L2.out.bx.set2 v2)); clear rd2 o2)
        | (go_at_call 46; (with_reducible refine (D3.out _ K2.out.rd).mono ?_); rintro e t3 ⟨rfl, rd3, o3⟩; have L3 := Lib.hid (K2.out.read rd3 o3 HP.out.2.2.1); obtain ⟨_, c31, c32, c33, c34, c35, c36⟩ := L3.out.bx.cells; have fr3 := L3.out.bx.fr 3; have K3 := Lib.hid (L3.out.put 3 (.int .i64 v3) (L3.out.bx.set3 v3)); clear rd3 o3)
        | (go_at_call 46; (with_reducible refine (D4.out _ K3.out.rd).mono ?_); rintro e t4 ⟨rfl, rd4, o4⟩; have L4 := Lib.hid (K3.out.read rd4 o4 HP.out.2.2.2); obtain ⟨_, c41, c42, c43, c44, c45, c46⟩ := L4.out.bx.cells; have fr4 := L4.out.bx.fr 6; have K4 := Lib.hid (L4.out.put 6 (.int .i64 v4) (L4.out.bx.set6 v4)); have H5 := Lib.hid (H2.out.two (Nat.le_refl _) ((Below.refl _ _).alloc (Nat.le_refl _) _) K4.out); obtain ⟨x0, x1, x2, x3, x4, x5, x6⟩ := H5.out.bx.cells; obtain ⟨y0, y1, y2, y3, y4, y5, y6⟩ := H5.out.bx.frs; obtain ⟨u0, u1, u2, u3, u4, u5, u6⟩ := K4.out.bx.cells; have bd := K4.out.rd.c2; have nb := H2.out.bx.lt; have nb1 : ¬ b = w2.heap.size := (by omega); have nb2 : ¬ w2.heap.size = b := (by omega); clear nb; clear rd4 o4))
    have HF := H5.out.store (gl : Int) v1 v2 v3 0 0 v4
    refine bodyPost_ret (ret_part rfl rfl rfl rfl HF.bx) rfl ⟨((gl : Int), v1, v2, v3, 0, 0, v4), nx, by rw [HR2.out]; rfl, HF.r.onl, fun _ => ?_⟩
    rw [HR2.out]
    exact ⟨rfl, rfl, HF.r.rd, HF.r.le⟩
set_option maxHeartbeats 8000000 in
set_option maxRecDepth 100000 in
theorem part_1_128 (g : Nat) (s : ByteArray) (a : Nat) (G : Int) (w : World) (h : Rd 90 w g s a false) (hs : s.size ≤ 1000000000) (ha : a ≤ s.size) (c1 : ¬ s.size < a + 4) (c2 : okB (n2 s.data.toList a)) (c3 : ¬ G ≤ (n2 s.data.toList (a + 2) : Int)) (h1 : n2 s.data.toList a % 2 = 1) (g1 : n2 s.data.toList a / 8 % 2 = 0) (g2 : n2 s.data.toList a / 64 % 2 = 0) (g3 : n2 s.data.toList a / 128 % 2 = 1) :
    Calls Try.prog 45 #[.pointer (some ⟨g, 0, none⟩), .int .i64 G] w (RdP 90 (prt s.data.toList G a) g s w) := by
  have HS := Lib.hid hs
  have H0 := Lib.hid (QpS.start h ha)
  obtain ⟨R, hR⟩ : ∃ R, R = prt s.data.toList G a := ⟨_, rfl⟩
  rw [← hR]
  have HE := Lib.hid (show ∀ x r W (q : Prt) n, R = (x, r) → x ≠ 0 → Onl g w W → RdP 90 R g s w (.returned (.tuple #[.agg #[.int .i64 q.1, .int .i64 q.2.1, .int .i64 q.2.2.1, .int .i64 q.2.2.2.1, .int .i64 q.2.2.2.2.1, .int .i64 q.2.2.2.2.2.1, .int .i64 q.2.2.2.2.2.2], .bool n, .int .i64 x])) W from fun x r W q n h1 h2 h3 => rdP_err h1 h2 h3 q n)
  have hsz := size_list s
  have c1' : ¬ s.data.toList.length < a + 4 := by rw [hsz]; exact c1
  have CA := Lib.hid (fun W (h : Rd 90 W g s a false) => num2_in g s a W h HS.out (by omega))
  have CB := Lib.hid (fun W (h : Rd 90 W g s (a + 2) false) => num2_in g s (a + 2) W h HS.out (by omega))
  have hf := n2_lt s.data.toList a
  have hgl := n2_lt s.data.toList (a + 2)
  have hok := fun h2 h3 => prt_ok (G := G) c1' h2 h3
  have hend := fun h2 h3 => prt_end (G := G) c1' h2 h3
  have hfm := fun h2 => prt_form (G := G) c1' h2
  obtain ⟨f, hff⟩ : ∃ f, f = n2 s.data.toList a := ⟨_, rfl⟩
  obtain ⟨gl, hgg⟩ : ∃ f, f = n2 s.data.toList (a + 2) := ⟨_, rfl⟩
  rw [← hff, ← hgg] at hok hend hfm
  rw [← hff] at c2 h1 g1 g2 g3
  rw [← hgg] at c3
  rw [← hff] at CA hf
  rw [← hgg] at CB hgl
  have HA := Lib.hid (show a + 2 ≤ s.size ∧ a + 2 + 2 ≤ s.size by omega)
  have hz : IntKind.i64.wrap (gl : Int) = (gl : Int) := i64_in _ (by omega)
  clear hff hgg
  have hn : ¬ (¬ okB f ∨ G ≤ (gl : Int)) := fun h => h.elim (fun h => h c2) c3
  have hok := hok hn
  have hend := hend hn
  obtain ⟨e1, e2, e3, e4, e5⟩ := bits_no f hf c2
  have e6 : decide (G ≤ (gl : Int)) = false := decide_eq_false c3
  have e7 : ((f : Int) % 2 == 1) = true := by rw [show (f : Int) % 2 = 1 by omega]; rfl
  have e8 := bit_0 f 8 g1
  have e9 := bit_0 f 64 g2
  have e10 := bit_1 f 128 g3
  have e8 : ((f : Int) / 8 % 2 == 1) = false := e8
  have e9 : ((f : Int) / 64 % 2 == 1) = false := e9
  have e10 : ((f : Int) / 128 % 2 == 1) = true := e10
  have wm : mvw f = 4 := by unfold mvw; rw [if_pos h1]
  have wn : nuw f = 8 := by unfold nuw; rw [if_neg (show ¬ f / 8 % 2 = 1 by omega), if_neg (show ¬ f / 64 % 2 = 1 by omega), if_pos g3]
  rw [wm, wn] at hok hend
  by_cases c4 : s.size < a + 16
  · have HX := Lib.hid (fun W q ho => HE.out 3 _ W q false (hR.trans (hend (by rw [hsz]; omega))) (by decide) ho)
    have HC4 := Lib.hid (show s.size < a + 2 + 2 + 12 by omega)
    clear c1 c2 c3 hn hR h hf hok hend hfm hsz c1' c4 h1 g1 g2 g3 wm wn
    go_enter Try.func45, Try.ntmps45
    go_upto_region 1 with fail
    obtain ⟨b, hb⟩ : ∃ b, b = w.heap.size := ⟨_, rfl⟩
    obtain ⟨W0, hW0⟩ : ∃ W, W = w.alloc (.cells #[.int .i64 0, .int .i64 0, .int .i64 0, .int .i64 0, .int .i64 0, .int .i64 0, .int .i64 0] 54) := ⟨_, rfl⟩
    rw [← hW0, ← hb] at H0 ⊢
    clear hW0 hb
    go_wp2_with (first
        | (go_at_call 48; (with_reducible refine (CA.out _ H0.out.r.rd).mono ?_); rintro e w1 ⟨rfl, rd1, o1⟩; have H1 := Lib.hid (H0.out.read rd1 o1 HA.out.1); clear rd1 o1)
        | (go_at_call 48; (with_reducible refine (CB.out _ H1.out.r.rd).mono ?_); rintro e w2 ⟨rfl, rd2, o2⟩; have H2 := Lib.hid (H1.out.read rd2 o2 HA.out.2); obtain ⟨x0, x1, x2, x3, x4, x5, x6⟩ := H2.out.bx.cells; obtain ⟨y0, y1, y2, y3, y4, y5, y6⟩ := H2.out.bx.frs; have bd := H2.out.r.rd.c2; have K0 := Lib.hid (H2.out.box (gl : Int) 0 0 16384 0 0 16384); clear rd2 o2)
        | (go_at_call 46; (with_reducible refine (rri16_any _ _ _ _ _ K0.out.rd HS.out K0.out.le).mono ?_); rintro e t1 ⟨v1, a1, f1, rfl, r1, n1, q1, rd1, o1⟩; have N1 := Lib.hid n1; have L1 := Lib.hid (K0.out.read rd1 o1 n1.le); obtain ⟨_, c11, c12, c13, c14, c15, c16⟩ := L1.out.bx.cells; have fr1 := L1.out.bx.fr 1; have K1 := Lib.hid (L1.out.put 1 (.int .i64 v1) (L1.out.bx.set1 v1)); clear r1 n1 q1 rd1 o1)
        | (go_at_call 46; (with_reducible refine (rri16_any _ _ _ _ _ K1.out.rd HS.out K1.out.le).mono ?_); rintro e t2 ⟨v2, a2, f2, rfl, r2, n2, q2, rd2, o2⟩; have N2 := Lib.hid n2; have L2 := Lib.hid (K1.out.read rd2 o2 n2.le); obtain ⟨_, c21, c22, c23, c24, c25, c26⟩ := L2.out.bx.cells; have fr2 := L2.out.bx.fr 2; have K2 := Lib.hid (L2.out.put 2 (.int .i64 v2) (L2.out.bx.set2 v2)); clear r2 n2 q2 rd2 o2)
        | (go_at_call 46; (with_reducible refine (rri16_any _ _ _ _ _ K2.out.rd HS.out K2.out.le).mono ?_); rintro e t3 ⟨v3, a3, f3, rfl, r3, n3, q3, rd3, o3⟩; have N3 := Lib.hid n3; have L3 := Lib.hid (K2.out.read rd3 o3 n3.le); obtain ⟨_, c31, c32, c33, c34, c35, c36⟩ := L3.out.bx.cells; have fr3 := L3.out.bx.fr 3; have K3 := Lib.hid (L3.out.put 3 (.int .i64 v3) (L3.out.bx.set3 v3)); clear r3 n3 q3 rd3 o3)
        | (go_at_call 46; (with_reducible refine (rri16_any _ _ _ _ _ K3.out.rd HS.out K3.out.le).mono ?_); rintro e t4 ⟨v4, a4, f4, rfl, r4, n4, q4, rd4, o4⟩; have N4 := Lib.hid n4; have L4 := Lib.hid (K3.out.read rd4 o4 n4.le); obtain ⟨_, c41, c42, c43, c44, c45, c46⟩ := L4.out.bx.cells; have fr4 := L4.out.bx.fr 4; have K4 := Lib.hid (L4.out.put 4 (.int .i64 v4) (L4.out.bx.set4 v4)); clear r4 n4 q4 rd4 o4)
        | (go_at_call 46; (with_reducible refine (rri16_any _ _ _ _ _ K4.out.rd HS.out K4.out.le).mono ?_); rintro e t5 ⟨v5, a5, f5, rfl, r5, n5, q5, rd5, o5⟩; have N5 := Lib.hid n5; have L5 := Lib.hid (K4.out.read rd5 o5 n5.le); obtain ⟨_, c51, c52, c53, c54, c55, c56⟩ := L5.out.bx.cells; have fr5 := L5.out.bx.fr 5; have K5 := Lib.hid (L5.out.put 5 (.int .i64 v5) (L5.out.bx.set5 v5)); clear r5 n5 q5 rd5 o5)
        | (go_at_call 46; (with_reducible refine (rri16_any _ _ _ _ _ K5.out.rd HS.out K5.out.le).mono ?_); rintro e t6 ⟨v6, a6, f6, rfl, r6, n6, q6, rd6, o6⟩; have N6 := Lib.hid n6; have NB := (((((N1.out.trans N2.out).trans N3.out).trans N4.out).trans N5.out).trans N6.out).bad (by have := HC4.out; omega); subst NB; have L6 := Lib.hid (K5.out.read rd6 o6 n6.le); obtain ⟨_, c61, c62, c63, c64, c65, c66⟩ := L6.out.bx.cells; have fr6 := L6.out.bx.fr 6; have K6 := Lib.hid (L6.out.put 6 (.int .i64 v6) (L6.out.bx.set6 v6)); have H5 := Lib.hid (H2.out.two (Nat.le_refl _) ((Below.refl _ _).alloc (Nat.le_refl _) _) K6.out); obtain ⟨x0, x1, x2, x3, x4, x5, x6⟩ := H5.out.bx.cells; obtain ⟨y0, y1, y2, y3, y4, y5, y6⟩ := H5.out.bx.frs; obtain ⟨u0, u1, u2, u3, u4, u5, u6⟩ := K6.out.bx.cells; have bd := K6.out.rd.c2; have nb := H2.out.bx.lt; have nb1 : ¬ b = w2.heap.size := (by omega); have nb2 : ¬ w2.heap.size = b := (by omega); clear nb; clear r6 n6 q6 rd6 o6))
    have HF := H5.out.store 0 0 0 0 0 0 0
    exact bodyPost_ret (ret_part rfl rfl rfl rfl HF.bx) rfl (HX.out _ (0, 0, 0, 0, 0, 0, 0) HF.r.onl)
  · have hsz4 : a + 16 ≤ s.size := by omega
    obtain ⟨v1, hv1⟩ : ∃ v, v = s2 s.data.toList (a + 4) := ⟨_, rfl⟩
    obtain ⟨v2, hv2⟩ : ∃ v, v = s2 s.data.toList (a + 6) := ⟨_, rfl⟩
    obtain ⟨v3, hv3⟩ : ∃ v, v = s2 s.data.toList (a + 8) := ⟨_, rfl⟩
    obtain ⟨v4, hv4⟩ : ∃ v, v = s2 s.data.toList (a + 10) := ⟨_, rfl⟩
    obtain ⟨v5, hv5⟩ : ∃ v, v = s2 s.data.toList (a + 12) := ⟨_, rfl⟩
    obtain ⟨v6, hv6⟩ : ∃ v, v = s2 s.data.toList (a + 14) := ⟨_, rfl⟩
    obtain ⟨p1, hp1⟩ : ∃ p, p = a + 6 := ⟨_, rfl⟩
    obtain ⟨p2, hp2⟩ : ∃ p, p = a + 8 := ⟨_, rfl⟩
    obtain ⟨p3, hp3⟩ : ∃ p, p = a + 10 := ⟨_, rfl⟩
    obtain ⟨p4, hp4⟩ : ∃ p, p = a + 12 := ⟨_, rfl⟩
    obtain ⟨p5, hp5⟩ : ∃ p, p = a + 14 := ⟨_, rfl⟩
    obtain ⟨p6, hp6⟩ : ∃ p, p = a + 16 := ⟨_, rfl⟩
    have hp0 : a + 2 + 2 = a + 4 := rfl
    have D1 := Lib.hid (show ∀ W, Rd 90 W g s (a + 2 + 2) false → Calls Try.prog 46 #[.pointer (some ⟨g, 0, none⟩)] W (fun e w' => e = .returned (.int .i64 v1) ∧ Rd 90 w' g s p1 false ∧ Onl g W w') from fun W h => by rw [hv1]; exact int2_in g s _ _ W (by exact h) HS.out (by omega) (by omega))
    have D2 := Lib.hid (show ∀ W, Rd 90 W g s (p1) false → Calls Try.prog 46 #[.pointer (some ⟨g, 0, none⟩)] W (fun e w' => e = .returned (.int .i64 v2) ∧ Rd 90 w' g s p2 false ∧ Onl g W w') from fun W h => by rw [hv2]; exact int2_in g s _ _ W (by rw [← hp1]; exact h) HS.out (by omega) (by omega))
    have D3 := Lib.hid (show ∀ W, Rd 90 W g s (p2) false → Calls Try.prog 46 #[.pointer (some ⟨g, 0, none⟩)] W (fun e w' => e = .returned (.int .i64 v3) ∧ Rd 90 w' g s p3 false ∧ Onl g W w') from fun W h => by rw [hv3]; exact int2_in g s _ _ W (by rw [← hp2]; exact h) HS.out (by omega) (by omega))
    have D4 := Lib.hid (show ∀ W, Rd 90 W g s (p3) false → Calls Try.prog 46 #[.pointer (some ⟨g, 0, none⟩)] W (fun e w' => e = .returned (.int .i64 v4) ∧ Rd 90 w' g s p4 false ∧ Onl g W w') from fun W h => by rw [hv4]; exact int2_in g s _ _ W (by rw [← hp3]; exact h) HS.out (by omega) (by omega))
    have D5 := Lib.hid (show ∀ W, Rd 90 W g s (p4) false → Calls Try.prog 46 #[.pointer (some ⟨g, 0, none⟩)] W (fun e w' => e = .returned (.int .i64 v5) ∧ Rd 90 w' g s p5 false ∧ Onl g W w') from fun W h => by rw [hv5]; exact int2_in g s _ _ W (by rw [← hp4]; exact h) HS.out (by omega) (by omega))
    have D6 := Lib.hid (show ∀ W, Rd 90 W g s (p5) false → Calls Try.prog 46 #[.pointer (some ⟨g, 0, none⟩)] W (fun e w' => e = .returned (.int .i64 v6) ∧ Rd 90 w' g s p6 false ∧ Onl g W w') from fun W h => by rw [hv6]; exact int2_in g s _ _ W (by rw [← hp5]; exact h) HS.out (by omega) (by omega))
    have HP := Lib.hid (show p1 ≤ s.size ∧ p2 ≤ s.size ∧ p3 ≤ s.size ∧ p4 ≤ s.size ∧ p5 ≤ s.size ∧ p6 ≤ s.size from ⟨by omega, by omega, by omega, by omega, by omega, by omega⟩)
    have HR2 := Lib.hid (show R = (0, ((gl : Int), v1, v2, v3, v4, v5, v6), decide (f / 32 % 2 = 1), p6) from by
      rw [hR, hok (by rw [hsz]; omega)]
      have k1 : mvX s.data.toList f (a + 4) = v1 := by unfold mvX; rw [if_pos h1, hv1]
      have k2 : mvY s.data.toList f (a + 4) = v2 := by unfold mvY; rw [if_pos h1, hv2]
      have k3 : nu4 s.data.toList f (a + 4 + 4) = (v3, v4, v5, v6) := by unfold nu4; rw [if_neg (show ¬ f / 8 % 2 = 1 by omega), if_neg (show ¬ f / 64 % 2 = 1 by omega), if_pos g3, hv3, hv4, hv5, hv6]
      have k4 : a + 4 + 4 + 8 = p6 := by omega
      rw [k1, k2, k3, k4])
    have e32 : ((f : Int) / 32 % 2 == 1) = decide (f / 32 % 2 = 1) := by
      by_cases h : f / 32 % 2 = 1
      · rw [decide_eq_true h]; exact bit_1 f 32 h
      · rw [decide_eq_false h]; exact bit_0 f 32 (by omega)
    obtain ⟨nx, hnx⟩ : ∃ n, n = decide (f / 32 % 2 = 1) := ⟨_, rfl⟩
    rw [← hnx] at HR2 e32
    clear c1 c2 c3 hn hR h hf hok hend hfm hsz c1' c4 h1 g1 g2 g3 wm wn hsz4 hp0 hnx hv1 hv2 hv3 hv4 hv5 hv6 hp1 hp2 hp3 hp4 hp5 hp6
    go_enter Try.func45, Try.ntmps45
    go_upto_region 1 with fail
    obtain ⟨b, hb⟩ : ∃ b, b = w.heap.size := ⟨_, rfl⟩
    obtain ⟨W0, hW0⟩ : ∃ W, W = w.alloc (.cells #[.int .i64 0, .int .i64 0, .int .i64 0, .int .i64 0, .int .i64 0, .int .i64 0, .int .i64 0] 54) := ⟨_, rfl⟩
    rw [← hW0, ← hb] at H0 ⊢
    clear hW0 hb
    go_wp2_with (first
        | (go_at_call 48; (with_reducible refine (CA.out _ H0.out.r.rd).mono ?_); rintro e w1 ⟨rfl, rd1, o1⟩; have H1 := Lib.hid (H0.out.read rd1 o1 HA.out.1); clear rd1 o1)
        | (go_at_call 48; (with_reducible refine (CB.out _ H1.out.r.rd).mono ?_); rintro e w2 ⟨rfl, rd2, o2⟩; have H2 := Lib.hid (H1.out.read rd2 o2 HA.out.2); obtain ⟨x0, x1, x2, x3, x4, x5, x6⟩ := H2.out.bx.cells; obtain ⟨y0, y1, y2, y3, y4, y5, y6⟩ := H2.out.bx.frs; have bd := H2.out.r.rd.c2; have K0 := Lib.hid (H2.out.box (gl : Int) 0 0 16384 0 0 16384); clear rd2 o2)
        | (go_at_call 46; (with_reducible refine (D1.out _ K0.out.rd).mono ?_); rintro e t1 ⟨rfl, rd1, o1⟩; have L1 := Lib.hid (K0.out.read rd1 o1 HP.out.1); obtain ⟨_, c11, c12, c13, c14, c15, c16⟩ := L1.out.bx.cells; have fr1 := L1.out.bx.fr 1; have K1 := Lib.hid (L1.out.put 1 (.int .i64 v1) (L1.out.bx.set1 v1)); clear rd1 o1)
        | (go_at_call 46; (with_reducible refine (D2.out _ K1.out.rd).mono ?_); rintro e t2 ⟨rfl, rd2, o2⟩; have L2 := Lib.hid (K1.out.read rd2 o2 HP.out.2.1); obtain ⟨_, c21, c22, c23, c24, c25, c26⟩ := L2.out.bx.cells; have fr2 := L2.out.bx.fr 2; have K2 := Lib.hid (L2.out.put 2 (.int .i64 v2) (L2.out.bx.set2 v2)); clear rd2 o2)
        | (go_at_call 46; (with_reducible refine (D3.out _ K2.out.rd).mono ?_); rintro e t3 ⟨rfl, rd3, o3⟩; have L3 := Lib.hid (K2.out.read rd3 o3 HP.out.2.2.1); obtain ⟨_, c31, c32, c33, c34, c35, c36⟩ := L3.out.bx.cells; have fr3 := L3.out.bx.fr 3; have K3 := Lib.hid (L3.out.put 3 (.int .i64 v3) (L3.out.bx.set3 v3)); clear rd3 o3)
        | (go_at_call 46; (with_reducible refine (D4.out _ K3.out.rd).mono ?_); rintro e t4 ⟨rfl, rd4, o4⟩; have L4 := Lib.hid (K3.out.read rd4 o4 HP.out.2.2.2.1); obtain ⟨_, c41, c42, c43, c44, c45, c46⟩ := L4.out.bx.cells; have fr4 := L4.out.bx.fr 4; have K4 := Lib.hid (L4.out.put 4 (.int .i64 v4) (L4.out.bx.set4 v4)); clear rd4 o4)
        | (go_at_call 46; (with_reducible refine (D5.out _ K4.out.rd).mono ?_); rintro e t5 ⟨rfl, rd5, o5⟩; have L5 := Lib.hid (K4.out.read rd5 o5 HP.out.2.2.2.2.1); obtain ⟨_, c51, c52, c53, c54, c55, c56⟩ := L5.out.bx.cells; have fr5 := L5.out.bx.fr 5; have K5 := Lib.hid (L5.out.put 5 (.int .i64 v5) (L5.out.bx.set5 v5)); clear rd5 o5)
        | (go_at_call 46; (with_reducible refine (D6.out _ K5.out.rd).mono ?_); rintro e t6 ⟨rfl, rd6, o6⟩; have L6 := Lib.hid (K5.out.read rd6 o6 HP.out.2.2.2.2.2); obtain ⟨_, c61, c62, c63, c64, c65, c66⟩ := L6.out.bx.cells; have fr6 := L6.out.bx.fr 6; have K6 := Lib.hid (L6.out.put 6 (.int .i64 v6) (L6.out.bx.set6 v6)); have H5 := Lib.hid (H2.out.two (Nat.le_refl _) ((Below.refl _ _).alloc (Nat.le_refl _) _) K6.out); obtain ⟨x0, x1, x2, x3, x4, x5, x6⟩ := H5.out.bx.cells; obtain ⟨y0, y1, y2, y3, y4, y5, y6⟩ := H5.out.bx.frs; obtain ⟨u0, u1, u2, u3, u4, u5, u6⟩ := K6.out.bx.cells; have bd := K6.out.rd.c2; have nb := H2.out.bx.lt; have nb1 : ¬ b = w2.heap.size := (by omega); have nb2 : ¬ w2.heap.size = b := (by omega); clear nb; clear rd6 o6))
    have HF := H5.out.store (gl : Int) v1 v2 v3 v4 v5 v6
    refine bodyPost_ret (ret_part rfl rfl rfl rfl HF.bx) rfl ⟨((gl : Int), v1, v2, v3, v4, v5, v6), nx, by rw [HR2.out]; rfl, HF.r.onl, fun _ => ?_⟩
    rw [HR2.out]
    exact ⟨rfl, rfl, HF.r.rd, HF.r.le⟩
set_option maxHeartbeats 8000000 in
set_option maxRecDepth 100000 in
theorem part_1_no (g : Nat) (s : ByteArray) (a : Nat) (G : Int) (w : World) (h : Rd 90 w g s a false) (hs : s.size ≤ 1000000000) (ha : a ≤ s.size) (c1 : ¬ s.size < a + 4) (c2 : okB (n2 s.data.toList a)) (c3 : ¬ G ≤ (n2 s.data.toList (a + 2) : Int)) (h1 : n2 s.data.toList a % 2 = 1) (g1 : n2 s.data.toList a / 8 % 2 = 0) (g2 : n2 s.data.toList a / 64 % 2 = 0) (g3 : n2 s.data.toList a / 128 % 2 = 0) :
    Calls Try.prog 45 #[.pointer (some ⟨g, 0, none⟩), .int .i64 G] w (RdP 90 (prt s.data.toList G a) g s w) := by
  have HS := Lib.hid hs
  have H0 := Lib.hid (QpS.start h ha)
  obtain ⟨R, hR⟩ : ∃ R, R = prt s.data.toList G a := ⟨_, rfl⟩
  rw [← hR]
  have HE := Lib.hid (show ∀ x r W (q : Prt) n, R = (x, r) → x ≠ 0 → Onl g w W → RdP 90 R g s w (.returned (.tuple #[.agg #[.int .i64 q.1, .int .i64 q.2.1, .int .i64 q.2.2.1, .int .i64 q.2.2.2.1, .int .i64 q.2.2.2.2.1, .int .i64 q.2.2.2.2.2.1, .int .i64 q.2.2.2.2.2.2], .bool n, .int .i64 x])) W from fun x r W q n h1 h2 h3 => rdP_err h1 h2 h3 q n)
  have hsz := size_list s
  have c1' : ¬ s.data.toList.length < a + 4 := by rw [hsz]; exact c1
  have CA := Lib.hid (fun W (h : Rd 90 W g s a false) => num2_in g s a W h HS.out (by omega))
  have CB := Lib.hid (fun W (h : Rd 90 W g s (a + 2) false) => num2_in g s (a + 2) W h HS.out (by omega))
  have hf := n2_lt s.data.toList a
  have hgl := n2_lt s.data.toList (a + 2)
  have hok := fun h2 h3 => prt_ok (G := G) c1' h2 h3
  have hend := fun h2 h3 => prt_end (G := G) c1' h2 h3
  have hfm := fun h2 => prt_form (G := G) c1' h2
  obtain ⟨f, hff⟩ : ∃ f, f = n2 s.data.toList a := ⟨_, rfl⟩
  obtain ⟨gl, hgg⟩ : ∃ f, f = n2 s.data.toList (a + 2) := ⟨_, rfl⟩
  rw [← hff, ← hgg] at hok hend hfm
  rw [← hff] at c2 h1 g1 g2 g3
  rw [← hgg] at c3
  rw [← hff] at CA hf
  rw [← hgg] at CB hgl
  have HA := Lib.hid (show a + 2 ≤ s.size ∧ a + 2 + 2 ≤ s.size by omega)
  have hz : IntKind.i64.wrap (gl : Int) = (gl : Int) := i64_in _ (by omega)
  clear hff hgg
  have hn : ¬ (¬ okB f ∨ G ≤ (gl : Int)) := fun h => h.elim (fun h => h c2) c3
  have hok := hok hn
  have hend := hend hn
  obtain ⟨e1, e2, e3, e4, e5⟩ := bits_no f hf c2
  have e6 : decide (G ≤ (gl : Int)) = false := decide_eq_false c3
  have e7 : ((f : Int) % 2 == 1) = true := by rw [show (f : Int) % 2 = 1 by omega]; rfl
  have e8 := bit_0 f 8 g1
  have e9 := bit_0 f 64 g2
  have e10 := bit_0 f 128 g3
  have e8 : ((f : Int) / 8 % 2 == 1) = false := e8
  have e9 : ((f : Int) / 64 % 2 == 1) = false := e9
  have e10 : ((f : Int) / 128 % 2 == 1) = false := e10
  have wm : mvw f = 4 := by unfold mvw; rw [if_pos h1]
  have wn : nuw f = 0 := by unfold nuw; rw [if_neg (show ¬ f / 8 % 2 = 1 by omega), if_neg (show ¬ f / 64 % 2 = 1 by omega), if_neg (show ¬ f / 128 % 2 = 1 by omega)]
  rw [wm, wn] at hok hend
  by_cases c4 : s.size < a + 8
  · have HX := Lib.hid (fun W q ho => HE.out 3 _ W q false (hR.trans (hend (by rw [hsz]; omega))) (by decide) ho)
    have HC4 := Lib.hid (show s.size < a + 2 + 2 + 4 by omega)
    clear c1 c2 c3 hn hR h hf hok hend hfm hsz c1' c4 h1 g1 g2 g3 wm wn
    go_enter Try.func45, Try.ntmps45
    go_upto_region 1 with fail
    obtain ⟨b, hb⟩ : ∃ b, b = w.heap.size := ⟨_, rfl⟩
    obtain ⟨W0, hW0⟩ : ∃ W, W = w.alloc (.cells #[.int .i64 0, .int .i64 0, .int .i64 0, .int .i64 0, .int .i64 0, .int .i64 0, .int .i64 0] 54) := ⟨_, rfl⟩
    rw [← hW0, ← hb] at H0 ⊢
    clear hW0 hb
    go_wp2_with (first
        | (go_at_call 48; (with_reducible refine (CA.out _ H0.out.r.rd).mono ?_); rintro e w1 ⟨rfl, rd1, o1⟩; have H1 := Lib.hid (H0.out.read rd1 o1 HA.out.1); clear rd1 o1)
        | (go_at_call 48; (with_reducible refine (CB.out _ H1.out.r.rd).mono ?_); rintro e w2 ⟨rfl, rd2, o2⟩; have H2 := Lib.hid (H1.out.read rd2 o2 HA.out.2); obtain ⟨x0, x1, x2, x3, x4, x5, x6⟩ := H2.out.bx.cells; obtain ⟨y0, y1, y2, y3, y4, y5, y6⟩ := H2.out.bx.frs; have bd := H2.out.r.rd.c2; have K0 := Lib.hid (H2.out.box (gl : Int) 0 0 16384 0 0 16384); clear rd2 o2)
        | (go_at_call 46; (with_reducible refine (rri16_any _ _ _ _ _ K0.out.rd HS.out K0.out.le).mono ?_); rintro e t1 ⟨v1, a1, f1, rfl, r1, n1, q1, rd1, o1⟩; have N1 := Lib.hid n1; have L1 := Lib.hid (K0.out.read rd1 o1 n1.le); obtain ⟨_, c11, c12, c13, c14, c15, c16⟩ := L1.out.bx.cells; have fr1 := L1.out.bx.fr 1; have K1 := Lib.hid (L1.out.put 1 (.int .i64 v1) (L1.out.bx.set1 v1)); clear r1 n1 q1 rd1 o1)
        | (go_at_call 46; (with_reducible refine (rri16_any _ _ _ _ _ K1.out.rd HS.out K1.out.le).mono ?_); rintro e t2 ⟨v2, a2, f2, rfl, r2, n2, q2, rd2, o2⟩; have N2 := Lib.hid n2; have NB := (N1.out.trans N2.out).bad (by have := HC4.out; omega); subst NB; have L2 := Lib.hid (K1.out.read rd2 o2 n2.le); obtain ⟨_, c21, c22, c23, c24, c25, c26⟩ := L2.out.bx.cells; have fr2 := L2.out.bx.fr 2; have K2 := Lib.hid (L2.out.put 2 (.int .i64 v2) (L2.out.bx.set2 v2)); have H5 := Lib.hid (H2.out.two (Nat.le_refl _) ((Below.refl _ _).alloc (Nat.le_refl _) _) K2.out); obtain ⟨x0, x1, x2, x3, x4, x5, x6⟩ := H5.out.bx.cells; obtain ⟨y0, y1, y2, y3, y4, y5, y6⟩ := H5.out.bx.frs; obtain ⟨u0, u1, u2, u3, u4, u5, u6⟩ := K2.out.bx.cells; have bd := K2.out.rd.c2; have nb := H2.out.bx.lt; have nb1 : ¬ b = w2.heap.size := (by omega); have nb2 : ¬ w2.heap.size = b := (by omega); clear nb; clear r2 n2 q2 rd2 o2))
    have HF := H5.out.store 0 0 0 0 0 0 0
    exact bodyPost_ret (ret_part rfl rfl rfl rfl HF.bx) rfl (HX.out _ (0, 0, 0, 0, 0, 0, 0) HF.r.onl)
  · have hsz4 : a + 8 ≤ s.size := by omega
    obtain ⟨v1, hv1⟩ : ∃ v, v = s2 s.data.toList (a + 4) := ⟨_, rfl⟩
    obtain ⟨v2, hv2⟩ : ∃ v, v = s2 s.data.toList (a + 6) := ⟨_, rfl⟩
    obtain ⟨p1, hp1⟩ : ∃ p, p = a + 6 := ⟨_, rfl⟩
    obtain ⟨p2, hp2⟩ : ∃ p, p = a + 8 := ⟨_, rfl⟩
    have hp0 : a + 2 + 2 = a + 4 := rfl
    have D1 := Lib.hid (show ∀ W, Rd 90 W g s (a + 2 + 2) false → Calls Try.prog 46 #[.pointer (some ⟨g, 0, none⟩)] W (fun e w' => e = .returned (.int .i64 v1) ∧ Rd 90 w' g s p1 false ∧ Onl g W w') from fun W h => by rw [hv1]; exact int2_in g s _ _ W (by exact h) HS.out (by omega) (by omega))
    have D2 := Lib.hid (show ∀ W, Rd 90 W g s (p1) false → Calls Try.prog 46 #[.pointer (some ⟨g, 0, none⟩)] W (fun e w' => e = .returned (.int .i64 v2) ∧ Rd 90 w' g s p2 false ∧ Onl g W w') from fun W h => by rw [hv2]; exact int2_in g s _ _ W (by rw [← hp1]; exact h) HS.out (by omega) (by omega))
    have HP := Lib.hid (show p1 ≤ s.size ∧ p2 ≤ s.size from ⟨by omega, by omega⟩)
    have HR2 := Lib.hid (show R = (0, ((gl : Int), v1, v2, 16384, 0, 0, 16384), decide (f / 32 % 2 = 1), p2) from by
      rw [hR, hok (by rw [hsz]; omega)]
      have k1 : mvX s.data.toList f (a + 4) = v1 := by unfold mvX; rw [if_pos h1, hv1]
      have k2 : mvY s.data.toList f (a + 4) = v2 := by unfold mvY; rw [if_pos h1, hv2]
      have k3 : nu4 s.data.toList f (a + 4 + 4) = (16384, 0, 0, 16384) := by unfold nu4; rw [if_neg (show ¬ f / 8 % 2 = 1 by omega), if_neg (show ¬ f / 64 % 2 = 1 by omega), if_neg (show ¬ f / 128 % 2 = 1 by omega)]
      have k4 : a + 4 + 4 + 0 = p2 := by omega
      rw [k1, k2, k3, k4])
    have e32 : ((f : Int) / 32 % 2 == 1) = decide (f / 32 % 2 = 1) := by
      by_cases h : f / 32 % 2 = 1
      · rw [decide_eq_true h]; exact bit_1 f 32 h
      · rw [decide_eq_false h]; exact bit_0 f 32 (by omega)
    obtain ⟨nx, hnx⟩ : ∃ n, n = decide (f / 32 % 2 = 1) := ⟨_, rfl⟩
    rw [← hnx] at HR2 e32
    clear c1 c2 c3 hn hR h hf hok hend hfm hsz c1' c4 h1 g1 g2 g3 wm wn hsz4 hp0 hnx hv1 hv2 hp1 hp2
    go_enter Try.func45, Try.ntmps45
    go_upto_region 1 with fail
    obtain ⟨b, hb⟩ : ∃ b, b = w.heap.size := ⟨_, rfl⟩
    obtain ⟨W0, hW0⟩ : ∃ W, W = w.alloc (.cells #[.int .i64 0, .int .i64 0, .int .i64 0, .int .i64 0, .int .i64 0, .int .i64 0, .int .i64 0] 54) := ⟨_, rfl⟩
    rw [← hW0, ← hb] at H0 ⊢
    clear hW0 hb
    go_wp2_with (first
        | (go_at_call 48; (with_reducible refine (CA.out _ H0.out.r.rd).mono ?_); rintro e w1 ⟨rfl, rd1, o1⟩; have H1 := Lib.hid (H0.out.read rd1 o1 HA.out.1); clear rd1 o1)
        | (go_at_call 48; (with_reducible refine (CB.out _ H1.out.r.rd).mono ?_); rintro e w2 ⟨rfl, rd2, o2⟩; have H2 := Lib.hid (H1.out.read rd2 o2 HA.out.2); obtain ⟨x0, x1, x2, x3, x4, x5, x6⟩ := H2.out.bx.cells; obtain ⟨y0, y1, y2, y3, y4, y5, y6⟩ := H2.out.bx.frs; have bd := H2.out.r.rd.c2; have K0 := Lib.hid (H2.out.box (gl : Int) 0 0 16384 0 0 16384); clear rd2 o2)
        | (go_at_call 46; (with_reducible refine (D1.out _ K0.out.rd).mono ?_); rintro e t1 ⟨rfl, rd1, o1⟩; have L1 := Lib.hid (K0.out.read rd1 o1 HP.out.1); obtain ⟨_, c11, c12, c13, c14, c15, c16⟩ := L1.out.bx.cells; have fr1 := L1.out.bx.fr 1; have K1 := Lib.hid (L1.out.put 1 (.int .i64 v1) (L1.out.bx.set1 v1)); clear rd1 o1)
        | (go_at_call 46; (with_reducible refine (D2.out _ K1.out.rd).mono ?_); rintro e t2 ⟨rfl, rd2, o2⟩; have L2 := Lib.hid (K1.out.read rd2 o2 HP.out.2); obtain ⟨_, c21, c22, c23, c24, c25, c26⟩ := L2.out.bx.cells; have fr2 := L2.out.bx.fr 2; have K2 := Lib.hid (L2.out.put 2 (.int .i64 v2) (L2.out.bx.set2 v2)); have H5 := Lib.hid (H2.out.two (Nat.le_refl _) ((Below.refl _ _).alloc (Nat.le_refl _) _) K2.out); obtain ⟨x0, x1, x2, x3, x4, x5, x6⟩ := H5.out.bx.cells; obtain ⟨y0, y1, y2, y3, y4, y5, y6⟩ := H5.out.bx.frs; obtain ⟨u0, u1, u2, u3, u4, u5, u6⟩ := K2.out.bx.cells; have bd := K2.out.rd.c2; have nb := H2.out.bx.lt; have nb1 : ¬ b = w2.heap.size := (by omega); have nb2 : ¬ w2.heap.size = b := (by omega); clear nb; clear rd2 o2))
    have HF := H5.out.store (gl : Int) v1 v2 16384 0 0 16384
    refine bodyPost_ret (ret_part rfl rfl rfl rfl HF.bx) rfl ⟨((gl : Int), v1, v2, 16384, 0, 0, 16384), nx, by rw [HR2.out]; rfl, HF.r.onl, fun _ => ?_⟩
    rw [HR2.out]
    exact ⟨rfl, rfl, HF.r.rd, HF.r.le⟩
end Go.Proofs.Ytlfnagfcggmeaaa.C
