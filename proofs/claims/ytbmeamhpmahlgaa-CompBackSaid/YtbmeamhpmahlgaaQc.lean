/- Proved here: what readNumbers answers. Condition: a reader of a text of at most a billion bytes, and a part's box. -/
import Derived.Test.YtbmeamhpmahlgaaQb
namespace Go.Proofs.Ytbmeamhpmahlgaa
open Go.RowKit

/-- What readNumbers leaves. -/
def RnP (w : World) (g b : Nat) (s : ByteArray) (a : Nat) (fl : Bool) (p : Prt) (f : Nat) (e : Ending) (w' : World) : Prop :=
  ∃ (q : Int × Int × Int × Int) (a' : Nat) (f' : Bool), e = .returned (.tuple #[]) ∧ NxS s.size a fl (nuw f) a' f' ∧ (f' = false → q = nu4 s.data.toList f a) ∧ RpS 79 w w' g b s a' f' (p.1, p.2.1, p.2.2.1, q)
set_option maxHeartbeats 8000000 in
set_option maxRecDepth 100000 in
theorem readNumbers_any (g b : Nat) (s : ByteArray) (a : Nat) (fl : Bool) (p : Prt) (f : Nat) (w : World) (h : RpS 79 w w g b s a fl p) (hq : p.2.2.2 = (16384, 0, 0, 16384)) (hs : s.size ≤ 1000000000) (hf : f < 65536) :
    Calls Try.prog 63 #[.pointer (some ⟨g, 0, none⟩), .int .u16 (f : Int), .pointer (some ⟨b, 0, none⟩)] w (RnP w g b s a fl p f) := by
  have e1 := and8 f hf
  have e2 := and64 f hf
  have e3 := and128 f hf
  have HS := Lib.hid hs
  have hp : p = (p.1, p.2.1, p.2.2.1, 16384, 0, 0, 16384) := by rw [← hq]
  obtain ⟨p1, p2, p3, p4⟩ := p
  dsimp only at hq hp
  subst hq
  have H0 := Lib.hid h
  have C1 := Lib.hid (rdi16_any g s a fl w h.rd hs h.le)
  by_cases h1 : f / 8 % 2 = 1
  · rw [h1] at e1
    have e1 : bits .and .u16 (f : Int) 8 = 8 := e1
    clear e2
    clear e3
    have HE := Lib.hid (show ∀ (v1 : Int) (a1 : Nat) (f1 : Bool) (W : World), NxS s.size a fl 2 a1 f1 → (f1 = false → v1 = sg16 (n2 s.data.toList a)) → RpS 79 w W g b s a1 f1 (p1, p2, p3, (v1, 0, 0, v1)) → RnP w g b s a fl (p1, p2, p3, 16384, 0, 0, 16384) f (.returned (.tuple #[])) W from fun v1 a1 f1 W k1 q1 kk => by
      refine ⟨_, a1, f1, rfl, ?_, fun e => ?_, kk⟩
      · unfold nuw; rw [if_pos h1]; exact k1
      · obtain ⟨u1, _, y1⟩ := k1.yes e; unfold nu4 s2; rw [if_pos h1]
        rw [q1 e])
    clear h hp hf hs h1
    go_enter Try.func63, Try.ntmps63
    go_wp2_with (first
      | (go_at_call 72; (with_reducible refine C1.out.mono ?_); rintro e w1 ⟨v1, a1, f1, rfl, r1, n1, q1, rd1, o1⟩; have H1 := Lib.hid (H0.out.read rd1 o1 n1.le); have N1 := Lib.hid (And.intro n1 q1); have z1 := i64_of v1 r1; obtain ⟨_, _, _, c13, c14, c15, c16⟩ := H1.out.bx.cells; have fr1 := H1.out.bx.fr 3; have H1b := Lib.hid (H1.out.put 3 (.int .i64 v1) (H1.out.bx.set3 v1)); obtain ⟨_, _, _, d13, _, _, d16⟩ := H1b.out.bx.cells; have fs1 := H1b.out.bx.fr 6; clear r1 n1 q1 rd1 o1))
    exact bodyPost_end (results_none rfl _ _ _) rfl (HE.out _ _ _ _ N1.out.1 N1.out.2 (H1b.out.put 6 (.int .i64 v1) (H1b.out.bx.set6 v1)))
  · have g1 : f / 8 % 2 = 0 := by omega
    by_cases h2 : f / 64 % 2 = 1
    · rw [g1] at e1
      have e1 : bits .and .u16 (f : Int) 8 = 0 := e1
      rw [h2] at e2
      have e2 : bits .and .u16 (f : Int) 64 = 64 := e2
      clear e3
      have HE := Lib.hid (show ∀ (v1 v2 : Int) (a1 a2 : Nat) (f1 f2 : Bool) (W : World), NxS s.size a fl 2 a1 f1 → NxS s.size a1 f1 2 a2 f2 → (f1 = false → v1 = sg16 (n2 s.data.toList a)) → (f2 = false → v2 = sg16 (n2 s.data.toList a1)) → RpS 79 w W g b s a2 f2 (p1, p2, p3, (v1, 0, 0, v2)) → RnP w g b s a fl (p1, p2, p3, 16384, 0, 0, 16384) f (.returned (.tuple #[])) W from fun v1 v2 a1 a2 f1 f2 W k1 k2 q1 q2 kk => by
        refine ⟨_, a2, f2, rfl, ?_, fun e => ?_, kk⟩
        · unfold nuw; rw [if_neg h1, if_pos h2]; exact (k1).trans k2
        · obtain ⟨u2, _, y2⟩ := k2.yes e; obtain ⟨u1, _, y1⟩ := k1.yes u2; unfold nu4 s2; rw [if_neg h1, if_pos h2]
          rw [q1 u2, q2 e]
          subst y1
          rfl)
      clear h hp hf hs g1 h1 h2
      go_enter Try.func63, Try.ntmps63
      go_wp2_with (first
        | (go_at_call 72; (with_reducible refine C1.out.mono ?_); rintro e w1 ⟨v1, a1, f1, rfl, r1, n1, q1, rd1, o1⟩; have H1 := Lib.hid (H0.out.read rd1 o1 n1.le); have N1 := Lib.hid (And.intro n1 q1); have z1 := i64_of v1 r1; obtain ⟨_, _, _, c13, c14, c15, c16⟩ := H1.out.bx.cells; have fr1 := H1.out.bx.fr 3; have H1b := Lib.hid (H1.out.put 3 (.int .i64 v1) (H1.out.bx.set3 v1)); clear r1 n1 q1 rd1 o1)
        | (go_at_call 72; (with_reducible refine (rdi16_any _ _ _ _ _ H1b.out.rd HS.out H1b.out.le).mono ?_); rintro e w2 ⟨v2, a2, f2, rfl, r2, n2, q2, rd2, o2⟩; have H2 := Lib.hid (H1b.out.read rd2 o2 n2.le); have N2 := Lib.hid (And.intro n2 q2); have z2 := i64_of v2 r2; obtain ⟨_, _, _, c23, c24, c25, c26⟩ := H2.out.bx.cells; have fr2 := H2.out.bx.fr 6; have H2b := Lib.hid (H2.out.put 6 (.int .i64 v2) (H2.out.bx.set6 v2)); clear r2 n2 q2 rd2 o2))
      exact bodyPost_end (results_none rfl _ _ _) rfl (HE.out _ _ _ _ _ _ _ N1.out.1 N2.out.1 N1.out.2 N2.out.2 H2b.out)
    · have g2 : f / 64 % 2 = 0 := by omega
      by_cases h3 : f / 128 % 2 = 1
      · rw [g1] at e1
        have e1 : bits .and .u16 (f : Int) 8 = 0 := e1
        rw [g2] at e2
        have e2 : bits .and .u16 (f : Int) 64 = 0 := e2
        rw [h3] at e3
        have e3 : bits .and .u16 (f : Int) 128 = 128 := e3
        have HE := Lib.hid (show ∀ (v1 v2 v3 v4 : Int) (a1 a2 a3 a4 : Nat) (f1 f2 f3 f4 : Bool) (W : World), NxS s.size a fl 2 a1 f1 → NxS s.size a1 f1 2 a2 f2 → NxS s.size a2 f2 2 a3 f3 → NxS s.size a3 f3 2 a4 f4 → (f1 = false → v1 = sg16 (n2 s.data.toList a)) → (f2 = false → v2 = sg16 (n2 s.data.toList a1)) → (f3 = false → v3 = sg16 (n2 s.data.toList a2)) → (f4 = false → v4 = sg16 (n2 s.data.toList a3)) → RpS 79 w W g b s a4 f4 (p1, p2, p3, (v1, v2, v3, v4)) → RnP w g b s a fl (p1, p2, p3, 16384, 0, 0, 16384) f (.returned (.tuple #[])) W from fun v1 v2 v3 v4 a1 a2 a3 a4 f1 f2 f3 f4 W k1 k2 k3 k4 q1 q2 q3 q4 kk => by
          refine ⟨_, a4, f4, rfl, ?_, fun e => ?_, kk⟩
          · unfold nuw; rw [if_neg h1, if_neg h2, if_pos h3]; exact (((k1).trans k2).trans k3).trans k4
          · obtain ⟨u4, _, y4⟩ := k4.yes e; obtain ⟨u3, _, y3⟩ := k3.yes u4; obtain ⟨u2, _, y2⟩ := k2.yes u3; obtain ⟨u1, _, y1⟩ := k1.yes u2; unfold nu4 s2; rw [if_neg h1, if_neg h2, if_pos h3]
            rw [q1 u2, q2 u3, q3 u4, q4 e]
            subst y1 y2 y3
            rw [show a + 2 + 2 = a + 4 by omega, show a + 4 + 2 = a + 6 by omega])
        clear h hp hf hs g1 h1 g2 h2 h3
        go_enter Try.func63, Try.ntmps63
        go_wp2_with (first
          | (go_at_call 72; (with_reducible refine C1.out.mono ?_); rintro e w1 ⟨v1, a1, f1, rfl, r1, n1, q1, rd1, o1⟩; have H1 := Lib.hid (H0.out.read rd1 o1 n1.le); have N1 := Lib.hid (And.intro n1 q1); have z1 := i64_of v1 r1; obtain ⟨_, _, _, c13, c14, c15, c16⟩ := H1.out.bx.cells; have fr1 := H1.out.bx.fr 3; have H1b := Lib.hid (H1.out.put 3 (.int .i64 v1) (H1.out.bx.set3 v1)); clear r1 n1 q1 rd1 o1)
          | (go_at_call 72; (with_reducible refine (rdi16_any _ _ _ _ _ H1b.out.rd HS.out H1b.out.le).mono ?_); rintro e w2 ⟨v2, a2, f2, rfl, r2, n2, q2, rd2, o2⟩; have H2 := Lib.hid (H1b.out.read rd2 o2 n2.le); have N2 := Lib.hid (And.intro n2 q2); have z2 := i64_of v2 r2; obtain ⟨_, _, _, c23, c24, c25, c26⟩ := H2.out.bx.cells; have fr2 := H2.out.bx.fr 4; have H2b := Lib.hid (H2.out.put 4 (.int .i64 v2) (H2.out.bx.set4 v2)); clear r2 n2 q2 rd2 o2)
          | (go_at_call 72; (with_reducible refine (rdi16_any _ _ _ _ _ H2b.out.rd HS.out H2b.out.le).mono ?_); rintro e w3 ⟨v3, a3, f3, rfl, r3, n3, q3, rd3, o3⟩; have H3 := Lib.hid (H2b.out.read rd3 o3 n3.le); have N3 := Lib.hid (And.intro n3 q3); have z3 := i64_of v3 r3; obtain ⟨_, _, _, c33, c34, c35, c36⟩ := H3.out.bx.cells; have fr3 := H3.out.bx.fr 5; have H3b := Lib.hid (H3.out.put 5 (.int .i64 v3) (H3.out.bx.set5 v3)); clear r3 n3 q3 rd3 o3)
          | (go_at_call 72; (with_reducible refine (rdi16_any _ _ _ _ _ H3b.out.rd HS.out H3b.out.le).mono ?_); rintro e w4 ⟨v4, a4, f4, rfl, r4, n4, q4, rd4, o4⟩; have H4 := Lib.hid (H3b.out.read rd4 o4 n4.le); have N4 := Lib.hid (And.intro n4 q4); have z4 := i64_of v4 r4; obtain ⟨_, _, _, c43, c44, c45, c46⟩ := H4.out.bx.cells; have fr4 := H4.out.bx.fr 6; have H4b := Lib.hid (H4.out.put 6 (.int .i64 v4) (H4.out.bx.set6 v4)); clear r4 n4 q4 rd4 o4))
        exact bodyPost_end (results_none rfl _ _ _) rfl (HE.out _ _ _ _ _ _ _ _ _ _ _ _ _ N1.out.1 N2.out.1 N3.out.1 N4.out.1 N1.out.2 N2.out.2 N3.out.2 N4.out.2 H4b.out)
      · have g3 : f / 128 % 2 = 0 := by omega
        rw [g1] at e1
        have e1 : bits .and .u16 (f : Int) 8 = 0 := e1
        rw [g2] at e2
        have e2 : bits .and .u16 (f : Int) 64 = 0 := e2
        rw [g3] at e3
        have e3 : bits .and .u16 (f : Int) 128 = 0 := e3
        have HE := Lib.hid (show RnP w g b s a fl (p1, p2, p3, 16384, 0, 0, 16384) f (.returned (.tuple #[])) w from by
          refine ⟨_, a, fl, rfl, ?_, fun _ => ?_, H0.out⟩
          · unfold nuw; rw [if_neg h1, if_neg h2, if_neg h3]; exact NxS.nil H0.out.le
          · unfold nu4; rw [if_neg h1, if_neg h2, if_neg h3])
        clear h hp hf hs g1 h1 g2 h2 g3 h3
        go_enter Try.func63, Try.ntmps63
        go_wp2_with fail
        exact bodyPost_end (results_none rfl _ _ _) rfl HE.out
end Go.Proofs.Ytbmeamhpmahlgaa
