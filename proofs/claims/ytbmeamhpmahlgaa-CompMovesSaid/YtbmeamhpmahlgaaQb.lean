/- Proved here: what readMove and readNumbers answer. Condition: a reader of a text of at most a billion bytes, and a part's box. -/
import Derived.Test.YtbmeamhpmahlgaaQa
namespace Go.Proofs.Ytbmeamhpmahlgaa
open Go.RowKit

theorem NxS.trans {L a n1 n2 a1 a2 : Nat} {f f1 f2 : Bool} (h : NxS L a f n1 a1 f1) (k : NxS L a1 f1 n2 a2 f2) : NxS L a f (n1 + n2) a2 f2 :=
  ⟨k.le, fun e => by
    obtain ⟨e1, e2, e3⟩ := k.yes e
    obtain ⟨e4, e5, e6⟩ := h.yes e1
    exact ⟨e4, by omega, by omega⟩, fun e => by
    cases f1
    · obtain ⟨e4, e5, e6⟩ := h.yes rfl
      rcases k.no e with e7 | e7
      · cases e7
      · exact .inr (by omega)
    · rcases h.no rfl with e7 | e7
      · exact .inl e7
      · exact .inr (by omega)⟩
theorem NxS.nil {L a : Nat} {f : Bool} (h : a ≤ L) : NxS L a f 0 a f := ⟨h, fun e => ⟨e, h, rfl⟩, fun e => .inl e⟩
theorem wrap_i8n (m : Nat) (h : m < 256) : IntKind.i8.wrap (m : Int) = sg8 m := by
  have h2 : ∀ m : Fin 256, IntKind.i8.wrap (m.val : Int) = sg8 m.val := by decide +kernel
  exact h2 ⟨m, h⟩
theorem i64_of (v : Int) (h : -32768 ≤ v ∧ v ≤ 32767) : IntKind.i64.wrap v = v := i64_in v (by omega)
theorem rd8_any (g : Nat) (s : ByteArray) (a : Nat) (f : Bool) (w : World) (h : Rd 79 w g s a f) (hs : s.size ≤ 1000000000) (ha : a ≤ s.size) :
    Calls Try.prog 73 #[.pointer (some ⟨g, 0, none⟩)] w fun e w' => ∃ (v a' : Nat) (f' : Bool), e = .returned (.int .u8 (v : Int)) ∧ v < 256 ∧ NxS s.size a f 1 a' f' ∧ (f' = false → v = bat s.data.toList a) ∧ Rd 79 w' g s a' f' ∧ Onl g w w' := by
  refine (ru8_any g s a f w h hs ha).mono fun e w' ⟨h1, h2, h3⟩ => ⟨_, _, _, h1, bv_le _ 1 (outR_len s.data.toList a f 1), NxS.of (n := 1) ha, fun hf => ?_, h2, h3⟩
  obtain ⟨_, h4, _, h5⟩ := pass_false (n := 1) hf
  rw [show s.size = s.data.toList.length from (size_list s).symm] at h4 h5
  rw [show (1 : Int) = ((1 : Nat) : Int) from rfl, outR_yes h5]
  exact piece_one h4
/-- What readMove leaves. -/
def RmP (w : World) (g b : Nat) (s : ByteArray) (a : Nat) (fl : Bool) (p : Prt) (f : Nat) (e : Ending) (w' : World) : Prop :=
  ∃ (x y : Int) (a' : Nat) (f' : Bool), e = .returned (.tuple #[]) ∧ NxS s.size a fl (mvw f) a' f' ∧ (f' = false → x = mvX s.data.toList f a ∧ y = mvY s.data.toList f a) ∧ RpS 79 w w' g b s a' f' (p.1, x, y, p.2.2.2)
set_option maxHeartbeats 4000000 in
set_option maxRecDepth 100000 in
theorem readMove_any (g b : Nat) (s : ByteArray) (a : Nat) (fl : Bool) (p : Prt) (f : Nat) (w : World) (h : RpS 79 w w g b s a fl p) (hs : s.size ≤ 1000000000) (hf : f < 65536) :
    Calls Try.prog 62 #[.pointer (some ⟨g, 0, none⟩), .int .u16 (f : Int), .pointer (some ⟨b, 0, none⟩)] w (RmP w g b s a fl p f) := by
  have e1 := and1 f hf
  have HS := Lib.hid hs
  have H0 := Lib.hid h
  have hbx := h.bx
  have C1 := Lib.hid (rdi16_any g s a fl w h.rd hs h.le)
  have C2 := Lib.hid (rd8_any g s a fl w h.rd hs h.le)
  by_cases h1 : f % 2 = 1
  · rw [h1] at e1
    have e1 : bits .and .u16 (f : Int) 1 = 1 := e1
    have HE := Lib.hid (show ∀ (v1 v2 : Int) (a1 a2 : Nat) (f1 f2 : Bool) (W : World), NxS s.size a fl 2 a1 f1 → NxS s.size a1 f1 2 a2 f2 → (f1 = false → v1 = sg16 (n2 s.data.toList a)) → (f2 = false → v2 = sg16 (n2 s.data.toList a1)) → RpS 79 w W g b s a2 f2 (p.1, v1, v2, p.2.2.2) → RmP w g b s a fl p f (.returned (.tuple #[])) W from fun v1 v2 a1 a2 f1 f2 W k1 k2 k3 k4 k5 => by
      refine ⟨v1, v2, a2, f2, rfl, ?_, fun e => ?_, k5⟩
      · unfold mvw; rw [if_pos h1]; exact k1.trans k2
      · obtain ⟨q1, q2, q3⟩ := k2.yes e
        obtain ⟨q4, q5, q6⟩ := k1.yes q1
        unfold mvX mvY s2
        rw [if_pos h1, if_pos h1, k3 q1, k4 e, q6]
        exact ⟨rfl, rfl⟩)
    clear h h1 hf hs
    go_enter Try.func62, Try.ntmps62
    go_wp2_with (first
      | (go_at_call 72; (with_reducible refine C1.out.mono ?_); rintro e w1 ⟨v1, a1, f1, rfl, r1, n1, q1, rd1, o1⟩; have H1 := Lib.hid (H0.out.read rd1 o1 n1.le); have N1 := Lib.hid (And.intro n1 q1); have z1 := i64_of v1 r1; obtain ⟨_, c1, c2, _⟩ := H1.out.bx.cells; have fr1 := H1.out.bx.fr 1; have H1b := Lib.hid (H1.out.put 1 (.int .i64 v1) (H1.out.bx.set1 v1)); clear r1 n1 q1 rd1 o1)
      | (go_at_call 72; (with_reducible refine (rdi16_any _ _ _ _ _ H1b.out.rd HS.out H1b.out.le).mono ?_); rintro e w2 ⟨v2, a2, f2, rfl, r2, n2, q2, rd2, o2⟩; have H2 := Lib.hid (H1b.out.read rd2 o2 n2.le); have N2 := Lib.hid (And.intro n2 q2); have z2 := i64_of v2 r2; obtain ⟨_, d1, d2, _⟩ := H2.out.bx.cells; have fr2 := H2.out.bx.fr 2; clear r2 n2 q2 rd2 o2))
    exact bodyPost_end (results_none rfl _ _ _) rfl (HE.out _ _ _ _ _ _ _ N1.out.1 N2.out.1 N1.out.2 N2.out.2 (H2.out.put 2 (.int .i64 v2) (H2.out.bx.set2 v2)))
  · have h0 : f % 2 = 0 := by omega
    rw [h0] at e1
    have e1 : bits .and .u16 (f : Int) 1 = 0 := e1
    have HE := Lib.hid (show ∀ (v1 v2 a1 a2 : Nat) (f1 f2 : Bool) (W : World), NxS s.size a fl 1 a1 f1 → NxS s.size a1 f1 1 a2 f2 → (f1 = false → v1 = bat s.data.toList a) → (f2 = false → v2 = bat s.data.toList a1) → RpS 79 w W g b s a2 f2 (p.1, sg8 v1, sg8 v2, p.2.2.2) → RmP w g b s a fl p f (.returned (.tuple #[])) W from fun v1 v2 a1 a2 f1 f2 W k1 k2 k3 k4 k5 => by
      refine ⟨_, _, a2, f2, rfl, ?_, fun e => ?_, k5⟩
      · unfold mvw; rw [if_neg h1]; exact k1.trans k2
      · obtain ⟨q1, q2, q3⟩ := k2.yes e
        obtain ⟨q4, q5, q6⟩ := k1.yes q1
        unfold mvX mvY
        rw [if_neg h1, if_neg h1, k3 q1, k4 e, q6]
        exact ⟨rfl, rfl⟩)
    clear h h1 h0 hf hs
    go_enter Try.func62, Try.ntmps62
    go_wp2_with (first
      | (go_at_call 73; (with_reducible refine C2.out.mono ?_); rintro e w1 ⟨v1, a1, f1, rfl, r1, n1, q1, rd1, o1⟩; have H1 := Lib.hid (H0.out.read rd1 o1 n1.le); have N1 := Lib.hid (And.intro n1 q1); have y1 := wrap_i8n v1 r1; have SG1 := Lib.hid (sg8_okF v1 r1); obtain ⟨t1, ht1⟩ : ∃ t, t = sg8 v1 := ⟨_, rfl⟩; rw [← ht1] at y1 SG1; have z1 := i64_of t1 SG1.out; obtain ⟨_, c1, c2, _⟩ := H1.out.bx.cells; have fr1 := H1.out.bx.fr 1; have H1b := Lib.hid (H1.out.put 1 (.int .i64 t1) (H1.out.bx.set1 t1)); have HT1 := Lib.hid ht1; clear r1 n1 q1 rd1 o1 ht1)
      | (go_at_call 73; (with_reducible refine (rd8_any _ _ _ _ _ H1b.out.rd HS.out H1b.out.le).mono ?_); rintro e w2 ⟨v2, a2, f2, rfl, r2, n2, q2, rd2, o2⟩; have H2 := Lib.hid (H1b.out.read rd2 o2 n2.le); have N2 := Lib.hid (And.intro n2 q2); have y2 := wrap_i8n v2 r2; have SG2 := Lib.hid (sg8_okF v2 r2); obtain ⟨t2, ht2⟩ : ∃ t, t = sg8 v2 := ⟨_, rfl⟩; rw [← ht2] at y2 SG2; have z2 := i64_of t2 SG2.out; obtain ⟨_, d1, d2, _⟩ := H2.out.bx.cells; have fr2 := H2.out.bx.fr 2; have HT2 := Lib.hid ht2; clear r2 n2 q2 rd2 o2 ht2))
    refine bodyPost_end (results_none rfl _ _ _) rfl (HE.out v1 v2 _ _ _ _ _ N1.out.1 N2.out.1 N1.out.2 N2.out.2 ?_)
    rw [← HT1.out, ← HT2.out]
    exact H2.out.put 2 (.int .i64 t2) (H2.out.bx.set2 t2)
end Go.Proofs.Ytbmeamhpmahlgaa
