/- Proved here: what the document's reader's calls answer, in any case; byte1; Is. Condition: a reader of a text of at most a billion bytes. · what the document's part answers. Condition: a reader of a text of at most a billion bytes that has not failed. -/
import Derived.Test.YtlfnagfcggmeaaaKC
namespace Go.Proofs.Ytlfnagfcggmeaaa.C
open Go.RowKit

theorem rr8_any (g : Nat) (s : ByteArray) (a : Nat) (f : Bool) (w : World) (h : Rd 90 w g s a f) (hs : s.size ≤ 1000000000) (ha : a ≤ s.size) :
    Calls Try.prog 48 #[.pointer (some ⟨g, 0, none⟩), .int .i64 1] w fun e w' => ∃ (v a' : Nat) (f' : Bool), e = .returned (.int .u32 (v : Int)) ∧ v < 256 ∧ NxS s.size a f 1 a' f' ∧ (f' = false → v = bat s.data.toList a) ∧ Rd 90 w' g s a' f' ∧ Onl g w w' := by
  refine (rnum_read g s a f 1 w h hs ha (by omega)).mono fun e w' ⟨h1, h2, h3⟩ => ⟨_, _, _, h1, bv_le _ 1 (outR_len s.data.toList a f 1), NxS.of (n := 1) ha, fun hf => ?_, h2, h3⟩
  obtain ⟨_, h4, _, h5⟩ := pass_false (n := 1) hf
  rw [show s.size = s.data.toList.length from (size_list s).symm] at h4 h5
  rw [outR_yes h5]
  exact piece_one h4
set_option maxHeartbeats 2000000 in
set_option maxRecDepth 100000 in
theorem byte1_any (g : Nat) (s : ByteArray) (a : Nat) (f : Bool) (w : World) (h : Rd 90 w g s a f) (hs : s.size ≤ 1000000000) (ha : a ≤ s.size) :
    Calls Try.prog 66 #[.pointer (some ⟨g, 0, none⟩)] w fun e w' => ∃ (v a' : Nat) (f' : Bool), e = .returned (.int .i64 (sg8 v)) ∧ v < 256 ∧ NxS s.size a f 1 a' f' ∧ (f' = false → v = bat s.data.toList a) ∧ Rd 90 w' g s a' f' ∧ Onl g w w' := by
  have C := Lib.hid (rr8_any g s a f w h hs ha)
  clear h hs ha
  go_enter Try.func66, Try.ntmps66
  go_wp2_with (go_at_call 48; (with_reducible refine C.out.mono ?_); rintro e w1 ⟨v, a1, f1, rfl, hv, n1, q1, rd1, o1⟩; have z1 : IntKind.i64.wrap (v : Int) = (v : Int) := (i64_in _ (by omega)); have H := Lib.hid (And.intro n1 (And.intro q1 (And.intro rd1 o1))); clear n1 q1 rd1 o1)
  all_goals go_ret
  · refine ⟨v, a1, f1, ?_, hv, H.out⟩
    unfold sg8; rw [if_pos (by omega)]; rfl
  · refine ⟨v, a1, f1, ?_, hv, H.out⟩
    unfold sg8; rw [if_neg (by omega)]; rfl
theorem isN_b (l : List UInt8) : isN l ↔ 2 ≤ l.length ∧ 128 ≤ bat l 0 := by
  unfold isN
  refine ⟨fun ⟨h1, h2⟩ => ⟨h1, ?_⟩, fun ⟨h1, h2⟩ => ⟨h1, ?_⟩⟩
  · match l, h1 with
    | x :: y :: r, _ =>
      have e1 : n2 (x :: y :: r) 0 = x.toNat * 256 + y.toNat := by unfold n2 piece; simp [bv]
      have e2 : bat (x :: y :: r) 0 = x.toNat := rfl
      have := y.toNat_lt
      omega
  · match l, h1 with
    | x :: y :: r, _ =>
      have e1 : n2 (x :: y :: r) 0 = x.toNat * 256 + y.toNat := by unfold n2 piece; simp [bv]
      have e2 : bat (x :: y :: r) 0 = x.toNat := rfl
      have := y.toNat_lt
      omega
set_option maxHeartbeats 2000000 in
set_option maxRecDepth 100000 in
theorem ris_any (s : ByteArray) (w : World) (hs : s.size ≤ 1000000000) : Calls Try.prog 27 #[.string s] w fun e w' => e = .returned (.bool (decide (isN s.data.toList))) ∧ w = w' := by
  have hsz := size_list s
  have hi := isN_b s.data.toList
  by_cases h1 : 2 ≤ s.size
  · have hx := idx_run s 0 (by rw [hsz]; omega)
    have hv : bat s.data.toList 0 < 256 := bat_lt _ _
    by_cases h2 : 128 ≤ bat s.data.toList 0
    · rw [decide_eq_true (hi.2 ⟨by rw [hsz]; exact h1, h2⟩)]
      obtain ⟨v, hvv⟩ : ∃ v, v = bat s.data.toList 0 := ⟨_, rfl⟩
      rw [← hvv] at hx hv h2
      have hx := hx 0 rfl
      have e2 : decide (128 ≤ (v : Int)) = true := decide_eq_true (by omega)
      clear hsz hi hvv
      go_enter Try.func27, Try.ntmps27
      go_wp2_with fail
      go_ret
      exact ⟨rfl, rfl⟩
    · rw [decide_eq_false (fun h => h2 (hi.1 h).2)]
      obtain ⟨v, hvv⟩ : ∃ v, v = bat s.data.toList 0 := ⟨_, rfl⟩
      rw [← hvv] at hx hv h2
      have hx := hx 0 rfl
      have e2 : decide (128 ≤ (v : Int)) = false := decide_eq_false (by omega)
      clear hsz hi hvv
      go_enter Try.func27, Try.ntmps27
      go_wp2_with fail
      go_ret
      exact ⟨rfl, rfl⟩
  · rw [decide_eq_false (fun h => h1 (by rw [← hsz]; exact h.1))]
    clear hsz hi
    go_enter Try.func27, Try.ntmps27
    go_wp2_with fail
    go_ret
    exact ⟨rfl, rfl⟩
end Go.Proofs.Ytlfnagfcggmeaaa.C
namespace Go.Proofs.Ytlfnagfcggmeaaa.C
open Go.RowKit

theorem byte1_in (g : Nat) (s : ByteArray) (a b : Nat) (w : World) (h : Rd 90 w g s a false) (hs : s.size ≤ 1000000000) (hb : b = a + 1) (ha : b ≤ s.size) :
    Calls Try.prog 66 #[.pointer (some ⟨g, 0, none⟩)] w fun e w' => e = .returned (.int .i64 (sg8 (bat s.data.toList a))) ∧ Rd 90 w' g s b false ∧ Onl g w w' := by
  refine (byte1_any g s a false w h hs (by omega)).mono fun e w' ⟨v, a', f', h1, _, h3, h4, h5, h6⟩ => ?_
  obtain ⟨rfl, rfl⟩ := h3.good (by omega)
  rw [h4 rfl] at h1
  rw [hb]
  exact ⟨h1, h5, h6⟩
theorem int2_in (g : Nat) (s : ByteArray) (a b : Nat) (w : World) (h : Rd 90 w g s a false) (hs : s.size ≤ 1000000000) (hb : b = a + 2) (ha : b ≤ s.size) :
    Calls Try.prog 46 #[.pointer (some ⟨g, 0, none⟩)] w fun e w' => e = .returned (.int .i64 (s2 s.data.toList a)) ∧ Rd 90 w' g s b false ∧ Onl g w w' := by
  refine (rri16_any g s a false w h hs (by omega)).mono fun e w' ⟨v, a', f', h1, _, h3, h4, h5, h6⟩ => ?_
  obtain ⟨rfl, rfl⟩ := h3.good (by omega)
  rw [h4 rfl] at h1
  rw [hb]
  exact ⟨h1, h5, h6⟩
theorem sum3 (f : Nat) : (f : Int) / 8 % 2 + (f : Int) / 64 % 2 + (f : Int) / 128 % 2 = ((f / 8 % 2 + f / 64 % 2 + f / 128 % 2 : Nat) : Int) := by
  have h1 : (f : Int) / 8 % 2 = ((f / 8 % 2 : Nat) : Int) := by omega
  have h2 : (f : Int) / 64 % 2 = ((f / 64 % 2 : Nat) : Int) := by omega
  have h3 : (f : Int) / 128 % 2 = ((f / 128 % 2 : Nat) : Int) := by omega
  rw [h1, h2, h3]
  rfl
/-- What the document's part asks of the bits, as the walk asks it. -/
theorem bits_no (f : Nat) (hf : f < 65536) (h : okB f) : ((f : Int) / 2 % 2 == 0) = false ∧ decide (1 < (f : Int) / 8 % 2 + (f : Int) / 64 % 2 + (f : Int) / 128 % 2) = false ∧ ((f : Int) / 16 % 2 == 1) = false ∧ ((f : Int) / 2048 % 2 == 1) = false ∧ decide (8192 ≤ (f : Int)) = false := by
  obtain ⟨h1, h2, h3, h4, h5⟩ := h
  refine ⟨?_, decide_eq_false (by rw [sum3]; omega), ?_, ?_, decide_eq_false (by omega)⟩
  · rw [show (f : Int) / 2 % 2 = 1 by omega]; rfl
  · rw [show (f : Int) / 16 % 2 = 0 by omega]; rfl
  · rw [show (f : Int) / 2048 % 2 = 0 by omega]; rfl
theorem bit_1 (f m : Nat) (h : f / m % 2 = 1) : ((f : Int) / (m : Int) % 2 == 1) = true := by
  have : (f : Int) / (m : Int) % 2 = ((f / m % 2 : Nat) : Int) := by omega
  rw [this, h]; rfl
theorem bit_0 (f m : Nat) (h : f / m % 2 = 0) : ((f : Int) / (m : Int) % 2 == 1) = false := by
  have : (f : Int) / (m : Int) % 2 = ((f / m % 2 : Nat) : Int) := by omega
  rw [this, h]; rfl
set_option maxHeartbeats 8000000 in
set_option maxRecDepth 100000 in
theorem part_short (g : Nat) (s : ByteArray) (a : Nat) (G : Int) (w : World) (h : Rd 90 w g s a false) (hs : s.size ≤ 1000000000) (ha : a ≤ s.size) (c1 : s.size < a + 4) :
    Calls Try.prog 45 #[.pointer (some ⟨g, 0, none⟩), .int .i64 G] w (RdP 90 (prt s.data.toList G a) g s w) := by
  have HS := Lib.hid hs
  have H0 := Lib.hid (QpS.start h ha)
  obtain ⟨R, hR⟩ : ∃ R, R = prt s.data.toList G a := ⟨_, rfl⟩
  rw [← hR]
  have HE := Lib.hid (show ∀ x r W (q : Prt) n, R = (x, r) → x ≠ 0 → Onl g w W → RdP 90 R g s w (.returned (.tuple #[.agg #[.int .i64 q.1, .int .i64 q.2.1, .int .i64 q.2.2.1, .int .i64 q.2.2.2.1, .int .i64 q.2.2.2.2.1, .int .i64 q.2.2.2.2.2.1, .int .i64 q.2.2.2.2.2.2], .bool n, .int .i64 x])) W from fun x r W q n h1 h2 h3 => rdP_err h1 h2 h3 q n)
  have hsz := size_list s
  have HX := Lib.hid (fun W q ho => HE.out 3 _ W q false (hR.trans (prt_short (by rw [hsz]; exact c1))) (by decide) ho)
  have HC1 := Lib.hid c1
  clear hR h c1 hsz
  go_enter Try.func45, Try.ntmps45
  go_upto_region 1 with fail
  obtain ⟨b, hb⟩ : ∃ b, b = w.heap.size := ⟨_, rfl⟩
  obtain ⟨W0, hW0⟩ : ∃ W, W = w.alloc (.cells #[.int .i64 0, .int .i64 0, .int .i64 0, .int .i64 0, .int .i64 0, .int .i64 0, .int .i64 0] 54) := ⟨_, rfl⟩
  rw [← hW0, ← hb] at H0 ⊢
  clear hW0 hb
  go_wp2_with (first
    | (go_at_call 48; (with_reducible refine (rr16_any _ _ _ _ _ H0.out.r.rd HS.out H0.out.r.le).mono ?_); rintro e w1 ⟨v1, a1, f1, rfl, r1, n1, q1, rd1, o1⟩; have H1 := Lib.hid (H0.out.read rd1 o1 n1.le); have N1 := Lib.hid n1; clear n1 q1 rd1 o1)
    | (go_at_call 48; (with_reducible refine (rr16_any _ _ _ _ _ H1.out.r.rd HS.out H1.out.r.le).mono ?_); rintro e w2 ⟨v2, a2, f2, rfl, r2, n2, q2, rd2, o2⟩; have N2 := (N1.out.trans n2).bad HC1.out; subst N2; have H2 := Lib.hid (H1.out.read rd2 o2 n2.le); obtain ⟨x0, x1, x2, x3, x4, x5, x6⟩ := H2.out.bx.cells; obtain ⟨y0, y1, y2, y3, y4, y5, y6⟩ := H2.out.bx.frs; have bd := H2.out.r.rd.c2; have z2 : IntKind.i64.wrap (v2 : Int) = (v2 : Int) := (i64_in _ (by omega)); clear n2 q2 rd2 o2))
  have HF := H2.out.store 0 0 0 0 0 0 0
  exact bodyPost_ret (ret_part rfl rfl rfl rfl HF.bx) rfl (HX.out _ (0, 0, 0, 0, 0, 0, 0) HF.r.onl)
set_option maxHeartbeats 8000000 in
set_option maxRecDepth 100000 in
theorem part_form (g : Nat) (s : ByteArray) (a : Nat) (G : Int) (w : World) (h : Rd 90 w g s a false) (hs : s.size ≤ 1000000000) (ha : a ≤ s.size) (c1 : ¬ s.size < a + 4) (c2 : ¬ okB (n2 s.data.toList a) ∨ G ≤ (n2 s.data.toList (a + 2) : Int)) :
    Calls Try.prog 45 #[.pointer (some ⟨g, 0, none⟩), .int .i64 G] w (RdP 90 (prt s.data.toList G a) g s w) := by
  have HS := Lib.hid hs
  have H0 := Lib.hid (QpS.start h ha)
  obtain ⟨R, hR⟩ : ∃ R, R = prt s.data.toList G a := ⟨_, rfl⟩
  rw [← hR]
  have HE := Lib.hid (show ∀ x r W (q : Prt) n, R = (x, r) → x ≠ 0 → Onl g w W → RdP 90 R g s w (.returned (.tuple #[.agg #[.int .i64 q.1, .int .i64 q.2.1, .int .i64 q.2.2.1, .int .i64 q.2.2.2.1, .int .i64 q.2.2.2.2.1, .int .i64 q.2.2.2.2.2.1, .int .i64 q.2.2.2.2.2.2], .bool n, .int .i64 x])) W from fun x r W q n h1 h2 h3 => rdP_err h1 h2 h3 q n)
  have hsz := size_list s
  have c1' : ¬ s.data.toList.length < a + 4 := by rw [hsz]; exact c1
  have CA := Lib.hid (fun W (h : Rd 90 W g s a false) => num2_in g s a W h HS.out (by omega))
  have CB := Lib.hid (fun W (h : Rd 90 W g s (a + 2) false) => num2_in g s (a + 2) W h HS.out (by omega))
  have hf := n2_lt s.data.toList a
  have hgl := n2_lt s.data.toList (a + 2)
  have hok := fun h2 h3 => prt_ok (G := G) c1' h2 h3
  have hend := fun h2 h3 => prt_end (G := G) c1' h2 h3
  have hfm := fun h2 => prt_form (G := G) c1' h2
  obtain ⟨f, hff⟩ : ∃ f, f = n2 s.data.toList a := ⟨_, rfl⟩
  obtain ⟨gl, hgg⟩ : ∃ f, f = n2 s.data.toList (a + 2) := ⟨_, rfl⟩
  rw [← hff, ← hgg] at hok hend hfm c2
  rw [← hff] at CA hf
  rw [← hgg] at CB hgl
  have HA := Lib.hid (show a + 2 ≤ s.size ∧ a + 2 + 2 ≤ s.size by omega)
  have hz : IntKind.i64.wrap (gl : Int) = (gl : Int) := i64_in _ (by omega)
  clear hff hgg
  have HX := Lib.hid (fun W q ho => HE.out 4 _ W q false (hR.trans (hfm c2)) (by decide) ho)
  by_cases k1 : f / 2 % 2 = 1
  rotate_left
  · have e1 : ((f : Int) / 2 % 2 == 0) = true := by rw [show (f : Int) / 2 % 2 = 0 by omega]; rfl
    clear hR h hf hok hend hfm hsz c1' c1 c2 k1
    go_enter Try.func45, Try.ntmps45
    go_upto_region 1 with fail
    obtain ⟨b, hb⟩ : ∃ b, b = w.heap.size := ⟨_, rfl⟩
    obtain ⟨W0, hW0⟩ : ∃ W, W = w.alloc (.cells #[.int .i64 0, .int .i64 0, .int .i64 0, .int .i64 0, .int .i64 0, .int .i64 0, .int .i64 0] 54) := ⟨_, rfl⟩
    rw [← hW0, ← hb] at H0 ⊢
    clear hW0 hb
    go_wp2_with (first
        | (go_at_call 48; (with_reducible refine (CA.out _ H0.out.r.rd).mono ?_); rintro e w1 ⟨rfl, rd1, o1⟩; have H1 := Lib.hid (H0.out.read rd1 o1 HA.out.1); clear rd1 o1)
        | (go_at_call 48; (with_reducible refine (CB.out _ H1.out.r.rd).mono ?_); rintro e w2 ⟨rfl, rd2, o2⟩; have H2 := Lib.hid (H1.out.read rd2 o2 HA.out.2); obtain ⟨x0, x1, x2, x3, x4, x5, x6⟩ := H2.out.bx.cells; obtain ⟨y0, y1, y2, y3, y4, y5, y6⟩ := H2.out.bx.frs; have bd := H2.out.r.rd.c2; have K0 := Lib.hid (H2.out.box (gl : Int) 0 0 16384 0 0 16384); clear rd2 o2))
    have HF := H2.out.store 0 0 0 0 0 0 0
    exact bodyPost_ret (ret_part rfl rfl rfl rfl HF.bx) rfl (HX.out _ (0, 0, 0, 0, 0, 0, 0) HF.r.onl)
  by_cases k2 : f / 8 % 2 + f / 64 % 2 + f / 128 % 2 ≤ 1
  rotate_left
  · have e1 : ((f : Int) / 2 % 2 == 0) = false := by rw [show (f : Int) / 2 % 2 = 1 by omega]; rfl
    have e2 : decide (1 < (f : Int) / 8 % 2 + (f : Int) / 64 % 2 + (f : Int) / 128 % 2) = true := decide_eq_true (by rw [sum3]; omega)
    clear hR h hf hok hend hfm hsz c1' c1 c2 k1 k2
    go_enter Try.func45, Try.ntmps45
    go_upto_region 1 with fail
    obtain ⟨b, hb⟩ : ∃ b, b = w.heap.size := ⟨_, rfl⟩
    obtain ⟨W0, hW0⟩ : ∃ W, W = w.alloc (.cells #[.int .i64 0, .int .i64 0, .int .i64 0, .int .i64 0, .int .i64 0, .int .i64 0, .int .i64 0] 54) := ⟨_, rfl⟩
    rw [← hW0, ← hb] at H0 ⊢
    clear hW0 hb
    go_wp2_with (first
        | (go_at_call 48; (with_reducible refine (CA.out _ H0.out.r.rd).mono ?_); rintro e w1 ⟨rfl, rd1, o1⟩; have H1 := Lib.hid (H0.out.read rd1 o1 HA.out.1); clear rd1 o1)
        | (go_at_call 48; (with_reducible refine (CB.out _ H1.out.r.rd).mono ?_); rintro e w2 ⟨rfl, rd2, o2⟩; have H2 := Lib.hid (H1.out.read rd2 o2 HA.out.2); obtain ⟨x0, x1, x2, x3, x4, x5, x6⟩ := H2.out.bx.cells; obtain ⟨y0, y1, y2, y3, y4, y5, y6⟩ := H2.out.bx.frs; have bd := H2.out.r.rd.c2; have K0 := Lib.hid (H2.out.box (gl : Int) 0 0 16384 0 0 16384); clear rd2 o2))
    have HF := H2.out.store 0 0 0 0 0 0 0
    exact bodyPost_ret (ret_part rfl rfl rfl rfl HF.bx) rfl (HX.out _ (0, 0, 0, 0, 0, 0, 0) HF.r.onl)
  by_cases k3 : f / 16 % 2 = 0
  rotate_left
  · have e1 : ((f : Int) / 2 % 2 == 0) = false := by rw [show (f : Int) / 2 % 2 = 1 by omega]; rfl
    have e2 : decide (1 < (f : Int) / 8 % 2 + (f : Int) / 64 % 2 + (f : Int) / 128 % 2) = false := decide_eq_false (by rw [sum3]; omega)
    have e3 : ((f : Int) / 16 % 2 == 1) = true := by rw [show (f : Int) / 16 % 2 = 1 by omega]; rfl
    clear hR h hf hok hend hfm hsz c1' c1 c2 k1 k2 k3
    go_enter Try.func45, Try.ntmps45
    go_upto_region 1 with fail
    obtain ⟨b, hb⟩ : ∃ b, b = w.heap.size := ⟨_, rfl⟩
    obtain ⟨W0, hW0⟩ : ∃ W, W = w.alloc (.cells #[.int .i64 0, .int .i64 0, .int .i64 0, .int .i64 0, .int .i64 0, .int .i64 0, .int .i64 0] 54) := ⟨_, rfl⟩
    rw [← hW0, ← hb] at H0 ⊢
    clear hW0 hb
    go_wp2_with (first
        | (go_at_call 48; (with_reducible refine (CA.out _ H0.out.r.rd).mono ?_); rintro e w1 ⟨rfl, rd1, o1⟩; have H1 := Lib.hid (H0.out.read rd1 o1 HA.out.1); clear rd1 o1)
        | (go_at_call 48; (with_reducible refine (CB.out _ H1.out.r.rd).mono ?_); rintro e w2 ⟨rfl, rd2, o2⟩; have H2 := Lib.hid (H1.out.read rd2 o2 HA.out.2); obtain ⟨x0, x1, x2, x3, x4, x5, x6⟩ := H2.out.bx.cells; obtain ⟨y0, y1, y2, y3, y4, y5, y6⟩ := H2.out.bx.frs; have bd := H2.out.r.rd.c2; have K0 := Lib.hid (H2.out.box (gl : Int) 0 0 16384 0 0 16384); clear rd2 o2))
    have HF := H2.out.store 0 0 0 0 0 0 0
    exact bodyPost_ret (ret_part rfl rfl rfl rfl HF.bx) rfl (HX.out _ (0, 0, 0, 0, 0, 0, 0) HF.r.onl)
  by_cases k4 : f / 2048 % 2 = 0
  rotate_left
  · have e1 : ((f : Int) / 2 % 2 == 0) = false := by rw [show (f : Int) / 2 % 2 = 1 by omega]; rfl
    have e2 : decide (1 < (f : Int) / 8 % 2 + (f : Int) / 64 % 2 + (f : Int) / 128 % 2) = false := decide_eq_false (by rw [sum3]; omega)
    have e3 : ((f : Int) / 16 % 2 == 1) = false := by rw [show (f : Int) / 16 % 2 = 0 by omega]; rfl
    have e4 : ((f : Int) / 2048 % 2 == 1) = true := by rw [show (f : Int) / 2048 % 2 = 1 by omega]; rfl
    clear hR h hf hok hend hfm hsz c1' c1 c2 k1 k2 k3 k4
    go_enter Try.func45, Try.ntmps45
    go_upto_region 1 with fail
    obtain ⟨b, hb⟩ : ∃ b, b = w.heap.size := ⟨_, rfl⟩
    obtain ⟨W0, hW0⟩ : ∃ W, W = w.alloc (.cells #[.int .i64 0, .int .i64 0, .int .i64 0, .int .i64 0, .int .i64 0, .int .i64 0, .int .i64 0] 54) := ⟨_, rfl⟩
    rw [← hW0, ← hb] at H0 ⊢
    clear hW0 hb
    go_wp2_with (first
        | (go_at_call 48; (with_reducible refine (CA.out _ H0.out.r.rd).mono ?_); rintro e w1 ⟨rfl, rd1, o1⟩; have H1 := Lib.hid (H0.out.read rd1 o1 HA.out.1); clear rd1 o1)
        | (go_at_call 48; (with_reducible refine (CB.out _ H1.out.r.rd).mono ?_); rintro e w2 ⟨rfl, rd2, o2⟩; have H2 := Lib.hid (H1.out.read rd2 o2 HA.out.2); obtain ⟨x0, x1, x2, x3, x4, x5, x6⟩ := H2.out.bx.cells; obtain ⟨y0, y1, y2, y3, y4, y5, y6⟩ := H2.out.bx.frs; have bd := H2.out.r.rd.c2; have K0 := Lib.hid (H2.out.box (gl : Int) 0 0 16384 0 0 16384); clear rd2 o2))
    have HF := H2.out.store 0 0 0 0 0 0 0
    exact bodyPost_ret (ret_part rfl rfl rfl rfl HF.bx) rfl (HX.out _ (0, 0, 0, 0, 0, 0, 0) HF.r.onl)
  by_cases k5 : f < 8192
  rotate_left
  · have e1 : ((f : Int) / 2 % 2 == 0) = false := by rw [show (f : Int) / 2 % 2 = 1 by omega]; rfl
    have e2 : decide (1 < (f : Int) / 8 % 2 + (f : Int) / 64 % 2 + (f : Int) / 128 % 2) = false := decide_eq_false (by rw [sum3]; omega)
    have e3 : ((f : Int) / 16 % 2 == 1) = false := by rw [show (f : Int) / 16 % 2 = 0 by omega]; rfl
    have e4 : ((f : Int) / 2048 % 2 == 1) = false := by rw [show (f : Int) / 2048 % 2 = 0 by omega]; rfl
    have e5 : decide (8192 ≤ (f : Int)) = true := decide_eq_true (by omega)
    clear hR h hf hok hend hfm hsz c1' c1 c2 k1 k2 k3 k4 k5
    go_enter Try.func45, Try.ntmps45
    go_upto_region 1 with fail
    obtain ⟨b, hb⟩ : ∃ b, b = w.heap.size := ⟨_, rfl⟩
    obtain ⟨W0, hW0⟩ : ∃ W, W = w.alloc (.cells #[.int .i64 0, .int .i64 0, .int .i64 0, .int .i64 0, .int .i64 0, .int .i64 0, .int .i64 0] 54) := ⟨_, rfl⟩
    rw [← hW0, ← hb] at H0 ⊢
    clear hW0 hb
    go_wp2_with (first
        | (go_at_call 48; (with_reducible refine (CA.out _ H0.out.r.rd).mono ?_); rintro e w1 ⟨rfl, rd1, o1⟩; have H1 := Lib.hid (H0.out.read rd1 o1 HA.out.1); clear rd1 o1)
        | (go_at_call 48; (with_reducible refine (CB.out _ H1.out.r.rd).mono ?_); rintro e w2 ⟨rfl, rd2, o2⟩; have H2 := Lib.hid (H1.out.read rd2 o2 HA.out.2); obtain ⟨x0, x1, x2, x3, x4, x5, x6⟩ := H2.out.bx.cells; obtain ⟨y0, y1, y2, y3, y4, y5, y6⟩ := H2.out.bx.frs; have bd := H2.out.r.rd.c2; have K0 := Lib.hid (H2.out.box (gl : Int) 0 0 16384 0 0 16384); clear rd2 o2))
    have HF := H2.out.store 0 0 0 0 0 0 0
    exact bodyPost_ret (ret_part rfl rfl rfl rfl HF.bx) rfl (HX.out _ (0, 0, 0, 0, 0, 0, 0) HF.r.onl)
  have k6 : G ≤ (gl : Int) := c2.resolve_left (fun h => h ⟨k1, k3, k4, k5, k2⟩)
  have e1 : ((f : Int) / 2 % 2 == 0) = false := by rw [show (f : Int) / 2 % 2 = 1 by omega]; rfl
  have e2 : decide (1 < (f : Int) / 8 % 2 + (f : Int) / 64 % 2 + (f : Int) / 128 % 2) = false := decide_eq_false (by rw [sum3]; omega)
  have e3 : ((f : Int) / 16 % 2 == 1) = false := by rw [show (f : Int) / 16 % 2 = 0 by omega]; rfl
  have e4 : ((f : Int) / 2048 % 2 == 1) = false := by rw [show (f : Int) / 2048 % 2 = 0 by omega]; rfl
  have e5 : decide (8192 ≤ (f : Int)) = false := decide_eq_false (by omega)
  have e6 : decide (G ≤ (gl : Int)) = true := decide_eq_true k6
  clear hR h hf hok hend hfm hsz c1' c1 c2 k1 k2 k3 k4 k5 k6
  go_enter Try.func45, Try.ntmps45
  go_upto_region 1 with fail
  obtain ⟨b, hb⟩ : ∃ b, b = w.heap.size := ⟨_, rfl⟩
  obtain ⟨W0, hW0⟩ : ∃ W, W = w.alloc (.cells #[.int .i64 0, .int .i64 0, .int .i64 0, .int .i64 0, .int .i64 0, .int .i64 0, .int .i64 0] 54) := ⟨_, rfl⟩
  rw [← hW0, ← hb] at H0 ⊢
  clear hW0 hb
  go_wp2_with (first
      | (go_at_call 48; (with_reducible refine (CA.out _ H0.out.r.rd).mono ?_); rintro e w1 ⟨rfl, rd1, o1⟩; have H1 := Lib.hid (H0.out.read rd1 o1 HA.out.1); clear rd1 o1)
      | (go_at_call 48; (with_reducible refine (CB.out _ H1.out.r.rd).mono ?_); rintro e w2 ⟨rfl, rd2, o2⟩; have H2 := Lib.hid (H1.out.read rd2 o2 HA.out.2); obtain ⟨x0, x1, x2, x3, x4, x5, x6⟩ := H2.out.bx.cells; obtain ⟨y0, y1, y2, y3, y4, y5, y6⟩ := H2.out.bx.frs; have bd := H2.out.r.rd.c2; have K0 := Lib.hid (H2.out.box (gl : Int) 0 0 16384 0 0 16384); clear rd2 o2))
  have HF := H2.out.store 0 0 0 0 0 0 0
  exact bodyPost_ret (ret_part rfl rfl rfl rfl HF.bx) rfl (HX.out _ (0, 0, 0, 0, 0, 0, 0) HF.r.onl)
end Go.Proofs.Ytlfnagfcggmeaaa.C
