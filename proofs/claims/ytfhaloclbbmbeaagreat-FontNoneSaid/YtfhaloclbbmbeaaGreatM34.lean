/- Proved here: what readParts answers. Condition: a reader of a text of at most a billion bytes that has not failed · what Is and Parse answer; Same of a list and itself. Condition: a text of at most a billion bytes; at most 100000 parts. -/
import Derived.Test.YtfhaloclbbmbeaaGreatM33
namespace Go.Proofs.YtfhaloclbbmbeaaGreat
open Go.RowKit
namespace N15.C
theorem Tryz.info38z : (Tryz.prog.info? 265).map (fun i => (i.zero, i.size, i.bytes)) = some (some (.agg #[.int .i64 0, .int .i64 0, .int .i64 0, .int .i64 0, .int .i64 0, .int .i64 0, .int .i64 0]), 7, 56) := by kernel_rfl
def lenV : Value → Nat
  | .slice _ n _ => n
  | _ => 0
def leftV (v u : Value) : Nat := match u with
  | .bool true => 65 - lenV v
  | _ => 0
structure PwS (T : TypeId) (w W : World) (g : Nat) (s : ByteArray) (a : Nat) (f : Bool) (v : Value) (l : List Prt) : Prop where
  r : RoS T w W g s a f
  row : W.ownsRow w.heap.size 265 7 v l.length (plC l)
section
variable {T : TypeId} {w W W' : World} {g : Nat} {s : ByteArray} {a : Nat} {f : Bool} {v : Value} {l : List Prt}
theorem PwS.start (h : Rd T w g s a f) (ha : a ≤ s.size) : PwS T w w g s a f (.slice none 0 0) [] := ⟨RoS.start h ha, World.ownsRow_nil _ _ _ _⟩
theorem PwS.next (h : PwS T w W g s a f v l) (hb : Below W.heap.size W W') : PwS T w W' g s a f v l := ⟨h.r.next hb, own_bel h.row hb⟩
theorem PwS.read (h : PwS T w W g s a f v l) {a' : Nat} {f' : Bool} (hr : Rd T W' g s a' f') (ho : Onl g W W') (hl : a' ≤ s.size) : PwS T w W' g s a' f' v l := ⟨h.r.read hr ho hl, own_onl h.row ho h.r.lg⟩
theorem PwS.push (h : PwS T w W g s a f v l) (hT : T ≠ 265) {v' : Value} {p : Prt} (ho : W'.ownsRow w.heap.size 265 7 v' (l.length + 1) (plC l ++ prC p)) (hg : W.grownBy W' v.ownBlock) : PwS T w W' g s a f v' (l ++ [p]) :=
  ⟨⟨onl_grown h.r.onl h.row hg, h.r.lg, (hg.block g h.r.rd.lt (own_not h.row h.r.rd hT)).trans h.r.rd, h.r.le⟩, by rw [plC_snoc, List.length_append]; exact ho⟩
end
def PsP (R : Int × List Prt) (e : Ending) (w' : World) : Prop := ∃ A k c, e = .returned (.tuple #[.slice A k c, .int .i64 R.1]) ∧ Prl w' A k R.2
theorem psP_err {R : Int × List Prt} {w : World} {x : Int} (h : R = (x, [])) : PsP R (.returned (.tuple #[.slice none 0 0, .int .i64 x])) w := by
  subst h
  exact ⟨none, 0, 0, rfl, Prl.nil w⟩
theorem two_new (w : World) (o : Obj) (xs : List Value) (t : TypeId) : ∀ j u, xs[j]? = some u → ((w.alloc o).alloc (.cells xs.toArray t)).cell? ((⟨w.heap.size + 1, 0, none⟩ : Addr).add j) = some u := by
  have h := cells_new (w.alloc o) xs t
  rw [show (w.alloc o).heap.size = w.heap.size + 1 by simp] at h
  exact h
theorem prC_one (p : Prt) : ∀ u ∈ prC p, u.oneCell' = true := by
  intro u hu
  simp [prC] at hu
  rcases hu with rfl | rfl | rfl | rfl | rfl | rfl | rfl <;> rfl
set_option maxHeartbeats 8000000 in
set_option maxRecDepth 100000 in
theorem readParts_any (g : Nat) (s : ByteArray) (a0 : Nat) (G : Int) (w : World) (h : Rd 278 w g s a0 false) (hs : s.size ≤ 1000000000) (ha : a0 ≤ s.size) :
    Calls Tryz.prog 253 #[.pointer (some ⟨g, 0, none⟩), .int .i64 G] w fun e w' => PsP (prs s.data.toList G 64 [] a0) e w' ∧ Onl g w w' := by
  have HS := Lib.hid hs
  have S := Lib.hid (PwS.start h ha)
  obtain ⟨R, hR⟩ : ∃ R, R = prs s.data.toList G 64 [] a0 := ⟨_, rfl⟩
  rw [← hR]
  have HR0 := Lib.hid hR.symm
  have HE := Lib.hid (show ∀ x W, R = (x, []) → PsP R (.returned (.tuple #[.slice none 0 0, .int .i64 x])) W from fun x W h1 => psP_err h1)
  have HF := Lib.hid (show ∀ acc a A c w', R = (0, acc) → PwS 278 w w' g s a false (.slice A acc.length c) acc → PsP R (.returned (.tuple #[.slice A acc.length c, .int .i64 0])) w' from fun acc a A c w' h1 h2 => by
    subst h1
    exact ⟨A, _, c, rfl, own_prl h2.row rfl⟩)
  obtain ⟨i5, h5a, h5b, h5c, h5d⟩ := info_parts Tryz.info38z
  have H5 := Lib.hid (And.intro h5a (And.intro h5b (And.intro h5c h5d)))
  clear h hs ha hR h5a h5b h5c h5d
  go_enter Tryz.func253, Tryz.ntmps253
  go_wp2_with fail
  go_loopw [6, 7] (fun v u wr => ∃ (acc : List Prt) (a : Nat) (A : Option Addr) (c : Nat) (mo : Bool), v = .slice A acc.length c ∧ u = .bool mo ∧ acc.length ≤ 64 ∧ (mo = true → prs s.data.toList G (64 - acc.length) acc a = R) ∧ (mo = false → R = (0, acc)) ∧ PwS 278 w wr g s a false (.slice A acc.length c) acc) (fun v u _ => leftV v u)
  case atStart => exact ⟨[], a0, none, 0, true, rfl, rfl, Nat.zero_le _, fun _ => HR0.out, (fun h => by cases h), S.out⟩
  case round =>
    obtain ⟨acc, a, A, c, mo, rfl, rfl, hk, hR1, hR2, hS⟩ := hrel
    have HS1 := Lib.hid hS
    cases mo
    · have HX := Lib.hid (HF.out acc a A c wr (hR2 rfl) hS)
      obtain ⟨k, hk2⟩ : ∃ k, k = acc.length := ⟨_, rfl⟩
      rw [← hk2] at HX ⊢
      clear hR1 hR2 hS hk hk2
      go_wp2_with fail
      go_ret2
      exact ⟨HX.out, HS1.out.r.onl⟩
    · have hR := hR1 rfl
      by_cases h64 : acc.length = 64
      · have HX := Lib.hid (fun W => HE.out 6 W (by rw [← hR, h64]; rfl))
        clear hR1 hR2 hR hS
        rw [h64]
        clear h64 hk
        go_wp2_with fail
        go_ret2
        exact ⟨HX.out _, HS1.out.r.onl⟩
      · have hgo : acc.length < 64 := by omega
        obtain ⟨t, ht⟩ : ∃ t, 64 - acc.length = t + 1 := ⟨63 - acc.length, by omega⟩
        have ht2 : t = 64 - (acc.length + 1) := by omega
        rw [ht] at hR
        unfold prs at hR
        have CP := Lib.hid (readPart_any g s a G wr hS.r.rd HS.out hS.r.le)
        obtain ⟨R1, hR1'⟩ : ∃ R1, R1 = prt s.data.toList G a := ⟨_, rfl⟩
        rw [← hR1'] at CP hR
        obtain ⟨x, hx⟩ : ∃ x, x = R1.1 := ⟨_, rfl⟩
        have e64 : ((acc.length : Int) == 64) = false := by simp; omega
        by_cases h0 : R1.1 = 0
        · rw [if_neg (fun h => h h0)] at hR
          have HR := Lib.hid hR
          have HT := Lib.hid ht2
          have CQ := Lib.hid (CP.out.mono (R' := fun e w' => ∃ (q : Prt) (n : Bool), e = .returned (.tuple #[.agg #[.int .i64 q.1, .int .i64 q.2.1, .int .i64 q.2.2.1, .int .i64 q.2.2.2.1, .int .i64 q.2.2.2.2.1, .int .i64 q.2.2.2.2.2.1, .int .i64 q.2.2.2.2.2.2], .bool n, .int .i64 0]) ∧ (q = R1.2.1 ∧ n = R1.2.2.1) ∧ PwS 278 w w' g s R1.2.2.2 false (.slice A acc.length c) acc) fun e w' ⟨q, n, h1, h2, h3⟩ => by
            obtain ⟨h4, h5, h6, h7⟩ := h3 h0
            exact ⟨q, n, by rw [h1, h0], ⟨h4, h5⟩, HS1.out.read h6 h2 h7⟩)
          obtain ⟨k, hk2⟩ : ∃ k, k = acc.length := ⟨_, rfl⟩
          have HK := Lib.hid hk2
          rw [← hk2] at hgo e64 CQ HT ⊢
          clear hR1 hR2 hR hS h64 ht ht2 hk hk2 hR1' hx h0 CP
          go_wp2_with (first
            | (go_at_call 281; (with_reducible refine CQ.out.mono ?_); rintro e w2 ⟨q, n, rfl, he, hS2⟩; have H2 := Lib.hid hS2; have HQ := Lib.hid he; have HB3 := Lib.hid ((show PwS 278 w w2 g s R1.2.2.2 false (.slice A k c) acc from hS2).next (((Below.refl _ w2).alloc (Nat.le_refl _) (.cells #[.int .i64 q.1, .int .i64 q.2.1, .int .i64 q.2.2.1, .int .i64 q.2.2.2.1, .int .i64 q.2.2.2.2.1, .int .i64 q.2.2.2.2.2.1, .int .i64 q.2.2.2.2.2.2] 265)).alloc (by simp) (.cells #[.int .i64 q.1, .int .i64 q.2.1, .int .i64 q.2.2.1, .int .i64 q.2.2.2.1, .int .i64 q.2.2.2.2.1, .int .i64 q.2.2.2.2.2.1, .int .i64 q.2.2.2.2.2.2] 265))); have HR3 := Lib.hid (show ((w2.alloc (.cells #[.int .i64 q.1, .int .i64 q.2.1, .int .i64 q.2.2.1, .int .i64 q.2.2.2.1, .int .i64 q.2.2.2.2.1, .int .i64 q.2.2.2.2.2.1, .int .i64 q.2.2.2.2.2.2] 265)).alloc (.cells #[.int .i64 q.1, .int .i64 q.2.1, .int .i64 q.2.2.1, .int .i64 q.2.2.2.1, .int .i64 q.2.2.2.2.1, .int .i64 q.2.2.2.2.2.1, .int .i64 q.2.2.2.2.2.2] 265)).ownsRow w.heap.size 265 7 (.slice A k c) k (plC acc) from (by have h := HB3.out.row; rw [← HK.out] at h; exact h)); have HC3 := Lib.hid (two_new w2 (.cells #[.int .i64 q.1, .int .i64 q.2.1, .int .i64 q.2.2.1, .int .i64 q.2.2.2.1, .int .i64 q.2.2.2.2.1, .int .i64 q.2.2.2.2.2.1, .int .i64 q.2.2.2.2.2.2] 265) (prC q) 265); have HBs := Lib.hid HB3.out.r.onl.size; clear hS2 he)
            | (at_builtin; go_must (refine wpList_append_own _ rfl (.tmp 25) (.tmp 27) 71 rfl w.heap.size 265 i5 _ 7 56 Tryz.underlying71 H5.out.1 H5.out.2.1 H5.out.2.2.1 H5.out.2.2.2 rfl (by decide) (.slice A k c) k (plC acc) rfl HR3.out ⟨w2.heap.size + 1, 0, none⟩ 1 1 (prC q) rfl rfl HC3.out (prC_one q) (by unfold maxLen; omega) (by omega) HBs.out ?_); intro v' w7 hown' hg' _; obtain ⟨A7, c7, rfl⟩ := own_form hown'; have H7 := Lib.hid (HB3.out.push (by decide) (p := q) (by rw [← HK.out]; exact hown') hg'); clear hown' hg'))
          have hl : (acc ++ [q]).length = k + 1 := by rw [List.length_append, ← HK.out]; rfl
          refine ⟨⟨acc ++ [q], R1.2.2.2, A7, c7, n, by rw [hl], rfl, by omega, fun hn => ?_, fun hn => ?_, by rw [hl]; exact H7.out⟩, ?_⟩
          · have h := HR.out
            rw [if_pos (by rw [← HQ.out.2]; exact hn)] at h
            rw [hl, ← HT.out, HQ.out.1]
            exact h
          · have h := HR.out
            rw [if_neg (by rw [← HQ.out.2, hn]; decide)] at h
            rw [HQ.out.1]
            exact h.symm
          · have hm : ∀ b : Bool, leftV (.slice A7 (k + 1) c7) (.bool b) < leftV (.slice A k c) (.bool true) := by
              intro b
              cases b
              · show 0 < 65 - k
                omega
              · show 65 - (k + 1) < 65 - k
                omega
            exact hm n
        · have HX := Lib.hid (fun W => HE.out R1.1 W (by rw [← hR, if_pos h0]))
          have CQ := Lib.hid (CP.out.mono (R' := fun e w' => ∃ (q : Prt) (n : Bool), e = .returned (.tuple #[.agg #[.int .i64 q.1, .int .i64 q.2.1, .int .i64 q.2.2.1, .int .i64 q.2.2.2.1, .int .i64 q.2.2.2.2.1, .int .i64 q.2.2.2.2.2.1, .int .i64 q.2.2.2.2.2.2], .bool n, .int .i64 R1.1]) ∧ Onl g w w') fun e w' ⟨q, n, h1, h2, _⟩ => ⟨q, n, h1, HS1.out.r.onl.trans h2⟩)
          rw [← hx] at h0 HX CQ
          obtain ⟨k, hk2⟩ : ∃ k, k = acc.length := ⟨_, rfl⟩
          rw [← hk2] at hgo e64 ⊢
          have e0 : (x == 0) = false := by simp [h0]
          have e0' : (x != 0) = true := by simp [h0]
          clear hR1 hR2 hR hS h64 ht ht2 hk hk2 hR1' hx h0 CP
          go_wp2_with (go_at_call 281; (with_reducible refine CQ.out.mono ?_); rintro e w2 ⟨q, n, rfl, ho⟩; have HO := Lib.hid ho; clear ho)
          go_ret2
          exact ⟨HX.out _, HO.out.trans (Onl.of ((Below.refl _ _).alloc (Nat.le_refl _) _))⟩
end N15.C
end Go.Proofs.YtfhaloclbbmbeaaGreat
namespace Go.Proofs.YtfhaloclbbmbeaaGreat
open Go.RowKit
namespace N15.C
set_option maxHeartbeats 2000000 in
theorem u16_any (s : ByteArray) (a : Int) (w : World) (hs : s.size ≤ 1000000000) (ha : a < 9223372036854775808) :
    Calls Tryz.prog 131 #[.string s, .int .i64 a] w fun e w' => e = .returned (.tuple #[.int .u16 (bv (cutL s.data.toList a 2) 0 : Int), .int .i64 (cutE s.data.toList a 2)]) ∧ w = w' := by
  have hsz : s.data.toList.length = s.size := by simp
  have hh := fun W => has_any s a 2 W hs ha
  unfold cutL cutE
  rw [hsz]
  by_cases h : Has s.size a 2
  · rw [if_pos h, if_pos h]
    rw [decide_eq_true h] at hh
    obtain ⟨h0, h1, h2⟩ := h
    have hsub := fun W => sub_run s a (a + 2) h0 (by omega) (by omega) W
    rw [show (a + 2 - a).toNat = 2 by omega] at hsub
    have hwr := i64_in (a + 2) (by omega)
    have hpl := piece_len_le s.data.toList a.toNat 2
    obtain ⟨D, hD⟩ : ∃ D : ByteArray, D = ⟨(piece s.data.toList a.toNat 2).toArray⟩ := ⟨_, rfl⟩
    have hn := fun W => num_any D W (by rw [hD]; simp only; omega)
    rw [← hD] at hsub
    have hDl : D.data.toList = piece s.data.toList a.toNat 2 := by rw [hD]
    rw [hDl] at hn
    have hlt := bv_le _ 2 hpl
    show Calls _ _ _ _ fun e w' => e = .returned (.tuple #[.int .u16 (bv (piece s.data.toList a.toNat 2) 0 : Int), .int .i64 0]) ∧ w = w'
    obtain ⟨m, hm⟩ : ∃ m, m = bv (piece s.data.toList a.toNat 2) 0 := ⟨_, rfl⟩
    rw [← hm] at hn hlt ⊢
    have hwm := wrap_u16n m hlt
    have HH := Lib.hid hh
    have HN := Lib.hid hn
    clear hD hDl hm hpl hh hsz h0 h1 h2 hn
    go_enter Tryz.func131, Tryz.ntmps131
    go_wp2_with (first
      | (go_at_call 199; (with_reducible refine (HH.out _).mono ?_); rintro e w' ⟨rfl, rfl⟩)
      | (go_at_call 200; (with_reducible refine (HN.out _).mono ?_); rintro e w' ⟨rfl, rfl⟩))
    go_ret2
    exact ⟨rfl, rfl⟩
  · rw [if_neg h, if_neg h]
    rw [decide_eq_false h] at hh
    have HH := Lib.hid hh
    clear hh hsz h
    go_enter Tryz.func131, Tryz.ntmps131
    go_wp2_with (go_at_call 199; (with_reducible refine (HH.out _).mono ?_); rintro e w' ⟨rfl, rfl⟩)
    go_ret2
    exact ⟨rfl, rfl⟩
set_option maxHeartbeats 2000000 in
set_option maxRecDepth 100000 in
theorem is_any (s : ByteArray) (w : World) (hs : s.size ≤ 1000000000) : Calls Tryz.prog 205 #[.string s] w fun e w' => e = .returned (.bool (decide (isN s.data.toList))) ∧ w = w' := by
  have CU := fun W => u16_any s 0 W hs (by omega)
  have hsz := size_list s
  by_cases h1 : 2 ≤ s.size
  · obtain ⟨k1, k2⟩ := cutL_in (l := s.data.toList) (a := 0) (n := 2) (by rw [hsz]; omega)
    have k1 : cutL s.data.toList 0 2 = piece s.data.toList 0 2 := k1
    have k2 : cutE s.data.toList 0 2 = 0 := k2
    rw [k1, k2] at CU
    have hv : n2 s.data.toList 0 < 65536 := n2_lt _ _
    have hN : isN s.data.toList ↔ 32768 ≤ n2 s.data.toList 0 := ⟨fun h => h.2, fun h => ⟨by rw [hsz]; exact h1, h⟩⟩
    obtain ⟨v, hvv⟩ : ∃ v, v = n2 s.data.toList 0 := ⟨_, rfl⟩
    have CU : ∀ W, Calls Tryz.prog 131 #[.string s, .int .i64 0] W fun e w' => e = .returned (.tuple #[.int .u16 (v : Int), .int .i64 0]) ∧ W = w' := fun W => by rw [hvv]; exact CU W
    have HU := Lib.hid CU
    rw [← hvv] at hv hN
    have hw := wrap_i16n v hv
    have hs2 : sg16 v < 0 ↔ 32768 ≤ v := by unfold sg16; split <;> omega
    obtain ⟨t, ht⟩ : ∃ t, t = sg16 v := ⟨_, rfl⟩
    rw [← ht] at hw hs2
    by_cases h2 : t < 0
    · rw [decide_eq_true (hN.2 (hs2.1 h2))]
      have e2 : decide (t < 0) = true := decide_eq_true h2
      clear CU k1 k2 hvv hN hs2 ht hsz
      go_enter Tryz.func205, Tryz.ntmps205
      go_wp2_with (go_at_call 131; (with_reducible refine (HU.out _).mono ?_); rintro e w' ⟨rfl, rfl⟩)
      go_ret
      exact ⟨rfl, rfl⟩
    · rw [decide_eq_false (fun h => h2 (hs2.2 (hN.1 h)))]
      have e2 : decide (t < 0) = false := decide_eq_false h2
      clear CU k1 k2 hvv hN hs2 ht hsz
      go_enter Tryz.func205, Tryz.ntmps205
      go_wp2_with (go_at_call 131; (with_reducible refine (HU.out _).mono ?_); rintro e w' ⟨rfl, rfl⟩)
      go_ret
      exact ⟨rfl, rfl⟩
  · rw [decide_eq_false (fun h => h1 (by rw [← hsz]; exact h.1))]
    have k2 : cutE s.data.toList 0 2 = 3 := by
      unfold cutE
      rw [if_neg (fun h => by obtain ⟨_, _, h3⟩ := h; rw [hsz] at h3; omega)]
    rw [k2] at CU
    obtain ⟨v, hvv⟩ : ∃ v, v = bv (cutL s.data.toList 0 2) 0 := ⟨_, rfl⟩
    have CU : ∀ W, Calls Tryz.prog 131 #[.string s, .int .i64 0] W fun e w' => e = .returned (.tuple #[.int .u16 (v : Int), .int .i64 3]) ∧ W = w' := fun W => by rw [hvv]; exact CU W
    have HU := Lib.hid CU
    clear CU k2 hvv hsz
    go_enter Tryz.func205, Tryz.ntmps205
    go_wp2_with (go_at_call 131; (with_reducible refine (HU.out _).mono ?_); rintro e w' ⟨rfl, rfl⟩)
    go_ret
    exact ⟨rfl, rfl⟩
set_option maxHeartbeats 4000000 in
set_option maxRecDepth 100000 in
theorem parse_any (s : ByteArray) (G : Int) (w : World) (hs : s.size ≤ 1000000000) :
    Calls Tryz.prog 206 #[.string s, .int .i64 G] w fun e w' => PsP (PA s.data.toList G) e w' ∧ Below w.heap.size w w' := by
  have HS := Lib.hid hs
  have hsz := size_list s
  have CG := Lib.hid (fun W => glyphs_any G W)
  have CI := Lib.hid (fun W => is_any s W hs)
  have CN := Lib.hid (new_any s w)
  by_cases hG : okG G
  rotate_left
  · have HX := Lib.hid (fun W => psP_err (R := PA s.data.toList G) (w := W) (x := 1) (by unfold PA; rw [if_pos hG]))
    rw [decide_eq_false hG] at CG
    clear hsz hG
    go_enter Tryz.func206, Tryz.ntmps206
    go_wp2_with (go_at_call 228; (with_reducible refine (CG.out _).mono ?_); rintro e w1 ⟨rfl, rfl⟩)
    go_ret2
    exact ⟨HX.out _, Below.refl _ _⟩
  rw [decide_eq_true hG] at CG
  have hG' : ¬ ¬ okG G := fun h => h hG
  by_cases c1 : s.size < 10
  · have HX := Lib.hid (fun W => psP_err (R := PA s.data.toList G) (w := W) (x := 3) (by unfold PA; rw [if_neg hG', if_pos (by rw [hsz]; exact c1)]))
    have HC := Lib.hid (show s.size < 0 + 10 by omega)
    clear hsz hG hG'
    go_enter Tryz.func206, Tryz.ntmps206
    go_wp2_with (first
      | (go_at_call 228; (with_reducible refine (CG.out _).mono ?_); rintro e w1 ⟨rfl, rfl⟩)
      | (go_at_call 133; (with_reducible refine CN.out.mono ?_); rintro e w1 ⟨rfl, hb1, rd1, _⟩; have H1 := Lib.hid rd1; have B1 := Lib.hid hb1; clear rd1 hb1)
      | (go_at_call 134; (with_reducible refine (skip_any _ s 0 false 10 _ H1.out HS.out (Nat.zero_le _)).mono ?_); rintro e w2 ⟨rfl, hp⟩; have H2 := Lib.hid (pse_out (n := 10) hp HC.out); clear hp)
      | (go_at_call 211; (with_reducible refine (err_bad _ _ _ _ H2.out.1).mono ?_); rintro e w3 ⟨rfl, rfl⟩))
    go_ret2
    exact ⟨HX.out _, B1.out.trans (H2.out.2.below (Nat.le_refl _) B1.out.size)⟩
  have HC := Lib.hid (show 0 + 10 ≤ s.size by omega)
  by_cases c2 : isN s.data.toList
  · have hPA : PA s.data.toList G = prs s.data.toList G 64 [] 10 := by unfold PA; rw [if_neg hG', if_neg (by rw [hsz]; exact c1), if_neg (fun h => h c2)]
    rw [hPA]
    have CR := Lib.hid (fun g W (h : Rd 278 W g s 10 false) => readParts_any g s 10 G W h HS.out (by have := HC.out; omega))
    rw [decide_eq_true c2] at CI
    obtain ⟨R, hR⟩ : ∃ R, R = prs s.data.toList G 64 [] 10 := ⟨_, rfl⟩
    rw [← hR] at CR ⊢
    have HPu := Lib.hid (show ∀ e W, PsP R e W → ∃ A k c, e = .returned (.tuple #[.slice A k c, .int .i64 R.1]) ∧ Prl W A k R.2 from fun e W h => h)
    obtain ⟨x, hx⟩ : ∃ x, x = R.1 := ⟨_, rfl⟩
    have HXx := Lib.hid hx
    rw [← hx] at HPu
    clear hsz hG hG' c2 hPA hR hx
    go_enter Tryz.func206, Tryz.ntmps206
    go_wp2_with (first
      | (go_at_call 228; (with_reducible refine (CG.out _).mono ?_); rintro e w1 ⟨rfl, rfl⟩)
      | (go_at_call 133; (with_reducible refine CN.out.mono ?_); rintro e w1 ⟨rfl, hb1, rd1, _⟩; have H1 := Lib.hid rd1; have B1 := Lib.hid hb1; clear rd1 hb1)
      | (go_at_call 134; (with_reducible refine (skip_any _ s 0 false 10 _ H1.out HS.out (Nat.zero_le _)).mono ?_); rintro e w2 ⟨rfl, hp⟩; have H2 := Lib.hid (pse_in (n := 10) hp HC.out); clear hp)
      | (go_at_call 211; (with_reducible refine (err_ok _ _ _ _ H2.out.1).mono ?_); rintro e w3 ⟨rfl, rfl⟩)
      | (go_at_call 205; (with_reducible refine (CI.out _).mono ?_); rintro e w3 ⟨rfl, rfl⟩)
      | (go_at_call 253; (with_reducible refine (CR.out _ _ H2.out.1).mono ?_); rintro e w4 ⟨hps, ho⟩; obtain ⟨A, k, c, rfl, hprl⟩ := HPu.out _ _ hps; have HO := Lib.hid (H2.out.2.trans ho); have HPr := Lib.hid hprl; clear hps ho hprl))
    go_ret2
    exact ⟨⟨A, k, c, by rw [← HXx.out]; rfl, HPr.out⟩, B1.out.trans (HO.out.below (Nat.le_refl _) B1.out.size)⟩
  · have HX := Lib.hid (fun W => psP_err (R := PA s.data.toList G) (w := W) (x := 4) (by unfold PA; rw [if_neg hG', if_neg (by rw [hsz]; exact c1), if_pos c2]))
    rw [decide_eq_false c2] at CI
    clear hsz hG hG' c2
    go_enter Tryz.func206, Tryz.ntmps206
    go_wp2_with (first
      | (go_at_call 228; (with_reducible refine (CG.out _).mono ?_); rintro e w1 ⟨rfl, rfl⟩)
      | (go_at_call 133; (with_reducible refine CN.out.mono ?_); rintro e w1 ⟨rfl, hb1, rd1, _⟩; have H1 := Lib.hid rd1; have B1 := Lib.hid hb1; clear rd1 hb1)
      | (go_at_call 134; (with_reducible refine (skip_any _ s 0 false 10 _ H1.out HS.out (Nat.zero_le _)).mono ?_); rintro e w2 ⟨rfl, hp⟩; have H2 := Lib.hid (pse_in (n := 10) hp HC.out); clear hp)
      | (go_at_call 211; (with_reducible refine (err_ok _ _ _ _ H2.out.1).mono ?_); rintro e w3 ⟨rfl, rfl⟩)
      | (go_at_call 205; (with_reducible refine (CI.out _).mono ?_); rintro e w3 ⟨rfl, rfl⟩))
    go_ret2
    exact ⟨HX.out _, B1.out.trans (H2.out.2.below (Nat.le_refl _) B1.out.size)⟩
end N15.C
end Go.Proofs.YtfhaloclbbmbeaaGreat
