/- Proved here: what the document's part answers, in all cases. Condition: a reader of a text of at most a billion bytes that has not failed. · what the document's Parse answers. Condition: a text of at most a billion bytes. -/
import Derived.Test.YtlfnagfcggmeaaaKSc
import Derived.Test.YtlfnagfcggmeaaaKSd
namespace Go.Proofs.Ytlfnagfcggmeaaa.C
open Go.RowKit

theorem part_any (g : Nat) (s : ByteArray) (a : Nat) (G : Int) (w : World) (h : Rd 90 w g s a false) (hs : s.size ≤ 1000000000) (ha : a ≤ s.size) :
    Calls Try.prog 45 #[.pointer (some ⟨g, 0, none⟩), .int .i64 G] w (RdP 90 (prt s.data.toList G a) g s w) := by
  by_cases c1 : s.size < a + 4
  · exact part_short g s a G w h hs ha c1
  by_cases c2 : okB (n2 s.data.toList a)
  · by_cases c3 : G ≤ (n2 s.data.toList (a + 2) : Int)
    · exact part_form g s a G w h hs ha c1 (.inr c3)
    · by_cases h1 : n2 s.data.toList a % 2 = 1
      · by_cases g1 : n2 s.data.toList a / 8 % 2 = 1
        · exact part_1_8 g s a G w h hs ha c1 c2 c3 h1 g1
        · by_cases g2 : n2 s.data.toList a / 64 % 2 = 1
          · exact part_1_64 g s a G w h hs ha c1 c2 c3 h1 (by omega) g2
          · by_cases g3 : n2 s.data.toList a / 128 % 2 = 1
            · exact part_1_128 g s a G w h hs ha c1 c2 c3 h1 (by omega) (by omega) g3
            · exact part_1_no g s a G w h hs ha c1 c2 c3 h1 (by omega) (by omega) (by omega)
      · by_cases g1 : n2 s.data.toList a / 8 % 2 = 1
        · exact part_0_8 g s a G w h hs ha c1 c2 c3 (by omega) g1
        · by_cases g2 : n2 s.data.toList a / 64 % 2 = 1
          · exact part_0_64 g s a G w h hs ha c1 c2 c3 (by omega) (by omega) g2
          · by_cases g3 : n2 s.data.toList a / 128 % 2 = 1
            · exact part_0_128 g s a G w h hs ha c1 c2 c3 (by omega) (by omega) (by omega) g3
            · exact part_0_no g s a G w h hs ha c1 c2 c3 (by omega) (by omega) (by omega) (by omega)
  · exact part_form g s a G w h hs ha c1 (.inl c2)
end Go.Proofs.Ytlfnagfcggmeaaa.C
namespace Go.Proofs.Ytlfnagfcggmeaaa.C
open Go.RowKit

/-- Parts in a row of their own. -/
def PrO (W : World) (A : Option Addr) (k c : Nat) (L : List Prt) : Prop := L.length = k ∧ ∃ base, W.ownsRow base 54 7 (.slice A k c) k (plC L)
theorem PrO.nil (W : World) : PrO W none 0 0 [] := ⟨rfl, 0, World.ownsRow_nil _ _ _ _⟩
theorem PrO.prl {W : World} {A : Option Addr} {k c : Nat} {L : List Prt} (h : PrO W A k c L) : Prl W A k L := by
  obtain ⟨hl, base, ho⟩ := h
  exact own_prl ho hl
/-- What Parse answers. -/
def PsT (R : Int × List Prt) (e : Ending) (w' : World) : Prop := ∃ A k c, e = .returned (.tuple #[.slice A k c, .int .i64 R.1]) ∧ PrO w' A k c R.2
theorem psT_err {R : Int × List Prt} {w : World} {x : Int} (h : R = (x, [])) : PsT R (.returned (.tuple #[.slice none 0 0, .int .i64 x])) w := by
  subst h
  exact ⟨none, 0, 0, rfl, PrO.nil w⟩
theorem PsT.psp {R : Int × List Prt} {e : Ending} {w' : World} (h : PsT R e w') : PsP R e w' := by
  obtain ⟨A, k, c, h1, h2⟩ := h
  exact ⟨A, k, c, h1, h2.prl⟩
set_option maxHeartbeats 8000000 in
set_option maxRecDepth 100000 in
theorem rparse_own (s : ByteArray) (G : Int) (w : World) (hs : s.size ≤ 1000000000) :
    Calls Try.prog 28 #[.string s, .int .i64 G] w fun e w' => PsT (PA s.data.toList G) e w' ∧ Below w.heap.size w w' := by
  have HS := Lib.hid hs
  have hsz := size_list s
  have CI := Lib.hid (fun W => ris_any s W hs)
  by_cases hG1 : G < 1
  · have HX := Lib.hid (fun W => psT_err (R := PA s.data.toList G) (w := W) (x := 1) (by unfold PA; rw [if_pos (fun h : okG G => by have := h.1; omega)]))
    clear hsz
    go_enter Try.func28, Try.ntmps28
    go_wp2_with fail
    go_ret2
    exact ⟨HX.out _, Below.refl _ _⟩
  by_cases hG2 : 1024 < G
  · have HX := Lib.hid (fun W => psT_err (R := PA s.data.toList G) (w := W) (x := 1) (by unfold PA; rw [if_pos (fun h : okG G => by have := h.2; omega)]))
    clear hsz
    go_enter Try.func28, Try.ntmps28
    go_wp2_with fail
    go_ret2
    exact ⟨HX.out _, Below.refl _ _⟩
  have hG : ¬ ¬ okG G := fun h => h ⟨by omega, by omega⟩
  by_cases c1 : s.size < 10
  · have HX := Lib.hid (fun W => psT_err (R := PA s.data.toList G) (w := W) (x := 3) (by unfold PA; rw [if_neg hG, if_pos (by rw [hsz]; exact c1)]))
    clear hsz hG
    go_enter Try.func28, Try.ntmps28
    go_wp2_with fail
    go_ret2
    exact ⟨HX.out _, Below.refl _ _⟩
  by_cases c2 : isN s.data.toList
  rotate_left
  · have HX := Lib.hid (fun W => psT_err (R := PA s.data.toList G) (w := W) (x := 4) (by unfold PA; rw [if_neg hG, if_neg (by rw [hsz]; exact c1), if_pos c2]))
    rw [decide_eq_false c2] at CI
    clear hsz hG c2
    go_enter Try.func28, Try.ntmps28
    go_wp2_with (go_at_call 27; (with_reducible refine (CI.out _).mono ?_); rintro e w1 ⟨rfl, rfl⟩)
    go_ret2
    exact ⟨HX.out _, Below.refl _ _⟩
  rw [decide_eq_true c2] at CI
  obtain ⟨R, hR⟩ : ∃ R, R = prs s.data.toList G 64 [] 10 := ⟨_, rfl⟩
  have hPA : PA s.data.toList G = R := by unfold PA; rw [if_neg hG, if_neg (by rw [hsz]; exact c1), if_neg (fun h => h c2), hR]
  rw [hPA]
  have HR0 := Lib.hid hR.symm
  have HE := Lib.hid (show ∀ x W, R = (x, []) → PsT R (.returned (.tuple #[.slice none 0 0, .int .i64 x])) W from fun x W h1 => psT_err h1)
  obtain ⟨i5, h5a, h5b, h5c, h5d⟩ := info_parts Try.info38z
  have H5 := Lib.hid (And.intro h5a (And.intro h5b (And.intro h5c h5d)))
  have hg0 : Rd 90 (w.alloc (.cells #[.string s, .int .i64 10, .bool false] 90)) w.heap.size s 10 false := heap_alloc_new w _
  obtain ⟨g, hgg⟩ : ∃ g, g = w.heap.size := ⟨_, rfl⟩
  obtain ⟨W0, hW0⟩ : ∃ W, W = w.alloc (.cells #[.string s, .int .i64 10, .bool false] 90) := ⟨_, rfl⟩
  have HBel := Lib.hid (show ∀ W, Onl g W0 W → Below w.heap.size w W from fun W ho => by
    have hb : Below w.heap.size w W0 := by rw [hW0]; exact (Below.refl _ _).alloc (Nat.le_refl _) _
    exact hb.trans (ho.below (by omega) hb.size))
  have HF := Lib.hid (show ∀ acc a A c w', R = (0, acc) → PwS 90 W0 w' g s a false (.slice A acc.length c) acc → PsT R (.returned (.tuple #[.slice A acc.length c, .int .i64 0])) w' from fun acc a A c w' h1 h2 => by
    subst h1
    exact ⟨A, _, c, rfl, rfl, _, h2.row⟩)
  rw [← hW0, ← hgg] at hg0
  have S := Lib.hid (PwS.start hg0 (by omega))
  have HW0 := Lib.hid hW0
  have HGG := Lib.hid hgg
  clear hsz hG c2 hR hPA h5a h5b h5c h5d hg0 hW0 hgg
  go_enter Try.func28, Try.ntmps28
  go_upto_region 8 with (go_at_call 27; (with_reducible refine (CI.out _).mono ?_); rintro e w1 ⟨rfl, rfl⟩)
  rw [← HW0.out, ← HGG.out]
  go_wp2_with fail
  go_loopw [7, 8] (fun v u wr => ∃ (acc : List Prt) (a : Nat) (A : Option Addr) (c : Nat) (mo : Bool), v = .slice A acc.length c ∧ u = .bool mo ∧ acc.length ≤ 64 ∧ (mo = true → prs s.data.toList G (64 - acc.length) acc a = R) ∧ (mo = false → R = (0, acc)) ∧ PwS 90 W0 wr g s a false (.slice A acc.length c) acc) (fun v u _ => leftV v u)
  case atStart => exact ⟨[], 10, none, 0, true, rfl, rfl, Nat.zero_le _, fun _ => HR0.out, (fun h => by cases h), S.out⟩
  case round =>
    obtain ⟨acc, a, A, c, mo, rfl, rfl, hk, hR1, hR2, hS⟩ := hrel
    have HS1 := Lib.hid hS
    cases mo
    · have HX := Lib.hid (HF.out acc a A c wr (hR2 rfl) hS)
      obtain ⟨k, hk2⟩ : ∃ k, k = acc.length := ⟨_, rfl⟩
      rw [← hk2] at HX ⊢
      clear hR1 hR2 hS hk hk2
      go_wp2_with fail
      go_ret2
      exact ⟨HX.out, HBel.out _ HS1.out.r.onl⟩
    · have hR := hR1 rfl
      by_cases h64 : acc.length = 64
      · have HX := Lib.hid (fun W => HE.out 6 W (by rw [← hR, h64]; rfl))
        clear hR1 hR2 hR hS
        rw [h64]
        clear h64 hk
        go_wp2_with fail
        go_ret2
        exact ⟨HX.out _, HBel.out _ HS1.out.r.onl⟩
      · have hgo : acc.length < 64 := by omega
        obtain ⟨t, ht⟩ : ∃ t, 64 - acc.length = t + 1 := ⟨63 - acc.length, by omega⟩
        have ht2 : t = 64 - (acc.length + 1) := by omega
        rw [ht] at hR
        unfold prs at hR
        have CP := Lib.hid (part_any g s a G wr hS.r.rd HS.out hS.r.le)
        obtain ⟨R1, hR1'⟩ : ∃ R1, R1 = prt s.data.toList G a := ⟨_, rfl⟩
        rw [← hR1'] at CP hR
        obtain ⟨x, hx⟩ : ∃ x, x = R1.1 := ⟨_, rfl⟩
        have e64 : ((acc.length : Int) == 64) = false := by simp; omega
        by_cases h0 : R1.1 = 0
        · rw [if_neg (fun h => h h0)] at hR
          have HR := Lib.hid hR
          have HT := Lib.hid ht2
          have CQ := Lib.hid (CP.out.mono (R' := fun e w' => ∃ (q : Prt) (n : Bool), e = .returned (.tuple #[.agg #[.int .i64 q.1, .int .i64 q.2.1, .int .i64 q.2.2.1, .int .i64 q.2.2.2.1, .int .i64 q.2.2.2.2.1, .int .i64 q.2.2.2.2.2.1, .int .i64 q.2.2.2.2.2.2], .bool n, .int .i64 0]) ∧ (q = R1.2.1 ∧ n = R1.2.2.1) ∧ PwS 90 W0 w' g s R1.2.2.2 false (.slice A acc.length c) acc) fun e w' ⟨q, n, h1, h2, h3⟩ => by
            obtain ⟨h4, h5, h6, h7⟩ := h3 h0
            exact ⟨q, n, by rw [h1, h0], ⟨h4, h5⟩, HS1.out.read h6 h2 h7⟩)
          obtain ⟨k, hk2⟩ : ∃ k, k = acc.length := ⟨_, rfl⟩
          have HK := Lib.hid hk2
          rw [← hk2] at hgo e64 CQ HT ⊢
          clear hR1 hR2 hR hS h64 ht ht2 hk hk2 hR1' hx h0 CP
          go_wp2_with (first
            | (go_at_call 45; (with_reducible refine CQ.out.mono ?_); rintro e w2 ⟨q, n, rfl, he, hS2⟩; have H2 := Lib.hid hS2; have HQ := Lib.hid he; have HB3 := Lib.hid ((show PwS 90 W0 w2 g s R1.2.2.2 false (.slice A k c) acc from hS2).next (((Below.refl _ w2).alloc (Nat.le_refl _) (.cells #[.int .i64 q.1, .int .i64 q.2.1, .int .i64 q.2.2.1, .int .i64 q.2.2.2.1, .int .i64 q.2.2.2.2.1, .int .i64 q.2.2.2.2.2.1, .int .i64 q.2.2.2.2.2.2] 54)).alloc (by simp) (.cells #[.int .i64 q.1, .int .i64 q.2.1, .int .i64 q.2.2.1, .int .i64 q.2.2.2.1, .int .i64 q.2.2.2.2.1, .int .i64 q.2.2.2.2.2.1, .int .i64 q.2.2.2.2.2.2] 54))); have HR3 := Lib.hid (show ((w2.alloc (.cells #[.int .i64 q.1, .int .i64 q.2.1, .int .i64 q.2.2.1, .int .i64 q.2.2.2.1, .int .i64 q.2.2.2.2.1, .int .i64 q.2.2.2.2.2.1, .int .i64 q.2.2.2.2.2.2] 54)).alloc (.cells #[.int .i64 q.1, .int .i64 q.2.1, .int .i64 q.2.2.1, .int .i64 q.2.2.2.1, .int .i64 q.2.2.2.2.1, .int .i64 q.2.2.2.2.2.1, .int .i64 q.2.2.2.2.2.2] 54)).ownsRow W0.heap.size 54 7 (.slice A k c) k (plC acc) from (by have h := HB3.out.row; rw [← HK.out] at h; exact h)); have HC3 := Lib.hid (two_new w2 (.cells #[.int .i64 q.1, .int .i64 q.2.1, .int .i64 q.2.2.1, .int .i64 q.2.2.2.1, .int .i64 q.2.2.2.2.1, .int .i64 q.2.2.2.2.2.1, .int .i64 q.2.2.2.2.2.2] 54) (prC q) 54); have HBs := Lib.hid HB3.out.r.onl.size; clear hS2 he)
            | (at_builtin; go_must (refine wpList_append_own _ rfl (.tmp 41) (.tmp 43) 48 rfl W0.heap.size 54 i5 _ 7 56 Try.underlying48 H5.out.1 H5.out.2.1 H5.out.2.2.1 H5.out.2.2.2 rfl (by decide) (.slice A k c) k (plC acc) rfl HR3.out ⟨w2.heap.size + 1, 0, none⟩ 1 1 (prC q) rfl rfl HC3.out (prC_one q) (by unfold maxLen; omega) (by omega) HBs.out ?_); intro v' w7 hown' hg' _; obtain ⟨A7, c7, rfl⟩ := own_form hown'; have H7 := Lib.hid (HB3.out.push (by decide) (p := q) (by rw [← HK.out]; exact hown') hg'); clear hown' hg'))
          have hl : (acc ++ [q]).length = k + 1 := by rw [List.length_append, ← HK.out]; rfl
          refine ⟨⟨acc ++ [q], R1.2.2.2, A7, c7, n, by rw [hl], rfl, by omega, fun hn => ?_, fun hn => ?_, by rw [hl]; exact H7.out⟩, ?_⟩
          · have h := HR.out
            rw [if_pos (by rw [← HQ.out.2]; exact hn)] at h
            rw [hl, ← HT.out, HQ.out.1]
            exact h
          · have h := HR.out
            rw [if_neg (by rw [← HQ.out.2, hn]; decide)] at h
            rw [HQ.out.1]
            exact h.symm
          · have hm : ∀ b : Bool, leftV (.slice A7 (k + 1) c7) (.bool b) < leftV (.slice A k c) (.bool true) := by
              intro b
              cases b
              · show 0 < 65 - k
                omega
              · show 65 - (k + 1) < 65 - k
                omega
            exact hm n
        · have HX := Lib.hid (fun W => HE.out R1.1 W (by rw [← hR, if_pos h0]))
          have CQ := Lib.hid (CP.out.mono (R' := fun e w' => ∃ (q : Prt) (n : Bool), e = .returned (.tuple #[.agg #[.int .i64 q.1, .int .i64 q.2.1, .int .i64 q.2.2.1, .int .i64 q.2.2.2.1, .int .i64 q.2.2.2.2.1, .int .i64 q.2.2.2.2.2.1, .int .i64 q.2.2.2.2.2.2], .bool n, .int .i64 R1.1]) ∧ Onl g W0 w') fun e w' ⟨q, n, h1, h2, _⟩ => ⟨q, n, h1, HS1.out.r.onl.trans h2⟩)
          rw [← hx] at h0 HX CQ
          obtain ⟨k, hk2⟩ : ∃ k, k = acc.length := ⟨_, rfl⟩
          rw [← hk2] at hgo e64 ⊢
          have e0 : (x == 0) = false := by simp [h0]
          have e0' : (x != 0) = true := by simp [h0]
          clear hR1 hR2 hR hS h64 ht ht2 hk hk2 hR1' hx h0 CP
          go_wp2_with (go_at_call 45; (with_reducible refine CQ.out.mono ?_); rintro e w2 ⟨q, n, rfl, ho⟩; have HO := Lib.hid ho; clear ho)
          go_ret2
          exact ⟨HX.out _, HBel.out _ (HO.out.trans (Onl.of ((Below.refl _ _).alloc (Nat.le_refl _) _)))⟩
theorem rparse_any (s : ByteArray) (G : Int) (w : World) (hs : s.size ≤ 1000000000) :
    Calls Try.prog 28 #[.string s, .int .i64 G] w fun e w' => PsP (PA s.data.toList G) e w' ∧ Below w.heap.size w w' := (rparse_own s G w hs).mono fun _ _ h => ⟨h.1.psp, h.2⟩
end Go.Proofs.Ytlfnagfcggmeaaa.C
