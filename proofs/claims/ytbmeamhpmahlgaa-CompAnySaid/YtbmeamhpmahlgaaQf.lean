/- Proved here: what readParts answers. Condition: a reader of a text of at most a billion bytes that has not failed. -/
import Derived.Test.YtbmeamhpmahlgaaQe
namespace Go.Proofs.Ytbmeamhpmahlgaa
open Go.RowKit

theorem Try.info38z : (Try.prog.info? 38).map (fun i => (i.zero, i.size, i.bytes)) = some (some (.agg #[.int .i64 0, .int .i64 0, .int .i64 0, .int .i64 0, .int .i64 0, .int .i64 0, .int .i64 0]), 7, 56) := by kernel_rfl
def lenV : Value → Nat
  | .slice _ n _ => n
  | _ => 0
/-- How many rounds are left. -/
def leftV (v u : Value) : Nat := match u with
  | .bool true => 65 - lenV v
  | _ => 0
/-- While a list of parts grows, and the reader reads. -/
structure PwS (T : TypeId) (w W : World) (g : Nat) (s : ByteArray) (a : Nat) (f : Bool) (v : Value) (l : List Prt) : Prop where
  r : RoS T w W g s a f
  row : W.ownsRow w.heap.size 38 7 v l.length (plC l)
section
variable {T : TypeId} {w W W' : World} {g : Nat} {s : ByteArray} {a : Nat} {f : Bool} {v : Value} {l : List Prt}
theorem PwS.start (h : Rd T w g s a f) (ha : a ≤ s.size) : PwS T w w g s a f (.slice none 0 0) [] := ⟨RoS.start h ha, World.ownsRow_nil _ _ _ _⟩
theorem PwS.next (h : PwS T w W g s a f v l) (hb : Below W.heap.size W W') : PwS T w W' g s a f v l := ⟨h.r.next hb, own_bel h.row hb⟩
theorem PwS.read (h : PwS T w W g s a f v l) {a' : Nat} {f' : Bool} (hr : Rd T W' g s a' f') (ho : Onl g W W') (hl : a' ≤ s.size) : PwS T w W' g s a' f' v l := ⟨h.r.read hr ho hl, own_onl h.row ho h.r.lg⟩
theorem PwS.push (h : PwS T w W g s a f v l) (hT : T ≠ 38) {v' : Value} {p : Prt} (ho : W'.ownsRow w.heap.size 38 7 v' (l.length + 1) (plC l ++ prC p)) (hg : W.grownBy W' v.ownBlock) : PwS T w W' g s a f v' (l ++ [p]) :=
  ⟨⟨onl_grown h.r.onl h.row hg, h.r.lg, (hg.block g h.r.rd.lt (own_not h.row h.r.rd hT)).trans h.r.rd, h.r.le⟩, by rw [plC_snoc, List.length_append]; exact ho⟩
end
/-- What readParts, Parse and the document's Parse answer. -/
def PsP (R : Int × List Prt) (e : Ending) (w' : World) : Prop := ∃ A k c, e = .returned (.tuple #[.slice A k c, .int .i64 R.1]) ∧ Prl w' A k R.2
theorem psP_err {R : Int × List Prt} {w : World} {x : Int} (h : R = (x, [])) : PsP R (.returned (.tuple #[.slice none 0 0, .int .i64 x])) w := by
  subst h
  exact ⟨none, 0, 0, rfl, Prl.nil w⟩
theorem two_new (w : World) (o : Obj) (xs : List Value) (t : TypeId) : ∀ j u, xs[j]? = some u → ((w.alloc o).alloc (.cells xs.toArray t)).cell? ((⟨w.heap.size + 1, 0, none⟩ : Addr).add j) = some u := by
  have h := cells_new (w.alloc o) xs t
  rw [show (w.alloc o).heap.size = w.heap.size + 1 by simp] at h
  exact h
theorem prC_one (p : Prt) : ∀ u ∈ prC p, u.oneCell' = true := by
  intro u hu
  simp [prC] at hu
  rcases hu with rfl | rfl | rfl | rfl | rfl | rfl | rfl <;> rfl
set_option maxHeartbeats 8000000 in
set_option maxRecDepth 100000 in
theorem readParts_any (g : Nat) (s : ByteArray) (a0 : Nat) (G : Int) (w : World) (h : Rd 79 w g s a0 false) (hs : s.size ≤ 1000000000) (ha : a0 ≤ s.size) :
    Calls Try.prog 29 #[.pointer (some ⟨g, 0, none⟩), .int .i64 G] w fun e w' => PsP (prs s.data.toList G 64 [] a0) e w' ∧ Onl g w w' := by
  have HS := Lib.hid hs
  have S := Lib.hid (PwS.start h ha)
  obtain ⟨R, hR⟩ : ∃ R, R = prs s.data.toList G 64 [] a0 := ⟨_, rfl⟩
  rw [← hR]
  have HR0 := Lib.hid hR.symm
  have HE := Lib.hid (show ∀ x W, R = (x, []) → PsP R (.returned (.tuple #[.slice none 0 0, .int .i64 x])) W from fun x W h1 => psP_err h1)
  have HF := Lib.hid (show ∀ acc a A c w', R = (0, acc) → PwS 79 w w' g s a false (.slice A acc.length c) acc → PsP R (.returned (.tuple #[.slice A acc.length c, .int .i64 0])) w' from fun acc a A c w' h1 h2 => by
    subst h1
    exact ⟨A, _, c, rfl, own_prl h2.row rfl⟩)
  obtain ⟨i5, h5a, h5b, h5c, h5d⟩ := info_parts Try.info38z
  have H5 := Lib.hid (And.intro h5a (And.intro h5b (And.intro h5c h5d)))
  clear h hs ha hR h5a h5b h5c h5d
  go_enter Try.func29, Try.ntmps29
  go_wp2_with fail
  go_loopw [6, 7] (fun v u wr => ∃ (acc : List Prt) (a : Nat) (A : Option Addr) (c : Nat) (mo : Bool), v = .slice A acc.length c ∧ u = .bool mo ∧ acc.length ≤ 64 ∧ (mo = true → prs s.data.toList G (64 - acc.length) acc a = R) ∧ (mo = false → R = (0, acc)) ∧ PwS 79 w wr g s a false (.slice A acc.length c) acc) (fun v u _ => leftV v u)
  case atStart => exact ⟨[], a0, none, 0, true, rfl, rfl, Nat.zero_le _, fun _ => HR0.out, (fun h => by cases h), S.out⟩
  case round =>
    obtain ⟨acc, a, A, c, mo, rfl, rfl, hk, hR1, hR2, hS⟩ := hrel
    have HS1 := Lib.hid hS
    cases mo
    · have HX := Lib.hid (HF.out acc a A c wr (hR2 rfl) hS)
      obtain ⟨k, hk2⟩ : ∃ k, k = acc.length := ⟨_, rfl⟩
      rw [← hk2] at HX ⊢
      clear hR1 hR2 hS hk hk2
      go_wp2_with fail
      go_ret2
      exact ⟨HX.out, HS1.out.r.onl⟩
    · have hR := hR1 rfl
      by_cases h64 : acc.length = 64
      · have HX := Lib.hid (fun W => HE.out 6 W (by rw [← hR, h64]; rfl))
        clear hR1 hR2 hR hS
        rw [h64]
        clear h64 hk
        go_wp2_with fail
        go_ret2
        exact ⟨HX.out _, HS1.out.r.onl⟩
      · have hgo : acc.length < 64 := by omega
        obtain ⟨t, ht⟩ : ∃ t, 64 - acc.length = t + 1 := ⟨63 - acc.length, by omega⟩
        have ht2 : t = 64 - (acc.length + 1) := by omega
        rw [ht] at hR
        unfold prs at hR
        have CP := Lib.hid (readPart_any g s a G wr hS.r.rd HS.out hS.r.le)
        obtain ⟨R1, hR1'⟩ : ∃ R1, R1 = prt s.data.toList G a := ⟨_, rfl⟩
        rw [← hR1'] at CP hR
        obtain ⟨x, hx⟩ : ∃ x, x = R1.1 := ⟨_, rfl⟩
        have e64 : ((acc.length : Int) == 64) = false := by simp; omega
        by_cases h0 : R1.1 = 0
        · rw [if_neg (fun h => h h0)] at hR
          have HR := Lib.hid hR
          have HT := Lib.hid ht2
          have CQ := Lib.hid (CP.out.mono (R' := fun e w' => ∃ (q : Prt) (n : Bool), e = .returned (.tuple #[.agg #[.int .i64 q.1, .int .i64 q.2.1, .int .i64 q.2.2.1, .int .i64 q.2.2.2.1, .int .i64 q.2.2.2.2.1, .int .i64 q.2.2.2.2.2.1, .int .i64 q.2.2.2.2.2.2], .bool n, .int .i64 0]) ∧ (q = R1.2.1 ∧ n = R1.2.2.1) ∧ PwS 79 w w' g s R1.2.2.2 false (.slice A acc.length c) acc) fun e w' ⟨q, n, h1, h2, h3⟩ => by
            obtain ⟨h4, h5, h6, h7⟩ := h3 h0
            exact ⟨q, n, by rw [h1, h0], ⟨h4, h5⟩, HS1.out.read h6 h2 h7⟩)
          obtain ⟨k, hk2⟩ : ∃ k, k = acc.length := ⟨_, rfl⟩
          have HK := Lib.hid hk2
          rw [← hk2] at hgo e64 CQ HT ⊢
          clear hR1 hR2 hR hS h64 ht ht2 hk hk2 hR1' hx h0 CP
          go_wp2_with (first
            | (go_at_call 48; (with_reducible refine CQ.out.mono ?_); rintro e w2 ⟨q, n, rfl, he, hS2⟩; have H2 := Lib.hid hS2; have HQ := Lib.hid he; have HB3 := Lib.hid ((show PwS 79 w w2 g s R1.2.2.2 false (.slice A k c) acc from hS2).next (((Below.refl _ w2).alloc (Nat.le_refl _) (.cells #[.int .i64 q.1, .int .i64 q.2.1, .int .i64 q.2.2.1, .int .i64 q.2.2.2.1, .int .i64 q.2.2.2.2.1, .int .i64 q.2.2.2.2.2.1, .int .i64 q.2.2.2.2.2.2] 38)).alloc (by simp) (.cells #[.int .i64 q.1, .int .i64 q.2.1, .int .i64 q.2.2.1, .int .i64 q.2.2.2.1, .int .i64 q.2.2.2.2.1, .int .i64 q.2.2.2.2.2.1, .int .i64 q.2.2.2.2.2.2] 38))); have HR3 := Lib.hid (show ((w2.alloc (.cells #[.int .i64 q.1, .int .i64 q.2.1, .int .i64 q.2.2.1, .int .i64 q.2.2.2.1, .int .i64 q.2.2.2.2.1, .int .i64 q.2.2.2.2.2.1, .int .i64 q.2.2.2.2.2.2] 38)).alloc (.cells #[.int .i64 q.1, .int .i64 q.2.1, .int .i64 q.2.2.1, .int .i64 q.2.2.2.1, .int .i64 q.2.2.2.2.1, .int .i64 q.2.2.2.2.2.1, .int .i64 q.2.2.2.2.2.2] 38)).ownsRow w.heap.size 38 7 (.slice A k c) k (plC acc) from (by have h := HB3.out.row; rw [← HK.out] at h; exact h)); have HC3 := Lib.hid (two_new w2 (.cells #[.int .i64 q.1, .int .i64 q.2.1, .int .i64 q.2.2.1, .int .i64 q.2.2.2.1, .int .i64 q.2.2.2.2.1, .int .i64 q.2.2.2.2.2.1, .int .i64 q.2.2.2.2.2.2] 38) (prC q) 38); have HBs := Lib.hid HB3.out.r.onl.size; clear hS2 he)
            | (at_builtin; go_must (refine wpList_append_own _ rfl (.tmp 25) (.tmp 27) 22 rfl w.heap.size 38 i5 _ 7 56 Try.underlying22 H5.out.1 H5.out.2.1 H5.out.2.2.1 H5.out.2.2.2 rfl (by decide) (.slice A k c) k (plC acc) rfl HR3.out ⟨w2.heap.size + 1, 0, none⟩ 1 1 (prC q) rfl rfl HC3.out (prC_one q) (by unfold maxLen; omega) (by omega) HBs.out ?_); intro v' w7 hown' hg' _; obtain ⟨A7, c7, rfl⟩ := own_form hown'; have H7 := Lib.hid (HB3.out.push (by decide) (p := q) (by rw [← HK.out]; exact hown') hg'); clear hown' hg'))
          have hl : (acc ++ [q]).length = k + 1 := by rw [List.length_append, ← HK.out]; rfl
          refine ⟨⟨acc ++ [q], R1.2.2.2, A7, c7, n, by rw [hl], rfl, by omega, fun hn => ?_, fun hn => ?_, by rw [hl]; exact H7.out⟩, ?_⟩
          · have h := HR.out
            rw [if_pos (by rw [← HQ.out.2]; exact hn)] at h
            rw [hl, ← HT.out, HQ.out.1]
            exact h
          · have h := HR.out
            rw [if_neg (by rw [← HQ.out.2, hn]; decide)] at h
            rw [HQ.out.1]
            exact h.symm
          · have hm : ∀ b : Bool, leftV (.slice A7 (k + 1) c7) (.bool b) < leftV (.slice A k c) (.bool true) := by
              intro b
              cases b
              · show 0 < 65 - k
                omega
              · show 65 - (k + 1) < 65 - k
                omega
            exact hm n
        · have HX := Lib.hid (fun W => HE.out R1.1 W (by rw [← hR, if_pos h0]))
          have CQ := Lib.hid (CP.out.mono (R' := fun e w' => ∃ (q : Prt) (n : Bool), e = .returned (.tuple #[.agg #[.int .i64 q.1, .int .i64 q.2.1, .int .i64 q.2.2.1, .int .i64 q.2.2.2.1, .int .i64 q.2.2.2.2.1, .int .i64 q.2.2.2.2.2.1, .int .i64 q.2.2.2.2.2.2], .bool n, .int .i64 R1.1]) ∧ Onl g w w') fun e w' ⟨q, n, h1, h2, _⟩ => ⟨q, n, h1, HS1.out.r.onl.trans h2⟩)
          rw [← hx] at h0 HX CQ
          obtain ⟨k, hk2⟩ : ∃ k, k = acc.length := ⟨_, rfl⟩
          rw [← hk2] at hgo e64 ⊢
          have e0 : (x == 0) = false := by simp [h0]
          have e0' : (x != 0) = true := by simp [h0]
          clear hR1 hR2 hR hS h64 ht ht2 hk hk2 hR1' hx h0 CP
          go_wp2_with (go_at_call 48; (with_reducible refine CQ.out.mono ?_); rintro e w2 ⟨q, n, rfl, ho⟩; have HO := Lib.hid ho; clear ho)
          go_ret2
          exact ⟨HX.out _, HO.out.trans (Onl.of ((Below.refl _ _).alloc (Nat.le_refl _) _))⟩
end Go.Proofs.Ytbmeamhpmahlgaa
