/- Proved here: what gather takes in of a segment. Condition: a text of at most a billion bytes; the pairs lie in a row of the call's own. -/
import Derived.Test.YtbmpdpajnmjfpaaVc
namespace Go.Proofs.Ytbmpdpajnmjfpaa
open Go.RowKit

/-- While a segment's code points are taken in: what was gathered, and the segment's box. -/
structure GsS (B b : Nat) (w W : World) (g : Int) (ps : List (Int × Int)) (o : Nat) (x y z u v : Int) : Prop where
  kp : KpG B b w W
  gt : Gt B W b g ps
  box : Bs W o x y z u v
section
variable {B b o : Nat} {w W W' : World} {g x y z u v : Int} {ps ps' : List (Int × Int)}
theorem GsS.next (h : GsS B b w W g ps o x y z u v) (hb : Below W.heap.size W W') : GsS B b w W' g ps o x y z u v := ⟨h.kp.trans (KpG.of hb), h.gt.next hb, h.box.bel hb⟩
theorem GsS.add (h : GsS B b w W g ps o x y z u v) (hg : Gt B W' b g ps') (k : KpG B b W W') : GsS B b w W' g ps' o x y z u v := ⟨h.kp.trans k, hg, h.gt.keep k h.box (by decide) (by decide)⟩
theorem GsS.le (h : GsS B b w W g ps o x y z u v) (hB : B ≤ w.heap.size) : B ≤ W.heap.size := Nat.le_trans hB h.kp.size
end
theorem gly_err (P : List UInt8) (F D J a c : Nat) : (gly P F D J a c).2 = 0 ∨ (gly P F D J a c).2 = 3 := by
  unfold gly
  split
  · exact .inl rfl
  · split
    · exact .inr rfl
    · split
      · exact .inl rfl
      · exact .inl rfl
set_option maxHeartbeats 8000000 in
set_option maxRecDepth 100000 in
theorem gather_any (B b : Nat) (g : Int) (s : ByteArray) (F T D J at_ : Nat) (ps : List (Int × Int)) (w : World) (hG : Gt B w b g ps) (hB : B ≤ w.heap.size) (hl : ps.length ≤ 4096) (hs : s.size ≤ 1000000000) (hFT : F ≤ T) (hT : T < 65536) (hD : D < 65536) (hJ : J < 65536) (ha : at_ < 1000000) :
    Calls Try.prog 47 #[.agg #[.int .i64 (F : Int), .int .i64 (T : Int), .int .i64 (D : Int), .int .i64 (J : Int), .int .i64 (at_ : Int)], .string s, .pointer (some ⟨b, 0, none⟩)] w (fun e w' => GaP B b g (codes g (gly s.data.toList F D J at_) F (T + 1 - F) (0, ps)) w e w' ∧ ((codes g (gly s.data.toList F D J at_) F (T + 1 - F) (0, ps)).1 = 0 → (codes g (gly s.data.toList F D J at_) F (T + 1 - F) (0, ps)).2.length ≤ 4096)) := by
  have CG := Lib.hid (fun c W (h1 : F ≤ c) (h2 : c < 65536) => glyph_any s F T D J at_ c W hs h1 h2 hD hJ ha)
  have HGE := Lib.hid (fun c => gly_err s.data.toList F D J at_ c)
  obtain ⟨f, hf⟩ : ∃ f, f = gly s.data.toList F D J at_ := ⟨_, rfl⟩
  obtain ⟨N, hN⟩ : ∃ N, N = T + 1 - F := ⟨_, rfl⟩
  rw [← hf] at CG HGE ⊢
  rw [← hN]
  have HXY := Lib.hid (show F + N = T + 1 by omega)
  have HB := Lib.hid hB
  have HPL := Lib.hid hl
  have H0 := Lib.hid (show GsS B b w (w.alloc (.cells #[.int .i64 (F : Int), .int .i64 (T : Int), .int .i64 (D : Int), .int .i64 (J : Int), .int .i64 (at_ : Int)] 96)) g ps w.heap.size F T D J at_ from ⟨KpG.of ((Below.refl _ _).alloc (Nat.le_refl _) _), hG.next ((Below.refl _ _).alloc (Nat.le_refl _) _), heap_alloc_new w _⟩)
  have HErr := Lib.hid (show ∀ j (r : Int × List (Int × Int)) w', j < N → codes g f F (j + 1) (0, ps) = r → r.1 ≠ 0 → KpG B b w w' → (GaP B b g (codes g f F N (0, ps)) w (.returned (.int .i64 r.1)) w' ∧ ((codes g f F N (0, ps)).1 = 0 → (codes g f F N (0, ps)).2.length ≤ 4096)) from fun j r w' h1 h2 h3 h4 => by
    rw [codes_stick (k := j + 1) (by rw [h2]; exact h3) N (by omega), h2]
    exact ⟨⟨rfl, h4, fun h => absurd h h3⟩, fun h => absurd h h3⟩)
  clear hf hN hB hG hs hl
  go_enter Try.func47, Try.ntmps47
  go_upto_region 1 with fail
  obtain ⟨o, ho⟩ : ∃ o, o = w.heap.size := ⟨_, rfl⟩
  obtain ⟨W0, hW0⟩ : ∃ W, W = w.alloc (.cells #[.int .i64 (F : Int), .int .i64 (T : Int), .int .i64 (D : Int), .int .i64 (J : Int), .int .i64 (at_ : Int)] 96) := ⟨_, rfl⟩
  rw [← hW0, ← ho] at H0
  rw [← hW0, ← ho]
  clear hW0 ho
  obtain ⟨d0, d1, d2, d3, d4⟩ := H0.out.box.cells
  go_wp2_with fail
  go_loopw [7] (fun v wr => ∃ (j : Nat) (qs : List (Int × Int)), v = .int .i64 ((F + j : Nat) : Int) ∧ j ≤ N ∧ codes g f F j (0, ps) = (0, qs) ∧ qs.length ≤ 4096 ∧ GsS B b w wr g qs o F T D J at_) (fun v _ => T + 1 - (intOf v).toNat)
  case atStart => exact ⟨0, ps, rfl, Nat.zero_le _, rfl, HPL.out, H0.out⟩
  case round =>
    obtain ⟨j, qs, rfl, hj, hco, hql, hS⟩ := hrel
    have HSj := Lib.hid hS
    have HCo := Lib.hid hco
    have HQl := Lib.hid hql
    have hxj := HXY.out
    obtain ⟨c, hc⟩ : ∃ c, c = F + j := ⟨_, rfl⟩
    rw [← hc]
    clear d0 d1 d2 d3 d4
    obtain ⟨d0, d1, d2, d3, d4⟩ := hS.box.cells
    by_cases hgj : j < N
    · have hcT : c ≤ T := by omega
      have CGc := Lib.hid (fun W => CG.out c W (by omega) (by omega))
      have HNX := Lib.hid (codes_next hco)
      rw [← hc] at HNX
      have HGEc := Lib.hid (HGE.out c)
      obtain ⟨x, hx⟩ : ∃ x, x = (f c).1 := ⟨_, rfl⟩
      obtain ⟨y, hy⟩ : ∃ x, x = (f c).2 := ⟨_, rfl⟩
      rw [← hx, ← hy] at CGc HNX
      rw [← hy] at HGEc
      have HC := Lib.hid hc
      by_cases hy0 : y = 0
      · rw [if_pos hy0] at HNX
        have CA := Lib.hid (fun W (h : Gt B W b g qs) (hB : B ≤ W.heap.size) => add_any B b g qs (c : Int) x W h hB hql)
        have HAL := Lib.hid (addE_len g qs (c : Int) x hql)
        obtain ⟨r, hr⟩ : ∃ r, r = addE g qs (c : Int) x := ⟨_, rfl⟩
        rw [← hr] at CA HNX HAL
        obtain ⟨r1, r2⟩ := r
        simp only at CA HAL
        subst hy0
        clear hS hco hql hr hc hxj hx hy
        by_cases hr0 : r1 = 0
        · subst hr0
          go_wp2_with (first
            | (go_at_call 59; (with_reducible refine (CGc.out _).mono ?_); rintro e w4 ⟨rfl, hb⟩; have H4 := Lib.hid (HSj.out.next hb); clear hb)
            | (go_at_call 43; (with_reducible refine (CA.out _ H4.out.gt (H4.out.le HB.out)).mono ?_); rintro e w5 ⟨rfl, hg5, hk5⟩; have H5 := Lib.hid (H4.out.add hg5 hk5); clear hg5 hk5))
          exact ⟨⟨j + 1, r2, by have := HC.out; simp; omega, by omega, HNX.out, HAL.out, H5.out⟩, by have := HC.out; have := HXY.out; simp [intOf]; omega⟩
        · have e3 : (r1 != 0) = true := by simp [hr0]
          have HQ := Lib.hid (fun w' h => HErr.out j _ w' hgj HNX.out hr0 h)
          clear hr0
          go_wp2_with (first
            | (go_at_call 59; (with_reducible refine (CGc.out _).mono ?_); rintro e w4 ⟨rfl, hb⟩; have H4 := Lib.hid (HSj.out.next hb); clear hb)
            | (go_at_call 43; (with_reducible refine (CA.out _ H4.out.gt (H4.out.le HB.out)).mono ?_); rintro e w5 ⟨rfl, hg5, hk5⟩; have H5 := Lib.hid (H4.out.kp.trans hk5); clear hg5 hk5))
          go_ret
          exact HQ.out _ H5.out
      · rw [if_neg hy0] at HNX
        have e3 : (y != 0) = true := by simp [hy0]
        have HQ := Lib.hid (fun w' h => HErr.out j _ w' hgj HNX.out hy0 h)
        clear hS hco hql hc hxj hx hy hy0
        go_wp2_with (go_at_call 59; (with_reducible refine (CGc.out _).mono ?_); rintro e w4 ⟨rfl, hb⟩; have H4 := Lib.hid (HSj.out.next hb); clear hb)
        go_ret
        exact HQ.out _ H4.out.kp
    · obtain rfl : j = N := by omega
      have hcT : ¬ c ≤ T := by omega
      have HQ := Lib.hid (show GaP B b g (codes g f F j (0, ps)) w (.returned (.int .i64 0)) wr ∧ ((codes g f F j (0, ps)).1 = 0 → (codes g f F j (0, ps)).2.length ≤ 4096) by rw [hco]; exact ⟨⟨rfl, hS.kp, fun _ => hS.gt⟩, fun _ => hql⟩)
      clear hS hco hql hc hxj
      go_wp2_with fail
      go_ret
      exact HQ.out
end Go.Proofs.Ytbmpdpajnmjfpaa
