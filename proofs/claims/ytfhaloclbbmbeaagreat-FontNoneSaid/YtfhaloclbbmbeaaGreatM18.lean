/- Proved here: what readLong gathers. Condition: a text of at most a billion bytes; the pairs lie in a row of the call's own · whether pairs may be, in the program and in the document. Condition: pairs that lie in memory · whether pairs may be in the document; whether two lists of pairs are the same, and the first pair of a code, in the document. Condition: pairs that lie in memory · the first pair of a code, in the program. Condition: pairs whose codes rise. -/
import Derived.Test.YtfhaloclbbmbeaaGreatM17
import Derived.Test.YtfhaloclbbmbeaaGreatM15
namespace Go.Proofs.YtfhaloclbbmbeaaGreat
open Go.RowKit
theorem Gt.onl {B b rg : Nat} {w w' : World} {g : Int} {ps : List (Int × Int)} {s : ByteArray} {a : Nat} {f : Bool} (h : Gt B w b g ps) (hr : Rd 278 w rg s a f) (ho : Onl rg w w') : Gt B w' b g ps := by
  have hne := h.ne hr (by decide)
  obtain ⟨v, hx⟩ := h
  refine ⟨v, (ho.block b (heap_lt hx.box) hne.symm).trans hx.box, hx.own.1, ?_⟩
  rcases hx.own.2 with h0 | ⟨k, cap, cur, hv, hg, hh, rest⟩
  · exact .inl h0
  · refine .inr ⟨k, cap, cur, hv, hg, ?_, rest⟩
    refine (ho.block k (heap_lt hh) fun e => ?_).trans hh
    unfold Rd at hr
    rw [e, hr] at hh
    injection hh with hh
    injection hh with _ hh _
    exact absurd hh (by decide)
structure LsS (B b : Nat) (w W : World) (rg : Nat) (s : ByteArray) (a : Nat) (g : Int) (ps : List (Int × Int)) : Prop where
  kp : KpG B b w W
  og : w.heap.size ≤ rg
  rd : Rd 278 W rg s a false
  gt : Gt B W b g ps
section
variable {B b rg a : Nat} {w W W' : World} {s : ByteArray} {g : Int} {ps ps' : List (Int × Int)}
theorem kp_onl (ho : Onl rg W W') (k : KpG B b w W) (hg : w.heap.size ≤ rg) : KpG B b w W' :=
  ⟨ho.os.trans k.os, ho.tape.trans k.tape, ho.output.trans k.output, Nat.le_trans k.size ho.size, fun j h1 h2 h3 => (ho.block j (Nat.lt_of_lt_of_le h1 k.size) (by omega)).trans (k.block j h1 h2 h3)⟩
theorem LsS.next (h : LsS B b w W rg s a g ps) (hb : Below W.heap.size W W') : LsS B b w W' rg s a g ps := ⟨h.kp.trans (KpG.of hb), h.og, h.rd.bel hb, h.gt.next hb⟩
theorem LsS.read (h : LsS B b w W rg s a g ps) {a' : Nat} (hr : Rd 278 W' rg s a' false) (ho : Onl rg W W') : LsS B b w W' rg s a' g ps := ⟨kp_onl ho h.kp h.og, h.og, hr, h.gt.onl h.rd ho⟩
theorem LsS.add (h : LsS B b w W rg s a g ps) (hg : Gt B W' b g ps') (k : KpG B b W W') : LsS B b w W' rg s a g ps' := ⟨h.kp.trans k, h.og, h.gt.keep k h.rd (by decide) (by decide), hg⟩
theorem LsS.le (h : LsS B b w W rg s a g ps) (hB : B ≤ w.heap.size) : B ≤ W.heap.size := Nat.le_trans hB h.kp.size
end
structure LbS (B b : Nat) (w W : World) (rg : Nat) (s : ByteArray) (a : Nat) (g : Int) (ps : List (Int × Int)) (u : Nat) (x y z : Int) : Prop where
  l : LsS B b w W rg s a g ps
  box : Bz W u x y z
section
variable {B b rg a u : Nat} {w W W' : World} {s : ByteArray} {g x y z : Int} {ps ps' : List (Int × Int)}
theorem LbS.next (h : LbS B b w W rg s a g ps u x y z) (hb : Below W.heap.size W W') : LbS B b w W' rg s a g ps u x y z := ⟨h.l.next hb, h.box.bel hb⟩
theorem LbS.add (h : LbS B b w W rg s a g ps u x y z) (hg : Gt B W' b g ps') (k : KpG B b W W') : LbS B b w W' rg s a g ps' u x y z := ⟨h.l.add hg k, h.l.gt.keep k h.box (by decide) (by decide)⟩
theorem LsS.box (h : LsS B b w W rg s a g ps) (x y z : Int) : LbS B b w (W.alloc (.cells #[.int .i64 x, .int .i64 y, .int .i64 z] 296)) rg s a g ps W.heap.size x y z := ⟨h.next ((Below.refl _ _).alloc (Nat.le_refl _) _), heap_alloc_new W _⟩
end
def GaP (B b : Nat) (g : Int) (r : Int × List (Int × Int)) (w : World) (e : Ending) (w' : World) : Prop := e = .returned (.int .i64 r.1) ∧ KpG B b w w' ∧ (r.1 = 0 → Gt B w' b g r.2)
theorem addE_next {g : Int} {ps : List (Int × Int)} {c x : Int} {f : Nat → Int × Int} {a k : Nat} {s : Int × List (Int × Int)} (h : codes g f a k s = (0, ps)) (h0 : (f (a + k)).2 = 0) (h1 : (f (a + k)).1 = x) (hc : ((a + k : Nat) : Int) = c) : codes g f a (k + 1) s = addE g ps c x := by
  rw [codes_next h, if_pos h0, h1, hc]
set_option maxHeartbeats 8000000 in
set_option maxRecDepth 100000 in
theorem readLong_any (B b : Nat) (g : Int) (s : ByteArray) (a : Nat) (w : World) (hG : Gt B w b g []) (hB : B ≤ w.heap.size) (hs : s.size ≤ 1000000000) (ha : a < 4294967296) (_hg : g ≤ 1024) :
    Calls Tryz.prog 154 #[.string s, .int .i64 (a : Int), .pointer (some ⟨b, 0, none⟩)] w (GaP B b g (longS g s.data.toList a) w) := by
  have CO := Lib.hid (openLong_any s a w hs ha)
  have HG := Lib.hid hG
  have HB := Lib.hid hB
  have HS := Lib.hid hs
  by_cases hE : longE s.data.toList a = 0
  · have hlS : longS g s.data.toList a = grps g s.data.toList (a + 16) (n4 s.data.toList (a + 12)) := if_pos hE
    have hsz : a + 16 + 12 * n4 s.data.toList (a + 12) ≤ s.size := by
      unfold longE at hE
      rw [size_list] at hE
      split at hE
      · exact absurd hE (by decide)
      · split at hE
        · split at hE
          · exact absurd hE (by decide)
          · omega
        · exact absurd hE (by decide)
    have bn := n4_lt s.data.toList (a + 12)
    obtain ⟨n, hn⟩ : ∃ n, n = n4 s.data.toList (a + 12) := ⟨_, rfl⟩
    have CO2 := Lib.hid (show Calls Tryz.prog 213 #[.string s, .int .i64 (a : Int)] w fun e w' => ∃ rg, e = .returned (.tuple #[.pointer (some ⟨rg, 0, none⟩), .int .i64 (n : Int), .int .i64 0]) ∧ LsS B b w w' rg s (a + 16) g [] from
      CO.out.mono fun e w' ⟨h1, _, h3⟩ => by
        obtain ⟨rg, h4, h5, h6⟩ := h3 hE
        exact ⟨rg, by rw [hn]; exact h4, KpG.of h1, h5, h6, hG.next h1⟩)
    obtain ⟨p0, hp0⟩ : ∃ p, p = a + 16 := ⟨_, rfl⟩
    rw [← hn, ← hp0] at hlS
    rw [← hp0] at CO2
    rw [← hn, ← hp0] at hsz
    rw [← hn] at bn
    have HFin := Lib.hid (show ∀ i (r : Int × List (Int × Int)) w', i ≤ n → grps g s.data.toList p0 i = r → r.1 ≠ 0 → KpG B b w w' → GaP B b g (longS g s.data.toList a) w (.returned (.int .i64 r.1)) w' from fun i r w' h1 h2 h3 h4 => by
      have h5 := grps_stick (g := g) (l := s.data.toList) (b := p0) (k := i) (by rw [h2]; exact h3) n h1
      rw [hlS, h5, h2]
      exact ⟨rfl, h4, fun h => absurd h h3⟩)
    have HFok := Lib.hid (show ∀ ps w', grps g s.data.toList p0 n = (0, ps) → KpG B b w w' → Gt B w' b g ps → GaP B b g (longS g s.data.toList a) w (.returned (.int .i64 0)) w' from fun ps w' h1 h2 h3 => by
      rw [hlS, h1]
      exact ⟨rfl, h2, fun _ => h3⟩)
    clear hE hlS hn hp0 CO hG hB hs ha
    go_enter Tryz.func154, Tryz.ntmps154
    go_wp2_with (go_at_call 213; (with_reducible refine CO2.out.mono ?_); rintro e w1 ⟨rg, rfl, hl⟩; have HL := Lib.hid hl; clear hl)
    go_loopw [10, 25] (fun v i wr => ∃ (k : Nat) (ps : List (Int × Int)), i = .int .i64 (k : Int) ∧ k ≤ n ∧ v = .int .i64 (ahT s.data.toList p0 k) ∧ grps g s.data.toList p0 k = (0, ps) ∧ ps.length ≤ 4096 ∧ LsS B b w wr rg s (p0 + 12 * k) g ps) (fun _ i _ => n - (intOf i).toNat)
    case atStart => exact ⟨0, [], rfl, Nat.zero_le _, rfl, rfl, by simp, HL.out⟩
    case round =>
      obtain ⟨k, ps, rfl, hk, rfl, hgr, hpl, hS⟩ := hrel
      have HSt := Lib.hid hS
      have HGr := Lib.hid hgr
      by_cases hgo : k < n
      · have CR := Lib.hid (readRun_any s rg (p0 + 12 * k) wr hS.rd HS.out (by omega))
        have HNX := Lib.hid (show grps g s.data.toList p0 (k + 1) = if (gF s.data.toList p0 k : Int) ≤ ahT s.data.toList p0 k ∨ gT s.data.toList p0 k < gF s.data.toList p0 k ∨ 1114111 < gT s.data.toList p0 k then (4, ps)
          else codes g (fun c => ((gG s.data.toList p0 k : Int) + (c : Int) - (gF s.data.toList p0 k : Int), 0)) (gF s.data.toList p0 k) (gT s.data.toList p0 k + 1 - gF s.data.toList p0 k) (0, ps) by simp only [grps]; rw [stick_ok hgr])
        have HAT := Lib.hid (show ahT s.data.toList p0 (k + 1) = (gT s.data.toList p0 k : Int) from rfl)
        have HPX := Lib.hid (show p0 + 12 * (k + 1) = p0 + 12 * k + 4 + 4 + 4 by omega)
        have b1 := n4_lt s.data.toList (p0 + 12 * k)
        have b2 := n4_lt s.data.toList (p0 + 12 * k + 4)
        have b3 := n4_lt s.data.toList (p0 + 12 * k + 4 + 4)
        have hah : -1 ≤ ahT s.data.toList p0 k ∧ ahT s.data.toList p0 k < 4294967296 := by
          cases k with
          | zero => exact ⟨Int.le_refl _, by show (-1 : Int) < _; omega⟩
          | succ k => have := n4_lt s.data.toList (p0 + 12 * k + 4); exact ⟨by show (-1 : Int) ≤ (gT s.data.toList p0 k : Int); omega, by show (gT s.data.toList p0 k : Int) < _; unfold gT; omega⟩
        obtain ⟨x, hx⟩ : ∃ x, x = n4 s.data.toList (p0 + 12 * k) := ⟨_, rfl⟩
        obtain ⟨y, hy⟩ : ∃ x, x = n4 s.data.toList (p0 + 12 * k + 4) := ⟨_, rfl⟩
        obtain ⟨z, hz⟩ : ∃ x, x = n4 s.data.toList (p0 + 12 * k + 4 + 4) := ⟨_, rfl⟩
        rw [← hx, ← hy, ← hz] at CR
        rw [show gF s.data.toList p0 k = x from hx.symm, show gT s.data.toList p0 k = y from hy.symm, show gG s.data.toList p0 k = z from hz.symm] at HNX
        rw [show gT s.data.toList p0 k = y from hy.symm] at HAT
        obtain ⟨ah, hahd⟩ : ∃ v, v = ahT s.data.toList p0 k := ⟨_, rfl⟩
        rw [← hahd] at HNX hah ⊢
        rw [← hx] at b1
        rw [← hy] at b2
        rw [← hz] at b3
        obtain ⟨pk, hpk⟩ : ∃ v, v = p0 + 12 * k := ⟨_, rfl⟩
        rw [← hpk] at CR HPX HSt
        clear hS hgr hx hy hz hahd hpk
        go_upto_region 8 with (go_at_call 214; (with_reducible refine CR.out.mono ?_); rintro e w2 ⟨rfl, hr, ho⟩; have H1 := Lib.hid (HSt.out.read hr ho); clear hr ho)
        have H2 := Lib.hid (H1.out.box (x : Int) (y : Int) (z : Int))
        obtain ⟨u, hu⟩ : ∃ u, u = w2.heap.size := ⟨_, rfl⟩
        obtain ⟨W2, hW2⟩ : ∃ W, W = w2.alloc (.cells #[.int .i64 (x : Int), .int .i64 (y : Int), .int .i64 (z : Int)] 296) := ⟨_, rfl⟩
        rw [← hu, ← hW2] at H2
        rw [← hu, ← hW2]
        clear hu hW2 H1 HSt CR
        obtain ⟨d0, d1, d2⟩ := H2.out.box.cells
        by_cases hw1 : (x : Int) ≤ ah
        · have HQ := Lib.hid (fun w' h => HFin.out (k + 1) _ w' hgo (by rw [HNX.out, if_pos (.inl hw1)]) (by show (4 : Int) ≠ 0; decide) h)
          clear HNX hah
          go_wp2_with fail
          go_ret
          exact HQ.out _ H2.out.l.kp
        · by_cases hw2 : y < x
          · have HQ := Lib.hid (fun w' h => HFin.out (k + 1) _ w' hgo (by rw [HNX.out, if_pos (.inr (.inl hw2))]) (by show (4 : Int) ≠ 0; decide) h)
            clear HNX hah
            go_wp2_with fail
            go_ret
            exact HQ.out _ H2.out.l.kp
          · by_cases hw3 : 1114111 < y
            · have HQ := Lib.hid (fun w' h => HFin.out (k + 1) _ w' hgo (by rw [HNX.out, if_pos (.inr (.inr hw3))]) (by show (4 : Int) ≠ 0; decide) h)
              clear HNX hah
              go_wp2_with fail
              go_ret
              exact HQ.out _ H2.out.l.kp
            · have HNX2 := Lib.hid (show grps g s.data.toList p0 (k + 1) = codes g (fun c => ((z : Int) + (c : Int) - (x : Int), 0)) x (y + 1 - x) (0, ps) by rw [HNX.out, if_neg (by omega)])
              obtain ⟨f, hf⟩ : ∃ f : Nat → Int × Int, f = fun c : Nat => ((z : Int) + (c : Int) - (x : Int), 0) := ⟨_, rfl⟩
              rw [← hf] at HNX2
              have HFv := Lib.hid (show ∀ c, f c = ((z : Int) + (c : Int) - (x : Int), 0) from fun c => by rw [hf])
              clear HNX hah hf
              obtain ⟨N, hN⟩ : ∃ N, N = y + 1 - x := ⟨_, rfl⟩
              rw [← hN] at HNX2
              have hxy : x + N = y + 1 := by omega
              have HXY := Lib.hid hxy
              have HErr := Lib.hid (show ∀ j (r : Int × List (Int × Int)) w', j < N → codes g f x (j + 1) (0, ps) = r → r.1 ≠ 0 → KpG B b w w' → GaP B b g (longS g s.data.toList a) w (.returned (.int .i64 r.1)) w' from fun j r w' h1 h2 h3 h4 =>
                HFin.out (k + 1) r w' hgo (by rw [HNX2.out, codes_stick (k := j + 1) (by rw [h2]; exact h3) N (by omega), h2]) h3 h4)
              have HPL := Lib.hid hpl
              clear hN hpl hxy
              go_wp2_with fail
              go_loopw [12] (fun v wr => ∃ (j : Nat) (qs : List (Int × Int)), v = .int .i64 ((x + j : Nat) : Int) ∧ j ≤ N ∧ codes g f x j (0, ps) = (0, qs) ∧ qs.length ≤ 4096 ∧ LbS B b w wr rg s (pk + 4 + 4 + 4) g qs u (x : Int) (y : Int) (z : Int)) (fun v _ => y + 1 - (intOf v).toNat)
              case atStart => exact ⟨0, ps, rfl, Nat.zero_le _, rfl, HPL.out, H2.out⟩
              case round =>
                obtain ⟨j, qs, rfl, hj, hco, hql, hS⟩ := hrel
                have HSj := Lib.hid hS
                have HCo := Lib.hid hco
                have HQl := Lib.hid hql
                have hxj := HXY.out
                obtain ⟨c, hc⟩ : ∃ c, c = x + j := ⟨_, rfl⟩
                rw [← hc]
                clear d0 d1 d2
                obtain ⟨d0, d1, d2⟩ := hS.box.cells
                by_cases hgj : j < N
                · have CA := Lib.hid (add_any B b g qs (c : Int) ((z : Int) + (c : Int) - (x : Int)) wr hS.l.gt (hS.l.le HB.out) hql)
                  have e1 : IntKind.i64.wrap ((z : Int) + (c : Int)) = (z : Int) + (c : Int) := i64_in _ (by omega)
                  have e2 : IntKind.i64.wrap ((z : Int) + (c : Int) - (x : Int)) = (z : Int) + (c : Int) - (x : Int) := i64_in _ (by omega)
                  have HCN := Lib.hid (show codes g f x (j + 1) (0, ps) = addE g qs (c : Int) ((z : Int) + (c : Int) - (x : Int)) from addE_next hco (by rw [HFv.out]) (by rw [HFv.out, ← hc]) (by rw [hc]))
                  have HAL := Lib.hid (addE_len g qs (c : Int) ((z : Int) + (c : Int) - (x : Int)) hql)
                  obtain ⟨r, hr⟩ : ∃ r, r = addE g qs (c : Int) ((z : Int) + (c : Int) - (x : Int)) := ⟨_, rfl⟩
                  rw [← hr] at CA HCN HAL
                  have HC := Lib.hid hc
                  have hcy : c ≤ y := by omega
                  obtain ⟨r1, r2⟩ := r
                  simp only at CA HAL
                  clear hS hco hql hr hc hxj
                  by_cases hr0 : r1 = 0
                  · subst hr0
                    go_wp2_with (go_at_call 215; (with_reducible refine CA.out.mono ?_); rintro e w5 ⟨rfl, hg5, hk5⟩; have H5 := Lib.hid (HSj.out.add hg5 hk5); clear hg5 hk5)
                    exact ⟨⟨j + 1, r2, by have := HC.out; simp; omega, by omega, HCN.out, HAL.out, H5.out⟩, by have := HC.out; have := HXY.out; simp [intOf]; omega⟩
                  · have e3 : (r1 != 0) = true := by simp [hr0]
                    have HQ := Lib.hid (fun w' h => HErr.out j _ w' hgj HCN.out hr0 h)
                    clear hr0
                    go_wp2_with (go_at_call 215; (with_reducible refine CA.out.mono ?_); rintro e w5 ⟨rfl, hg5, hk5⟩; have H5 := Lib.hid (HSj.out.l.kp.trans hk5); clear hg5 hk5)
                    go_ret
                    exact HQ.out _ H5.out
                · obtain rfl : j = N := by omega
                  have hcy : ¬ c ≤ y := by omega
                  have HX1 := Lib.hid (HNX2.out.trans hco)
                  clear hS hco hql hc hxj
                  go_wp2_with fail
                  exact ⟨⟨k + 1, qs, by simp, by omega, by rw [HAT.out], HX1.out, HQl.out, by rw [HPX.out]; exact HSj.out.l⟩, by simp [intOf]; omega⟩
      · obtain rfl : k = n := by omega
        go_wp2_with fail
        go_ret
        exact HFok.out ps _ hgr hS.kp hS.gt
  · have hlS : longS g s.data.toList a = (longE s.data.toList a, []) := if_neg hE
    have CO2 := Lib.hid (show Calls Tryz.prog 213 #[.string s, .int .i64 (a : Int)] w fun e w' => e = .returned (.tuple #[.pointer none, .int .i64 0, .int .i64 (longE s.data.toList a)]) ∧ Below w.heap.size w w' from
      CO.out.mono fun e w' ⟨h1, h2, _⟩ => ⟨h2 hE, h1⟩)
    have HQ := Lib.hid (show ∀ w', Below w.heap.size w w' → GaP B b g (longS g s.data.toList a) w (.returned (.int .i64 (longE s.data.toList a))) w' from fun w' h => by rw [hlS]; exact ⟨rfl, KpG.of h, fun h => absurd h hE⟩)
    obtain ⟨x, hx⟩ : ∃ x, x = longE s.data.toList a := ⟨_, rfl⟩
    rw [← hx] at CO2 HQ hE
    have e1 : (x != 0) = true := by simp [hE]
    clear hlS hx CO hG hB hs ha hE
    go_enter Tryz.func154, Tryz.ntmps154
    go_wp2_with (go_at_call 213; (with_reducible refine CO2.out.mono ?_); rintro e w1 ⟨rfl, hb⟩; have HBw := Lib.hid hb; clear hb)
    go_ret
    exact HQ.out _ HBw.out
end Go.Proofs.YtfhaloclbbmbeaaGreat
namespace Go.Proofs.YtfhaloclbbmbeaaGreat
open Go.RowKit
theorem glyphs_any (g : Int) (w : World) : Calls Tryz.prog 95 #[.int .i64 g] w fun e w' => e = .returned (.bool (decide (1 ≤ g ∧ g ≤ 1024))) ∧ w = w' := by
  by_cases h1 : 1 ≤ g
  · by_cases h2 : g ≤ 1024
    · rw [decide_eq_true ⟨h1, h2⟩]
      go_enter Tryz.func95, Tryz.ntmps95
      go_wp2_with fail
      go_ret
      exact ⟨rfl, rfl⟩
    · rw [decide_eq_false (fun h => h2 h.2)]
      go_enter Tryz.func95, Tryz.ntmps95
      go_wp2_with fail
      go_ret
      exact ⟨rfl, rfl⟩
  · rw [decide_eq_false (fun h => h1 h.1)]
    go_enter Tryz.func95, Tryz.ntmps95
    go_wp2_with fail
    go_ret
    exact ⟨rfl, rfl⟩
theorem ok_succ {L : List (Int × Int)} {g : Int} {k : Nat} (h : ∀ i, i < k → okAt L g i) (h1 : okAt L g k) : ∀ i, i < k + 1 → okAt L g i := by
  intro i hi
  rcases Nat.lt_or_ge i k with h2 | h2
  · exact h i h2
  · rw [show i = k by omega]; exact h1
namespace N12
set_option maxHeartbeats 4000000 in
theorem may_any (A : Option Addr) (m c : Nat) (L : List (Int × Int)) (g : Int) (w : World) (hP : Pl w A m L) :
    Calls Tryz.prog 45 #[.slice A m c, .int .i64 g] w fun e w' => e = .returned (.bool (decide (MayP L g))) ∧ Below w.heap.size w w' := by
  have hlen := hP.len
  have CG := Lib.hid (fun W => glyphs_any g W)
  by_cases hg : 1 ≤ g ∧ g ≤ 1024
  · rw [decide_eq_true hg] at CG
    by_cases hm : 4096 < m
    · rw [decide_eq_false (show ¬ MayP L g from fun h => by have := h.2.1; omega)]
      clear hlen hP hg
      go_enter Tryz.func45, Tryz.ntmps45
      go_wp2_with (go_at_call 95; (with_reducible refine (CG.out _).mono ?_); rintro e w1 ⟨rfl, rfl⟩)
      go_ret
      exact ⟨rfl, Below.refl _ _⟩
    · have HY := Lib.hid (show (∀ i, i < m → okAt L g i) → decide (MayP L g) = true from fun h => decide_eq_true ⟨hg, by omega, by rw [hlen]; exact h⟩)
      have HN := Lib.hid (show ∀ k, k < m → ¬ okAt L g k → decide (MayP L g) = false from fun k hk h => decide_eq_false fun h2 => h (h2.2.2 k (by omega)))
      have HI := Lib.hid hP
      have hm2 : m ≤ 4096 := by omega
      clear hlen hP hg hm
      go_enter Tryz.func45, Tryz.ntmps45
      go_wp2_with (go_at_call 95; (with_reducible refine (CG.out _).mono ?_); rintro e w1 ⟨rfl, rfl⟩)
      go_loopw [5, 18] (fun x i wr => ∃ k : Nat, i = .int .i64 (k : Int) ∧ k ≤ m ∧ x = .int .i64 (ahd L k) ∧ (∀ i, i < k → okAt L g i) ∧ Below w.heap.size w wr) (fun _ i _ => m - (intOf i).toNat)
      case atStart => exact ⟨0, rfl, Nat.zero_le _, rfl, fun i hi => by omega, Below.refl _ _⟩
      case round =>
        obtain ⟨k, rfl, hk, rfl, hok, hb⟩ := hrel
        have HB := Lib.hid hb
        have HOK := Lib.hid hok
        by_cases hgo : k < m
        · obtain ⟨a, rfl, c0, c1⟩ := HI.out.at_ hb hgo
          have HS := Lib.hid (show okAt L g k → ∀ i, i < k + 1 → okAt L g i from ok_succ hok)
          have HNK := Lib.hid (HN.out k hgo)
          have HAK := Lib.hid (show ahd L (k + 1) = cd L k from rfl)
          have HO := Lib.hid (show okAt L g k ↔ (ahd L k < cd L k ∧ cd L k ≤ 1114111 ∧ 1 ≤ gy L k ∧ gy L k < g) from Iff.rfl)
          obtain ⟨p, hp⟩ : ∃ p, p = ahd L k := ⟨_, rfl⟩
          obtain ⟨x, hx⟩ : ∃ x, x = cd L k := ⟨_, rfl⟩
          obtain ⟨y, hy⟩ : ∃ y, y = gy L k := ⟨_, rfl⟩
          rw [← hx] at c0 HO HAK
          rw [← hy] at c1 HO
          rw [← hp] at HO ⊢
          clear hb hok hp hx hy
          by_cases h0 : x ≤ p
          · have HX := Lib.hid (HNK.out fun h => by have := HO.out.1 h; omega)
            go_wp2_with fail
            go_ret
            refine ⟨by rw [HX.out]; rfl, HB.out.alloc HB.out.size _⟩
          · by_cases h1 : 1114111 < x
            · have HX := Lib.hid (HNK.out fun h => by have := HO.out.1 h; omega)
              go_wp2_with fail
              go_ret
              refine ⟨by rw [HX.out]; rfl, HB.out.alloc HB.out.size _⟩
            · by_cases h2 : y < 1
              · have HX := Lib.hid (HNK.out fun h => by have := HO.out.1 h; omega)
                go_wp2_with fail
                go_ret
                refine ⟨by rw [HX.out]; rfl, HB.out.alloc HB.out.size _⟩
              · by_cases h3 : g ≤ y
                · have HX := Lib.hid (HNK.out fun h => by have := HO.out.1 h; omega)
                  go_wp2_with fail
                  go_ret
                  refine ⟨by rw [HX.out]; rfl, HB.out.alloc HB.out.size _⟩
                · have HX := Lib.hid (HS.out (HO.out.2 (by omega)))
                  go_wp2_with fail
                  exact ⟨⟨k + 1, by simp, by omega, by rw [HAK.out], HX.out, HB.out.alloc HB.out.size _⟩, by simp [intOf]; omega⟩
        · obtain rfl : k = m := by omega
          have HX := Lib.hid (HY.out hok)
          clear hb hok
          go_wp2_with fail
          go_ret
          exact ⟨by rw [HX.out]; rfl, HB.out⟩
  · rw [decide_eq_false hg] at CG
    rw [decide_eq_false (show ¬ MayP L g from fun h => hg h.1)]
    clear hlen hP hg
    go_enter Tryz.func45, Tryz.ntmps45
    go_wp2_with (go_at_call 95; (with_reducible refine (CG.out _).mono ?_); rintro e w1 ⟨rfl, rfl⟩)
    go_ret
    exact ⟨rfl, Below.refl _ _⟩
end N12
end Go.Proofs.YtfhaloclbbmbeaaGreat
namespace Go.Proofs.YtfhaloclbbmbeaaGreat
open Go.RowKit
def fnd : List (Int × Int) → Int → Int
  | [], _ => 0
  | e :: l, x => if e.1 = x then e.2 else fnd l x
theorem fnd_hit {x : Int} : ∀ {L : List (Int × Int)} {i : Nat}, i < L.length → (∀ j, j < i → cd L j ≠ x) → cd L i = x → fnd L x = gy L i
  | e :: l, 0, _, _, h2 => by
    have h3 : e.1 = x := h2
    simp only [fnd]; rw [if_pos h3]; rfl
  | e :: l, i + 1, hi, h, h2 => by
    have h0 : e.1 ≠ x := h 0 (by omega)
    simp only [fnd]; rw [if_neg h0]
    exact fnd_hit (L := l) (i := i) (by simp at hi; omega) (fun j hj => h (j + 1) (by omega)) h2
theorem fnd_none {x : Int} : ∀ {L : List (Int × Int)}, (∀ j, j < L.length → cd L j ≠ x) → fnd L x = 0
  | [], _ => rfl
  | e :: l, h => by
    have h0 : e.1 ≠ x := h 0 (by simp)
    simp only [fnd]; rw [if_neg h0]
    exact fnd_none (L := l) fun j hj => h (j + 1) (by simp; omega)
end Go.Proofs.YtfhaloclbbmbeaaGreat
namespace Go.Proofs.YtfhaloclbbmbeaaGreat
open Go.RowKit
structure FdS (W : World) (b1 b2 : Nat) (A : Option Addr) (m c : Nat) (L : List (Int × Int)) (t : Int) : Prop where
  x1 : W.heap[b1]? = some (.cells #[.slice A m c] 42 (0, 0))
  x2 : W.heap[b2]? = some (.cells #[.int .i64 t] 3 (0, 0))
  pl : Pl W A m L
section
variable {W W' : World} {b1 b2 m c : Nat} {A : Option Addr} {L : List (Int × Int)} {t : Int}
theorem FdS.bel (h : FdS W b1 b2 A m c L t) (hb : Below W.heap.size W W') : FdS W' b1 b2 A m c L t := ⟨(hb.block b1 (heap_lt h.x1)).trans h.x1, (hb.block b2 (heap_lt h.x2)).trans h.x2, h.pl.bel hb⟩
theorem FdS.c1 (h : FdS W b1 b2 A m c L t) : W.cell? ⟨b1, 0, none⟩ = some (.slice A m c) := cell_of_row W b1 0 _ 42 (0, 0) h.x1
theorem FdS.c2 (h : FdS W b1 b2 A m c L t) : W.cell? ⟨b2, 0, none⟩ = some (.int .i64 t) := cell_of_row W b2 0 _ 3 (0, 0) h.x2
end
theorem clo_any (b1 b2 m c : Nat) (A : Option Addr) (L : List (Int × Int)) (t : Int) (W : World) (h : FdS W b1 b2 A m c L t) (i : Nat) (hi : i < m) :
    Calls Tryz.prog 130 #[.int .i64 (i : Int), .pointer (some ⟨b1, 0, none⟩), .pointer (some ⟨b2, 0, none⟩)] W fun e w' => e = .returned (.bool (decide (t ≤ cd L i))) ∧ Below W.heap.size W w' := by
  obtain ⟨a, rfl, c0, c1⟩ := h.pl.at_ (Below.refl _ _) hi
  have d1 := h.c1
  have d2 := h.c2
  obtain ⟨x, hx⟩ : ∃ x, x = cd L i := ⟨_, rfl⟩
  rw [← hx] at c0 ⊢
  clear h hx
  go_enter Tryz.func130, Tryz.ntmps130
  go_wp2_with fail
  go_quiet (fail)
  all_goals
    go_wp2_with fail
    go_ret
    exact ⟨by simp, below_drewN (Below.refl _ _) _⟩
set_option maxHeartbeats 1000000 in
theorem search_any (b1 b2 m c : Nat) (A : Option Addr) (L : List (Int × Int)) (t : Int) (w : World) (h : FdS w b1 b2 A m c L t) (hm : m ≤ 1000000) (hr : ∀ i j, i ≤ j → j < m → cd L i ≤ cd L j) :
    Calls Tryz.prog 129 #[.int .i64 (m : Int), .func (.func 130) #[] #[.pointer (some ⟨b1, 0, none⟩), .pointer (some ⟨b2, 0, none⟩)]] w fun e w' => ∃ n : Nat, e = .returned (.int .i64 (n : Int)) ∧ n ≤ m ∧ (∀ k, k < n → cd L k < t) ∧ (n < m → t ≤ cd L n) ∧ Below w.heap.size w w' := by
  have HC := Lib.hid (clo_any b1 b2 m c A L t)
  have HS := Lib.hid h
  have HR := Lib.hid hr
  clear h hr
  go_enter Tryz.func129, Tryz.ntmps129
  go_wp2_with fail
  go_loopw [5, 6] (fun x y wr => ∃ i j : Nat, x = .int .i64 (i : Int) ∧ y = .int .i64 (j : Int) ∧ i ≤ j ∧ j ≤ m ∧ (∀ k, k < i → cd L k < t) ∧ (j < m → t ≤ cd L j) ∧ Below w.heap.size w wr) (fun x y _ => (intOf y).toNat - (intOf x).toNat)
  case atStart => exact ⟨0, m, rfl, rfl, Nat.zero_le _, Nat.le_refl _, fun k hk => by omega, fun h => by omega, Below.refl _ _⟩
  case round =>
    obtain ⟨i, j, rfl, rfl, hij, hj, h1, h2, hb⟩ := hrel
    have HB := Lib.hid hb
    have H1 := Lib.hid h1
    have H2 := Lib.hid h2
    clear hb h1 h2
    by_cases hgo : i < j
    · obtain ⟨s, hs⟩ : ∃ s, s = i + j := ⟨_, rfl⟩
      obtain ⟨q, hq⟩ : ∃ q, q = s / 2 := ⟨_, rfl⟩
      have e1 : IntKind.i64.wrap ((i : Int) + (j : Int)) = (s : Int) := by rw [i64_in _ (by omega)]; omega
      have e2 : IntKind.u64.wrap (s : Int) = (s : Int) := by rw [IntKind.wrap_u64]; omega
      have e3 : (s : Int) / 2 = (q : Int) := by omega
      have e4 : IntKind.i64.wrap (q : Int) = (q : Int) := i64_in _ (by omega)
      have hqi : i ≤ q ∧ q < j := by omega
      have HQ := Lib.hid hqi
      have HX := Lib.hid (fun W (hW : FdS W b1 b2 A m c L t) => HC.out W hW q (by omega))
      obtain ⟨x, hx⟩ : ∃ x, x = cd L q := ⟨_, rfl⟩
      have HXX := Lib.hid hx
      have hqb := hqi.1
      have hqm : q < m := by omega
      rw [← hx] at HX
      clear hs hq hx hqi
      by_cases ht : t ≤ x
      · rw [decide_eq_true ht] at HX
        go_wp2_with ((go_at_call 130; (with_reducible refine (HX.out _ (HS.out.bel HB.out)).mono ?_); rintro e w1 ⟨rfl, hb⟩; have HB1 := Lib.hid (HB.out.trans (hb.mono HB.out.size)); clear hb))
        exact ⟨⟨i, q, rfl, rfl, by omega, by omega, H1.out, fun _ => by rw [← HXX.out]; exact ht, HB1.out⟩, by have := HQ.out; simp [intOf]; omega⟩
      · rw [decide_eq_false ht] at HX
        go_wp2_with ((go_at_call 130; (with_reducible refine (HX.out _ (HS.out.bel HB.out)).mono ?_); rintro e w1 ⟨rfl, hb⟩; have HB1 := Lib.hid (HB.out.trans (hb.mono HB.out.size)); clear hb))
        exact ⟨⟨q + 1, j, by simp, rfl, by have := HQ.out; omega, hj, fun k hk => by have := HR.out k q (by omega) hqm; rw [← HXX.out] at this; omega, H2.out, HB1.out⟩, by have := HQ.out; simp [intOf]; omega⟩
    · obtain rfl : i = j := by omega
      go_wp2_with fail
      go_ret
      exact ⟨i, rfl, hj, H1.out, H2.out, HB.out⟩
end Go.Proofs.YtfhaloclbbmbeaaGreat
