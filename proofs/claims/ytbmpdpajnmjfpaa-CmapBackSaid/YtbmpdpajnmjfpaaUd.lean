/- Proved here: what readLong gathers. Condition: a text of at most a billion bytes; the pairs lie in a row of the call's own. -/
import Derived.Test.YtbmpdpajnmjfpaaUc
namespace Go.Proofs.Ytbmpdpajnmjfpaa
open Go.RowKit

theorem Gt.onl {B b rg : Nat} {w w' : World} {g : Int} {ps : List (Int × Int)} {s : ByteArray} {a : Nat} {f : Bool} (h : Gt B w b g ps) (hr : Rd 106 w rg s a f) (ho : Onl rg w w') : Gt B w' b g ps := by
  have hne := h.ne hr (by decide)
  obtain ⟨v, hx⟩ := h
  refine ⟨v, (ho.block b (heap_lt hx.box) hne.symm).trans hx.box, hx.own.1, ?_⟩
  rcases hx.own.2 with h0 | ⟨k, cap, cur, hv, hg, hh, rest⟩
  · exact .inl h0
  · refine .inr ⟨k, cap, cur, hv, hg, ?_, rest⟩
    refine (ho.block k (heap_lt hh) fun e => ?_).trans hh
    unfold Rd at hr
    rw [e, hr] at hh
    injection hh with hh
    injection hh with _ hh _
    exact absurd hh (by decide)
/-- While groups are read: the reader, and what was gathered. -/
structure LsS (B b : Nat) (w W : World) (rg : Nat) (s : ByteArray) (a : Nat) (g : Int) (ps : List (Int × Int)) : Prop where
  kp : KpG B b w W
  og : w.heap.size ≤ rg
  rd : Rd 106 W rg s a false
  gt : Gt B W b g ps
section
variable {B b rg a : Nat} {w W W' : World} {s : ByteArray} {g : Int} {ps ps' : List (Int × Int)}
theorem kp_onl (ho : Onl rg W W') (k : KpG B b w W) (hg : w.heap.size ≤ rg) : KpG B b w W' :=
  ⟨ho.os.trans k.os, ho.tape.trans k.tape, ho.output.trans k.output, Nat.le_trans k.size ho.size, fun j h1 h2 h3 => (ho.block j (Nat.lt_of_lt_of_le h1 k.size) (by omega)).trans (k.block j h1 h2 h3)⟩
theorem LsS.next (h : LsS B b w W rg s a g ps) (hb : Below W.heap.size W W') : LsS B b w W' rg s a g ps := ⟨h.kp.trans (KpG.of hb), h.og, h.rd.bel hb, h.gt.next hb⟩
theorem LsS.read (h : LsS B b w W rg s a g ps) {a' : Nat} (hr : Rd 106 W' rg s a' false) (ho : Onl rg W W') : LsS B b w W' rg s a' g ps := ⟨kp_onl ho h.kp h.og, h.og, hr, h.gt.onl h.rd ho⟩
theorem LsS.add (h : LsS B b w W rg s a g ps) (hg : Gt B W' b g ps') (k : KpG B b W W') : LsS B b w W' rg s a g ps' := ⟨h.kp.trans k, h.og, h.gt.keep k h.rd (by decide) (by decide), hg⟩
theorem LsS.le (h : LsS B b w W rg s a g ps) (hB : B ≤ w.heap.size) : B ≤ W.heap.size := Nat.le_trans hB h.kp.size
end
/-- .. with a group's box. -/
structure LbS (B b : Nat) (w W : World) (rg : Nat) (s : ByteArray) (a : Nat) (g : Int) (ps : List (Int × Int)) (u : Nat) (x y z : Int) : Prop where
  l : LsS B b w W rg s a g ps
  box : Bz W u x y z
section
variable {B b rg a u : Nat} {w W W' : World} {s : ByteArray} {g x y z : Int} {ps ps' : List (Int × Int)}
theorem LbS.next (h : LbS B b w W rg s a g ps u x y z) (hb : Below W.heap.size W W') : LbS B b w W' rg s a g ps u x y z := ⟨h.l.next hb, h.box.bel hb⟩
theorem LbS.add (h : LbS B b w W rg s a g ps u x y z) (hg : Gt B W' b g ps') (k : KpG B b W W') : LbS B b w W' rg s a g ps' u x y z := ⟨h.l.add hg k, h.l.gt.keep k h.box (by decide) (by decide)⟩
theorem LsS.box (h : LsS B b w W rg s a g ps) (x y z : Int) : LbS B b w (W.alloc (.cells #[.int .i64 x, .int .i64 y, .int .i64 z] 76)) rg s a g ps W.heap.size x y z := ⟨h.next ((Below.refl _ _).alloc (Nat.le_refl _) _), heap_alloc_new W _⟩
end
/-- What gathering answers: an error, and the pairs where there is none. -/
def GaP (B b : Nat) (g : Int) (r : Int × List (Int × Int)) (w : World) (e : Ending) (w' : World) : Prop := e = .returned (.int .i64 r.1) ∧ KpG B b w w' ∧ (r.1 = 0 → Gt B w' b g r.2)
theorem addE_next {g : Int} {ps : List (Int × Int)} {c x : Int} {f : Nat → Int × Int} {a k : Nat} {s : Int × List (Int × Int)} (h : codes g f a k s = (0, ps)) (h0 : (f (a + k)).2 = 0) (h1 : (f (a + k)).1 = x) (hc : ((a + k : Nat) : Int) = c) : codes g f a (k + 1) s = addE g ps c x := by
  rw [codes_next h, if_pos h0, h1, hc]
set_option maxHeartbeats 8000000 in
set_option maxRecDepth 100000 in
theorem readLong_any (B b : Nat) (g : Int) (s : ByteArray) (a : Nat) (w : World) (hG : Gt B w b g []) (hB : B ≤ w.heap.size) (hs : s.size ≤ 1000000000) (ha : a < 4294967296) (_hg : g ≤ 1024) :
    Calls Try.prog 27 #[.string s, .int .i64 (a : Int), .pointer (some ⟨b, 0, none⟩)] w (GaP B b g (longS g s.data.toList a) w) := by
  have CO := Lib.hid (openLong_any s a w hs ha)
  have HG := Lib.hid hG
  have HB := Lib.hid hB
  have HS := Lib.hid hs
  by_cases hE : longE s.data.toList a = 0
  · have hlS : longS g s.data.toList a = grps g s.data.toList (a + 16) (n4 s.data.toList (a + 12)) := if_pos hE
    have hsz : a + 16 + 12 * n4 s.data.toList (a + 12) ≤ s.size := by
      unfold longE at hE
      rw [size_list] at hE
      split at hE
      · exact absurd hE (by decide)
      · split at hE
        · split at hE
          · exact absurd hE (by decide)
          · omega
        · exact absurd hE (by decide)
    have bn := n4_lt s.data.toList (a + 12)
    obtain ⟨n, hn⟩ : ∃ n, n = n4 s.data.toList (a + 12) := ⟨_, rfl⟩
    have CO2 := Lib.hid (show Calls Try.prog 41 #[.string s, .int .i64 (a : Int)] w fun e w' => ∃ rg, e = .returned (.tuple #[.pointer (some ⟨rg, 0, none⟩), .int .i64 (n : Int), .int .i64 0]) ∧ LsS B b w w' rg s (a + 16) g [] from
      CO.out.mono fun e w' ⟨h1, _, h3⟩ => by
        obtain ⟨rg, h4, h5, h6⟩ := h3 hE
        exact ⟨rg, by rw [hn]; exact h4, KpG.of h1, h5, h6, hG.next h1⟩)
    obtain ⟨p0, hp0⟩ : ∃ p, p = a + 16 := ⟨_, rfl⟩
    rw [← hn, ← hp0] at hlS
    rw [← hp0] at CO2
    rw [← hn, ← hp0] at hsz
    rw [← hn] at bn
    have HFin := Lib.hid (show ∀ i (r : Int × List (Int × Int)) w', i ≤ n → grps g s.data.toList p0 i = r → r.1 ≠ 0 → KpG B b w w' → GaP B b g (longS g s.data.toList a) w (.returned (.int .i64 r.1)) w' from fun i r w' h1 h2 h3 h4 => by
      have h5 := grps_stick (g := g) (l := s.data.toList) (b := p0) (k := i) (by rw [h2]; exact h3) n h1
      rw [hlS, h5, h2]
      exact ⟨rfl, h4, fun h => absurd h h3⟩)
    have HFok := Lib.hid (show ∀ ps w', grps g s.data.toList p0 n = (0, ps) → KpG B b w w' → Gt B w' b g ps → GaP B b g (longS g s.data.toList a) w (.returned (.int .i64 0)) w' from fun ps w' h1 h2 h3 => by
      rw [hlS, h1]
      exact ⟨rfl, h2, fun _ => h3⟩)
    clear hE hlS hn hp0 CO hG hB hs ha
    go_enter Try.func27, Try.ntmps27
    go_wp2_with (go_at_call 41; (with_reducible refine CO2.out.mono ?_); rintro e w1 ⟨rg, rfl, hl⟩; have HL := Lib.hid hl; clear hl)
    go_loopw [10, 25] (fun v i wr => ∃ (k : Nat) (ps : List (Int × Int)), i = .int .i64 (k : Int) ∧ k ≤ n ∧ v = .int .i64 (ahT s.data.toList p0 k) ∧ grps g s.data.toList p0 k = (0, ps) ∧ ps.length ≤ 4096 ∧ LsS B b w wr rg s (p0 + 12 * k) g ps) (fun _ i _ => n - (intOf i).toNat)
    case atStart => exact ⟨0, [], rfl, Nat.zero_le _, rfl, rfl, by simp, HL.out⟩
    case round =>
      obtain ⟨k, ps, rfl, hk, rfl, hgr, hpl, hS⟩ := hrel
      have HSt := Lib.hid hS
      have HGr := Lib.hid hgr
      by_cases hgo : k < n
      · have CR := Lib.hid (readRun_any s rg (p0 + 12 * k) wr hS.rd HS.out (by omega))
        have HNX := Lib.hid (show grps g s.data.toList p0 (k + 1) = if (gF s.data.toList p0 k : Int) ≤ ahT s.data.toList p0 k ∨ gT s.data.toList p0 k < gF s.data.toList p0 k ∨ 1114111 < gT s.data.toList p0 k then (4, ps)
          else codes g (fun c => ((gG s.data.toList p0 k : Int) + (c : Int) - (gF s.data.toList p0 k : Int), 0)) (gF s.data.toList p0 k) (gT s.data.toList p0 k + 1 - gF s.data.toList p0 k) (0, ps) by simp only [grps]; rw [stick_ok hgr])
        have HAT := Lib.hid (show ahT s.data.toList p0 (k + 1) = (gT s.data.toList p0 k : Int) from rfl)
        have HPX := Lib.hid (show p0 + 12 * (k + 1) = p0 + 12 * k + 4 + 4 + 4 by omega)
        have b1 := n4_lt s.data.toList (p0 + 12 * k)
        have b2 := n4_lt s.data.toList (p0 + 12 * k + 4)
        have b3 := n4_lt s.data.toList (p0 + 12 * k + 4 + 4)
        have hah : -1 ≤ ahT s.data.toList p0 k ∧ ahT s.data.toList p0 k < 4294967296 := by
          cases k with
          | zero => exact ⟨Int.le_refl _, by show (-1 : Int) < _; omega⟩
          | succ k => have := n4_lt s.data.toList (p0 + 12 * k + 4); exact ⟨by show (-1 : Int) ≤ (gT s.data.toList p0 k : Int); omega, by show (gT s.data.toList p0 k : Int) < _; unfold gT; omega⟩
        obtain ⟨x, hx⟩ : ∃ x, x = n4 s.data.toList (p0 + 12 * k) := ⟨_, rfl⟩
        obtain ⟨y, hy⟩ : ∃ x, x = n4 s.data.toList (p0 + 12 * k + 4) := ⟨_, rfl⟩
        obtain ⟨z, hz⟩ : ∃ x, x = n4 s.data.toList (p0 + 12 * k + 4 + 4) := ⟨_, rfl⟩
        rw [← hx, ← hy, ← hz] at CR
        rw [show gF s.data.toList p0 k = x from hx.symm, show gT s.data.toList p0 k = y from hy.symm, show gG s.data.toList p0 k = z from hz.symm] at HNX
        rw [show gT s.data.toList p0 k = y from hy.symm] at HAT
        obtain ⟨ah, hahd⟩ : ∃ v, v = ahT s.data.toList p0 k := ⟨_, rfl⟩
        rw [← hahd] at HNX hah ⊢
        rw [← hx] at b1
        rw [← hy] at b2
        rw [← hz] at b3
        obtain ⟨pk, hpk⟩ : ∃ v, v = p0 + 12 * k := ⟨_, rfl⟩
        rw [← hpk] at CR HPX HSt
        clear hS hgr hx hy hz hahd hpk
        go_upto_region 8 with (go_at_call 42; (with_reducible refine CR.out.mono ?_); rintro e w2 ⟨rfl, hr, ho⟩; have H1 := Lib.hid (HSt.out.read hr ho); clear hr ho)
        have H2 := Lib.hid (H1.out.box (x : Int) (y : Int) (z : Int))
        obtain ⟨u, hu⟩ : ∃ u, u = w2.heap.size := ⟨_, rfl⟩
        obtain ⟨W2, hW2⟩ : ∃ W, W = w2.alloc (.cells #[.int .i64 (x : Int), .int .i64 (y : Int), .int .i64 (z : Int)] 76) := ⟨_, rfl⟩
        rw [← hu, ← hW2] at H2
        rw [← hu, ← hW2]
        clear hu hW2 H1 HSt CR
        obtain ⟨d0, d1, d2⟩ := H2.out.box.cells
        by_cases hw1 : (x : Int) ≤ ah
        · have HQ := Lib.hid (fun w' h => HFin.out (k + 1) _ w' hgo (by rw [HNX.out, if_pos (.inl hw1)]) (by show (4 : Int) ≠ 0; decide) h)
          clear HNX hah
          go_wp2_with fail
          go_ret
          exact HQ.out _ H2.out.l.kp
        · by_cases hw2 : y < x
          · have HQ := Lib.hid (fun w' h => HFin.out (k + 1) _ w' hgo (by rw [HNX.out, if_pos (.inr (.inl hw2))]) (by show (4 : Int) ≠ 0; decide) h)
            clear HNX hah
            go_wp2_with fail
            go_ret
            exact HQ.out _ H2.out.l.kp
          · by_cases hw3 : 1114111 < y
            · have HQ := Lib.hid (fun w' h => HFin.out (k + 1) _ w' hgo (by rw [HNX.out, if_pos (.inr (.inr hw3))]) (by show (4 : Int) ≠ 0; decide) h)
              clear HNX hah
              go_wp2_with fail
              go_ret
              exact HQ.out _ H2.out.l.kp
            · have HNX2 := Lib.hid (show grps g s.data.toList p0 (k + 1) = codes g (fun c => ((z : Int) + (c : Int) - (x : Int), 0)) x (y + 1 - x) (0, ps) by rw [HNX.out, if_neg (by omega)])
              obtain ⟨f, hf⟩ : ∃ f : Nat → Int × Int, f = fun c : Nat => ((z : Int) + (c : Int) - (x : Int), 0) := ⟨_, rfl⟩
              rw [← hf] at HNX2
              have HFv := Lib.hid (show ∀ c, f c = ((z : Int) + (c : Int) - (x : Int), 0) from fun c => by rw [hf])
              clear HNX hah hf
              obtain ⟨N, hN⟩ : ∃ N, N = y + 1 - x := ⟨_, rfl⟩
              rw [← hN] at HNX2
              have hxy : x + N = y + 1 := by omega
              have HXY := Lib.hid hxy
              have HErr := Lib.hid (show ∀ j (r : Int × List (Int × Int)) w', j < N → codes g f x (j + 1) (0, ps) = r → r.1 ≠ 0 → KpG B b w w' → GaP B b g (longS g s.data.toList a) w (.returned (.int .i64 r.1)) w' from fun j r w' h1 h2 h3 h4 =>
                HFin.out (k + 1) r w' hgo (by rw [HNX2.out, codes_stick (k := j + 1) (by rw [h2]; exact h3) N (by omega), h2]) h3 h4)
              have HPL := Lib.hid hpl
              clear hN hpl hxy
              go_wp2_with fail
              go_loopw [12] (fun v wr => ∃ (j : Nat) (qs : List (Int × Int)), v = .int .i64 ((x + j : Nat) : Int) ∧ j ≤ N ∧ codes g f x j (0, ps) = (0, qs) ∧ qs.length ≤ 4096 ∧ LbS B b w wr rg s (pk + 4 + 4 + 4) g qs u (x : Int) (y : Int) (z : Int)) (fun v _ => y + 1 - (intOf v).toNat)
              case atStart => exact ⟨0, ps, rfl, Nat.zero_le _, rfl, HPL.out, H2.out⟩
              case round =>
                obtain ⟨j, qs, rfl, hj, hco, hql, hS⟩ := hrel
                have HSj := Lib.hid hS
                have HCo := Lib.hid hco
                have HQl := Lib.hid hql
                have hxj := HXY.out
                obtain ⟨c, hc⟩ : ∃ c, c = x + j := ⟨_, rfl⟩
                rw [← hc]
                clear d0 d1 d2
                obtain ⟨d0, d1, d2⟩ := hS.box.cells
                by_cases hgj : j < N
                · have CA := Lib.hid (add_any B b g qs (c : Int) ((z : Int) + (c : Int) - (x : Int)) wr hS.l.gt (hS.l.le HB.out) hql)
                  have e1 : IntKind.i64.wrap ((z : Int) + (c : Int)) = (z : Int) + (c : Int) := i64_in _ (by omega)
                  have e2 : IntKind.i64.wrap ((z : Int) + (c : Int) - (x : Int)) = (z : Int) + (c : Int) - (x : Int) := i64_in _ (by omega)
                  have HCN := Lib.hid (show codes g f x (j + 1) (0, ps) = addE g qs (c : Int) ((z : Int) + (c : Int) - (x : Int)) from addE_next hco (by rw [HFv.out]) (by rw [HFv.out, ← hc]) (by rw [hc]))
                  have HAL := Lib.hid (addE_len g qs (c : Int) ((z : Int) + (c : Int) - (x : Int)) hql)
                  obtain ⟨r, hr⟩ : ∃ r, r = addE g qs (c : Int) ((z : Int) + (c : Int) - (x : Int)) := ⟨_, rfl⟩
                  rw [← hr] at CA HCN HAL
                  have HC := Lib.hid hc
                  have hcy : c ≤ y := by omega
                  obtain ⟨r1, r2⟩ := r
                  simp only at CA HAL
                  clear hS hco hql hr hc hxj
                  by_cases hr0 : r1 = 0
                  · subst hr0
                    go_wp2_with (go_at_call 43; (with_reducible refine CA.out.mono ?_); rintro e w5 ⟨rfl, hg5, hk5⟩; have H5 := Lib.hid (HSj.out.add hg5 hk5); clear hg5 hk5)
                    exact ⟨⟨j + 1, r2, by have := HC.out; simp; omega, by omega, HCN.out, HAL.out, H5.out⟩, by have := HC.out; have := HXY.out; simp [intOf]; omega⟩
                  · have e3 : (r1 != 0) = true := by simp [hr0]
                    have HQ := Lib.hid (fun w' h => HErr.out j _ w' hgj HCN.out hr0 h)
                    clear hr0
                    go_wp2_with (go_at_call 43; (with_reducible refine CA.out.mono ?_); rintro e w5 ⟨rfl, hg5, hk5⟩; have H5 := Lib.hid (HSj.out.l.kp.trans hk5); clear hg5 hk5)
                    go_ret
                    exact HQ.out _ H5.out
                · obtain rfl : j = N := by omega
                  have hcy : ¬ c ≤ y := by omega
                  have HX1 := Lib.hid (HNX2.out.trans hco)
                  clear hS hco hql hc hxj
                  go_wp2_with fail
                  exact ⟨⟨k + 1, qs, by simp, by omega, by rw [HAT.out], HX1.out, HQl.out, by rw [HPX.out]; exact HSj.out.l⟩, by simp [intOf]; omega⟩
      · obtain rfl : k = n := by omega
        go_wp2_with fail
        go_ret
        exact HFok.out ps _ hgr hS.kp hS.gt
  · have hlS : longS g s.data.toList a = (longE s.data.toList a, []) := if_neg hE
    have CO2 := Lib.hid (show Calls Try.prog 41 #[.string s, .int .i64 (a : Int)] w fun e w' => e = .returned (.tuple #[.pointer none, .int .i64 0, .int .i64 (longE s.data.toList a)]) ∧ Below w.heap.size w w' from
      CO.out.mono fun e w' ⟨h1, h2, _⟩ => ⟨h2 hE, h1⟩)
    have HQ := Lib.hid (show ∀ w', Below w.heap.size w w' → GaP B b g (longS g s.data.toList a) w (.returned (.int .i64 (longE s.data.toList a))) w' from fun w' h => by rw [hlS]; exact ⟨rfl, KpG.of h, fun h => absurd h hE⟩)
    obtain ⟨x, hx⟩ : ∃ x, x = longE s.data.toList a := ⟨_, rfl⟩
    rw [← hx] at CO2 HQ hE
    have e1 : (x != 0) = true := by simp [hE]
    clear hlS hx CO hG hB hs ha hE
    go_enter Try.func27, Try.ntmps27
    go_wp2_with (go_at_call 41; (with_reducible refine CO2.out.mono ?_); rintro e w1 ⟨rfl, hb⟩; have HBw := Lib.hid hb; clear hb)
    go_ret
    exact HQ.out _ HBw.out
end Go.Proofs.Ytbmpdpajnmjfpaa
