/- Proved here: what gather takes in of a segment. Condition: a text of at most a billion bytes; the pairs lie in a row of the call's own · what readShort gathers. Condition: a text of at most a billion bytes; the pairs lie in a row of the call's own. -/
import Derived.Test.YtfhaloclbbmbeaaGreatM23
namespace Go.Proofs.YtfhaloclbbmbeaaGreat
open Go.RowKit
structure GsS (B b : Nat) (w W : World) (g : Int) (ps : List (Int × Int)) (o : Nat) (x y z u v : Int) : Prop where
  kp : KpG B b w W
  gt : Gt B W b g ps
  box : Bs W o x y z u v
section
variable {B b o : Nat} {w W W' : World} {g x y z u v : Int} {ps ps' : List (Int × Int)}
theorem GsS.next (h : GsS B b w W g ps o x y z u v) (hb : Below W.heap.size W W') : GsS B b w W' g ps o x y z u v := ⟨h.kp.trans (KpG.of hb), h.gt.next hb, h.box.bel hb⟩
theorem GsS.add (h : GsS B b w W g ps o x y z u v) (hg : Gt B W' b g ps') (k : KpG B b W W') : GsS B b w W' g ps' o x y z u v := ⟨h.kp.trans k, hg, h.gt.keep k h.box (by decide) (by decide)⟩
theorem GsS.le (h : GsS B b w W g ps o x y z u v) (hB : B ≤ w.heap.size) : B ≤ W.heap.size := Nat.le_trans hB h.kp.size
end
theorem gly_err (P : List UInt8) (F D J a c : Nat) : (gly P F D J a c).2 = 0 ∨ (gly P F D J a c).2 = 3 := by
  unfold gly
  split
  · exact .inl rfl
  · split
    · exact .inr rfl
    · split
      · exact .inl rfl
      · exact .inl rfl
set_option maxHeartbeats 8000000 in
set_option maxRecDepth 100000 in
theorem gather_any (B b : Nat) (g : Int) (s : ByteArray) (F T D J at_ : Nat) (ps : List (Int × Int)) (w : World) (hG : Gt B w b g ps) (hB : B ≤ w.heap.size) (hl : ps.length ≤ 4096) (hs : s.size ≤ 1000000000) (hFT : F ≤ T) (hT : T < 65536) (hD : D < 65536) (hJ : J < 65536) (ha : at_ < 1000000) :
    Calls Tryz.prog 219 #[.agg #[.int .i64 (F : Int), .int .i64 (T : Int), .int .i64 (D : Int), .int .i64 (J : Int), .int .i64 (at_ : Int)], .string s, .pointer (some ⟨b, 0, none⟩)] w (fun e w' => GaP B b g (codes g (gly s.data.toList F D J at_) F (T + 1 - F) (0, ps)) w e w' ∧ ((codes g (gly s.data.toList F D J at_) F (T + 1 - F) (0, ps)).1 = 0 → (codes g (gly s.data.toList F D J at_) F (T + 1 - F) (0, ps)).2.length ≤ 4096)) := by
  have CG := Lib.hid (fun c W (h1 : F ≤ c) (h2 : c < 65536) => glyph_any s F T D J at_ c W hs h1 h2 hD hJ ha)
  have HGE := Lib.hid (fun c => gly_err s.data.toList F D J at_ c)
  obtain ⟨f, hf⟩ : ∃ f, f = gly s.data.toList F D J at_ := ⟨_, rfl⟩
  obtain ⟨N, hN⟩ : ∃ N, N = T + 1 - F := ⟨_, rfl⟩
  rw [← hf] at CG HGE ⊢
  rw [← hN]
  have HXY := Lib.hid (show F + N = T + 1 by omega)
  have HB := Lib.hid hB
  have HPL := Lib.hid hl
  have H0 := Lib.hid (show GsS B b w (w.alloc (.cells #[.int .i64 (F : Int), .int .i64 (T : Int), .int .i64 (D : Int), .int .i64 (J : Int), .int .i64 (at_ : Int)] 302)) g ps w.heap.size F T D J at_ from ⟨KpG.of ((Below.refl _ _).alloc (Nat.le_refl _) _), hG.next ((Below.refl _ _).alloc (Nat.le_refl _) _), heap_alloc_new w _⟩)
  have HErr := Lib.hid (show ∀ j (r : Int × List (Int × Int)) w', j < N → codes g f F (j + 1) (0, ps) = r → r.1 ≠ 0 → KpG B b w w' → (GaP B b g (codes g f F N (0, ps)) w (.returned (.int .i64 r.1)) w' ∧ ((codes g f F N (0, ps)).1 = 0 → (codes g f F N (0, ps)).2.length ≤ 4096)) from fun j r w' h1 h2 h3 h4 => by
    rw [codes_stick (k := j + 1) (by rw [h2]; exact h3) N (by omega), h2]
    exact ⟨⟨rfl, h4, fun h => absurd h h3⟩, fun h => absurd h h3⟩)
  clear hf hN hB hG hs hl
  go_enter Tryz.func219, Tryz.ntmps219
  go_upto_region 1 with fail
  obtain ⟨o, ho⟩ : ∃ o, o = w.heap.size := ⟨_, rfl⟩
  obtain ⟨W0, hW0⟩ : ∃ W, W = w.alloc (.cells #[.int .i64 (F : Int), .int .i64 (T : Int), .int .i64 (D : Int), .int .i64 (J : Int), .int .i64 (at_ : Int)] 302) := ⟨_, rfl⟩
  rw [← hW0, ← ho] at H0
  rw [← hW0, ← ho]
  clear hW0 ho
  obtain ⟨d0, d1, d2, d3, d4⟩ := H0.out.box.cells
  go_wp2_with fail
  go_loopw [7] (fun v wr => ∃ (j : Nat) (qs : List (Int × Int)), v = .int .i64 ((F + j : Nat) : Int) ∧ j ≤ N ∧ codes g f F j (0, ps) = (0, qs) ∧ qs.length ≤ 4096 ∧ GsS B b w wr g qs o F T D J at_) (fun v _ => T + 1 - (intOf v).toNat)
  case atStart => exact ⟨0, ps, rfl, Nat.zero_le _, rfl, HPL.out, H0.out⟩
  case round =>
    obtain ⟨j, qs, rfl, hj, hco, hql, hS⟩ := hrel
    have HSj := Lib.hid hS
    have HCo := Lib.hid hco
    have HQl := Lib.hid hql
    have hxj := HXY.out
    obtain ⟨c, hc⟩ : ∃ c, c = F + j := ⟨_, rfl⟩
    rw [← hc]
    clear d0 d1 d2 d3 d4
    obtain ⟨d0, d1, d2, d3, d4⟩ := hS.box.cells
    by_cases hgj : j < N
    · have hcT : c ≤ T := by omega
      have CGc := Lib.hid (fun W => CG.out c W (by omega) (by omega))
      have HNX := Lib.hid (codes_next hco)
      rw [← hc] at HNX
      have HGEc := Lib.hid (HGE.out c)
      obtain ⟨x, hx⟩ : ∃ x, x = (f c).1 := ⟨_, rfl⟩
      obtain ⟨y, hy⟩ : ∃ x, x = (f c).2 := ⟨_, rfl⟩
      rw [← hx, ← hy] at CGc HNX
      rw [← hy] at HGEc
      have HC := Lib.hid hc
      by_cases hy0 : y = 0
      · rw [if_pos hy0] at HNX
        have CA := Lib.hid (fun W (h : Gt B W b g qs) (hB : B ≤ W.heap.size) => add_any B b g qs (c : Int) x W h hB hql)
        have HAL := Lib.hid (addE_len g qs (c : Int) x hql)
        obtain ⟨r, hr⟩ : ∃ r, r = addE g qs (c : Int) x := ⟨_, rfl⟩
        rw [← hr] at CA HNX HAL
        obtain ⟨r1, r2⟩ := r
        simp only at CA HAL
        subst hy0
        clear hS hco hql hr hc hxj hx hy
        by_cases hr0 : r1 = 0
        · subst hr0
          go_wp2_with (first
            | (go_at_call 262; (with_reducible refine (CGc.out _).mono ?_); rintro e w4 ⟨rfl, hb⟩; have H4 := Lib.hid (HSj.out.next hb); clear hb)
            | (go_at_call 215; (with_reducible refine (CA.out _ H4.out.gt (H4.out.le HB.out)).mono ?_); rintro e w5 ⟨rfl, hg5, hk5⟩; have H5 := Lib.hid (H4.out.add hg5 hk5); clear hg5 hk5))
          exact ⟨⟨j + 1, r2, by have := HC.out; simp; omega, by omega, HNX.out, HAL.out, H5.out⟩, by have := HC.out; have := HXY.out; simp [intOf]; omega⟩
        · have e3 : (r1 != 0) = true := by simp [hr0]
          have HQ := Lib.hid (fun w' h => HErr.out j _ w' hgj HNX.out hr0 h)
          clear hr0
          go_wp2_with (first
            | (go_at_call 262; (with_reducible refine (CGc.out _).mono ?_); rintro e w4 ⟨rfl, hb⟩; have H4 := Lib.hid (HSj.out.next hb); clear hb)
            | (go_at_call 215; (with_reducible refine (CA.out _ H4.out.gt (H4.out.le HB.out)).mono ?_); rintro e w5 ⟨rfl, hg5, hk5⟩; have H5 := Lib.hid (H4.out.kp.trans hk5); clear hg5 hk5))
          go_ret
          exact HQ.out _ H5.out
      · rw [if_neg hy0] at HNX
        have e3 : (y != 0) = true := by simp [hy0]
        have HQ := Lib.hid (fun w' h => HErr.out j _ w' hgj HNX.out hy0 h)
        clear hS hco hql hc hxj hx hy hy0
        go_wp2_with (go_at_call 262; (with_reducible refine (CGc.out _).mono ?_); rintro e w4 ⟨rfl, hb⟩; have H4 := Lib.hid (HSj.out.next hb); clear hb)
        go_ret
        exact HQ.out _ H4.out.kp
    · obtain rfl : j = N := by omega
      have hcT : ¬ c ≤ T := by omega
      have HQ := Lib.hid (show GaP B b g (codes g f F j (0, ps)) w (.returned (.int .i64 0)) wr ∧ ((codes g f F j (0, ps)).1 = 0 → (codes g f F j (0, ps)).2.length ≤ 4096) by rw [hco]; exact ⟨⟨rfl, hS.kp, fun _ => hS.gt⟩, fun _ => hql⟩)
      clear hS hco hql hc hxj
      go_wp2_with fail
      go_ret
      exact HQ.out
end Go.Proofs.YtfhaloclbbmbeaaGreat
namespace Go.Proofs.YtfhaloclbbmbeaaGreat
open Go.RowKit
theorem short_ok {l : List UInt8} {a : Nat} (h : shortE l a = 0) : 0 < nSeg l a ∧ nSeg l a ≤ 8192 ∧ 16 + 8 * nSeg l a ≤ n2 l (a + 2) ∧ (prt l a).length = n2 l (a + 2) := by
  unfold shortE at h
  split at h
  · exact absurd h (by decide)
  · split at h
    · rename_i h2
      split at h
      · exact absurd h (by decide)
      · obtain ⟨_, _, h3, _, h4⟩ := h2
        unfold mayD at h3
        unfold nSeg
        refine ⟨by omega, by omega, h4, ?_⟩
        unfold prt
        exact piece_len (by omega)
    · exact absurd h (by decide)
namespace N12
set_option maxHeartbeats 8000000 in
set_option maxRecDepth 100000 in
theorem readShort_any (B b : Nat) (g : Int) (s : ByteArray) (a : Nat) (w : World) (hG : Gt B w b g []) (hB : B ≤ w.heap.size) (hs : s.size ≤ 1000000000) (ha : a < 4294967296) :
    Calls Tryz.prog 155 #[.string s, .int .i64 (a : Int), .pointer (some ⟨b, 0, none⟩)] w (GaP B b g (shortS g s.data.toList a) w) := by
  have CO := Lib.hid (openShort_any s a w hs ha)
  have HB := Lib.hid hB
  by_cases hE : shortE s.data.toList a = 0
  · obtain ⟨hn0, hn8, hn16, hpl⟩ := short_ok hE
    have hlS : shortS g s.data.toList a = if n2 (prt s.data.toList a) (14 + 2 * nSeg s.data.toList a) = 0 then segs g (prt s.data.toList a) (nSeg s.data.toList a) (nSeg s.data.toList a) else (4, []) := if_pos hE
    have CO1 := CO.out.mono fun e w' h => And.intro (h.2.2 hE) (And.intro (hG.next h.1) (show KpG B b w w' from KpG.of h.1))
    have hb2 := n2_lt s.data.toList (a + 2)
    obtain ⟨n, hn⟩ : ∃ n, n = nSeg s.data.toList a := ⟨_, rfl⟩
    obtain ⟨PL, hPL⟩ : ∃ l, l = prt s.data.toList a := ⟨_, rfl⟩
    rw [← hn, ← hPL] at hlS
    rw [← hn, ← hPL] at CO1
    rw [← hPL] at hpl
    rw [← hn] at hn0 hn8 hn16
    obtain ⟨PD, hPD⟩ : ∃ D : ByteArray, D = ⟨PL.toArray⟩ := ⟨_, rfl⟩
    rw [← hPD] at CO1
    have hPDl : PD.data.toList = PL := by rw [hPD]
    have hPDs : PD.size = PL.length := by rw [← hPDl]; simp
    have HPs := Lib.hid (show PD.size ≤ 1000000000 ∧ 16 + 8 * n ≤ PD.size by omega)
    have C1 := Lib.hid CO1
    have C0 := Lib.hid (show ∀ (z : Int) W, z = ((14 + 2 * n : Nat) : Int) → Calls Tryz.prog 217 #[.string PD, .int .i64 z] W fun e w' => e = .returned (.int .i64 (n2 PL (14 + 2 * n) : Int)) ∧ W = w' from fun z W hz => by
      have h := number_any PD (14 + 2 * n) W HPs.out.1 (by have := HPs.out.2; omega)
      rw [hPDl] at h
      rw [hz]; exact h)
    have CS := Lib.hid (fun i W (hi : i < n) => readSegment_any PD n i W HPs.out.1 hn8 hi HPs.out.2)
    rw [hPDl] at CS
    have CGa := Lib.hid (fun F T D J at_ ps W h1 h2 h3 h4 h5 h6 h7 h8 => gather_any B b g PD F T D J at_ ps W h1 h2 h3 HPs.out.1 h4 h5 h6 h7 h8)
    rw [hPDl] at CGa
    have e1 : IntKind.i64.wrap (2 * (n : Int)) = 2 * (n : Int) := i64_in _ (by omega)
    have e2 : IntKind.i64.wrap (14 + 2 * (n : Int)) = 14 + 2 * (n : Int) := i64_in _ (by omega)
    obtain ⟨x0, hx0⟩ : ∃ x, x = n2 PL (14 + 2 * n) := ⟨_, rfl⟩
    rw [← hx0] at C0 hlS
    by_cases hz : x0 = 0
    · rw [if_pos hz] at hlS
      have g0 : ((x0 : Int) != 0) = false := by simp; omega
      have HFin := Lib.hid (show ∀ i (r : Int × List (Int × Int)) w', i ≤ n → segs g PL n i = r → r.1 ≠ 0 → KpG B b w w' → GaP B b g (shortS g s.data.toList a) w (.returned (.int .i64 r.1)) w' from fun i r w' h1 h2 h3 h4 => by
        have h5 := segs_stick (g := g) (P := PL) (n := n) (k := i) (by rw [h2]; exact h3) n h1
        rw [hlS, h5, h2]
        exact ⟨rfl, h4, fun h => absurd h h3⟩)
      have HFok := Lib.hid (show ∀ ps w', segs g PL n n = (0, ps) → KpG B b w w' → Gt B w' b g ps → GaP B b g (shortS g s.data.toList a) w (.returned (.int .i64 0)) w' from fun ps w' h1 h2 h3 => by
        rw [hlS, h1]
        exact ⟨rfl, h2, fun _ => h3⟩)
      clear hE hn16 hpl hlS CO1 hb2 hn hPL hPD hPDl hPDs hx0 hz hG hB hs ha CO
      go_enter Tryz.func155, Tryz.ntmps155
      go_wp2_with (first
        | (go_at_call 216; (with_reducible refine C1.out.mono ?_); rintro e w1 ⟨rfl, hl, hk⟩; have HL := Lib.hid (And.intro hl hk); clear hl hk)
        | (go_at_call 217; (with_reducible refine (C0.out _ _ (by omega)).mono ?_); rintro e w' ⟨rfl, rfl⟩))
      go_loopw [10, 31] (fun v i wr => ∃ (k : Nat) (ps : List (Int × Int)), i = .int .i64 (k : Int) ∧ k ≤ n ∧ v = .int .i64 (ahS PL k) ∧ segs g PL n k = (0, ps) ∧ ps.length ≤ 4096 ∧ Gt B wr b g ps ∧ KpG B b w wr) (fun _ i _ => n - (intOf i).toNat)
      case atStart => exact ⟨0, [], rfl, Nat.zero_le _, rfl, rfl, by simp, HL.out.1, HL.out.2⟩
      case round =>
        obtain ⟨k, ps, rfl, hk, rfl, hgr, hpl, hGk, hKk⟩ := hrel
        have HSt := Lib.hid (And.intro hGk hKk)
        have HPL := Lib.hid hpl
        by_cases hgo : k < n
        · have CSk := Lib.hid (fun W => CS.out k W hgo)
          have HNX := Lib.hid (show segs g PL n (k + 1) = if (sF PL n k : Int) ≤ ahS PL k ∨ sT PL k < sF PL n k ∨ (k + 1 = n ∧ sT PL k ≠ 65535) ∨ sJ PL n k % 2 ≠ 0 then (4, ps)
            else codes g (gly PL (sF PL n k) (sD PL n k) (sJ PL n k) (sAt n k)) (sF PL n k) (sT PL k + 1 - sF PL n k) (0, ps) by simp only [segs]; rw [stick_ok hgr])
          have HAT := Lib.hid (show ahS PL (k + 1) = (sT PL k : Int) from rfl)
          have b1 : sF PL n k < 65536 := n2_lt _ _
          have b2 : sT PL k < 65536 := n2_lt _ _
          have b3 : sD PL n k < 65536 := n2_lt _ _
          have b4 : sJ PL n k < 65536 := n2_lt _ _
          have b5 : sAt n k < 1000000 := by unfold sAt; omega
          have hah : -1 ≤ ahS PL k ∧ ahS PL k < 65536 := by
            cases k with
            | zero => exact ⟨Int.le_refl _, by show (-1 : Int) < _; omega⟩
            | succ k => have := n2_lt PL (14 + 2 * k); exact ⟨by show (-1 : Int) ≤ (sT PL k : Int); omega, by show (sT PL k : Int) < _; unfold sT; omega⟩
          obtain ⟨x, hx⟩ : ∃ x, x = sF PL n k := ⟨_, rfl⟩
          obtain ⟨y, hy⟩ : ∃ x, x = sT PL k := ⟨_, rfl⟩
          obtain ⟨z, hzz⟩ : ∃ x, x = sD PL n k := ⟨_, rfl⟩
          obtain ⟨u, hu⟩ : ∃ x, x = sJ PL n k := ⟨_, rfl⟩
          obtain ⟨v, hv⟩ : ∃ x, x = sAt n k := ⟨_, rfl⟩
          obtain ⟨ah, hahd⟩ : ∃ v, v = ahS PL k := ⟨_, rfl⟩
          rw [← hx, ← hy, ← hzz, ← hu, ← hv] at CSk
          rw [← hx, ← hy, ← hzz, ← hu, ← hv, ← hahd] at HNX
          rw [← hy] at HAT
          rw [← hahd] at hah ⊢
          rw [← hx] at b1
          rw [← hy] at b2
          rw [← hzz] at b3
          rw [← hu] at b4
          rw [← hv] at b5
          clear hx hy hzz hu hv hahd hgr hpl hGk hKk
          go_upto_region 11 with (go_at_call 218; (with_reducible refine (CSk.out _).mono ?_); rintro e w2 ⟨rfl, hb⟩; have H2 := Lib.hid (show Gt B w2 b g ps ∧ KpG B b w w2 from ⟨HSt.out.1.next hb, HSt.out.2.trans (KpG.of hb)⟩); clear hb)
          have hbox := heap_alloc_new w2 (.cells #[.int .i64 (x : Int), .int .i64 (y : Int), .int .i64 (z : Int), .int .i64 (u : Int), .int .i64 (v : Int)] 302)
          have hbl : Below w2.heap.size w2 (w2.alloc (.cells #[.int .i64 (x : Int), .int .i64 (y : Int), .int .i64 (z : Int), .int .i64 (u : Int), .int .i64 (v : Int)] 302)) := (Below.refl _ _).alloc (Nat.le_refl _) _
          have H3 := Lib.hid (show GsS B b w (w2.alloc (.cells #[.int .i64 (x : Int), .int .i64 (y : Int), .int .i64 (z : Int), .int .i64 (u : Int), .int .i64 (v : Int)] 302)) g ps w2.heap.size x y z u v from ⟨H2.out.2.trans (KpG.of hbl), H2.out.1.next hbl, hbox⟩)
          obtain ⟨o, ho⟩ : ∃ o, o = w2.heap.size := ⟨_, rfl⟩
          obtain ⟨W3, hW3⟩ : ∃ W, W = w2.alloc (.cells #[.int .i64 (x : Int), .int .i64 (y : Int), .int .i64 (z : Int), .int .i64 (u : Int), .int .i64 (v : Int)] 302) := ⟨_, rfl⟩
          rw [← hW3, ← ho] at H3
          rw [← hW3, ← ho]
          clear hW3 ho hbox hbl H2 HSt
          obtain ⟨d0, d1, d2, d3, d4⟩ := H3.out.box.cells
          obtain ⟨n1, hn1⟩ : ∃ n1, n = n1 + 1 := ⟨n - 1, by omega⟩
          have e3 : IntKind.i64.wrap ((n : Int) - 1) = (n1 : Int) := by rw [i64_in _ (by omega)]; omega
          have e3' : (n : Int) - 1 = (n1 : Int) := by omega
          obtain ⟨q, hq⟩ : ∃ q, q = u % 2 := ⟨_, rfl⟩
          have e4 : (u : Int).tmod 2 = (q : Int) := by rw [Int.tmod_eq_emod_of_nonneg (by omega)]; omega
          have HN1 := Lib.hid hn1
          have HQQ := Lib.hid hq
          clear hn1 hq
          by_cases hw1 : (x : Int) ≤ ah
          · have HQ := Lib.hid (fun w' h => HFin.out (k + 1) _ w' hgo (by rw [HNX.out, if_pos (.inl hw1)]) (by show (4 : Int) ≠ 0; decide) h)
            clear HNX hah
            go_wp2_with fail
            go_ret
            exact HQ.out _ H3.out.kp
          · by_cases hw2 : y < x
            · have HQ := Lib.hid (fun w' h => HFin.out (k + 1) _ w' hgo (by rw [HNX.out, if_pos (.inr (.inl hw2))]) (by show (4 : Int) ≠ 0; decide) h)
              clear HNX hah
              go_wp2_with fail
              go_ret
              exact HQ.out _ H3.out.kp
            · have HK1 := Lib.hid (show k + 1 = n ↔ k = n1 by have := HN1.out; omega)
              by_cases hw3 : k = n1
              · have g3 : ((k : Int) == (n1 : Int)) = true := by simp [hw3]
                by_cases hw4 : y = 65535
                · have g4 : ((y : Int) != 65535) = false := by simp [hw4]
                  by_cases hw5 : q = 0
                  · have g5 : ((q : Int) != 0) = false := by simp [hw5]
                    have HNN := Lib.hid (show ¬ ((x : Int) ≤ ah ∨ y < x ∨ (k + 1 = n ∧ y ≠ 65535) ∨ u % 2 ≠ 0) by have := HQQ.out; omega)
                    clear hw3 hw4 hw5
                    have HNX2 := Lib.hid (show segs g PL n (k + 1) = codes g (gly PL x z u v) x (y + 1 - x) (0, ps) by rw [HNX.out, if_neg HNN.out])
                    have CA := Lib.hid (CGa.out x y z u v ps W3 H3.out.gt (H3.out.le HB.out) HPL.out (by omega) b2 b3 b4 b5)
                    obtain ⟨r, hr⟩ : ∃ r, r = codes g (gly PL x z u v) x (y + 1 - x) (0, ps) := ⟨_, rfl⟩
                    rw [← hr] at CA HNX2
                    obtain ⟨r1, r2⟩ := r
                    clear hr HNX hah
                    by_cases hr0 : r1 = 0
                    · subst hr0
                      go_wp2_with (go_at_call 219; (with_reducible refine CA.out.mono ?_); rintro e w5 ⟨⟨rfl, hk5, hg5⟩, hl5⟩; have H5 := Lib.hid (And.intro (hg5 rfl) (And.intro (H3.out.kp.trans hk5) (hl5 rfl))); have HBX5 := Lib.hid (H3.out.gt.keep hk5 H3.out.box (by decide) (by decide)); obtain ⟨d0, d1, d2, d3, d4⟩ := Bs.cells HBX5.out; clear hk5 hg5 hl5)
                      exact ⟨⟨k + 1, r2, by simp, by omega, by rw [HAT.out], HNX2.out, H5.out.2.2, H5.out.1, H5.out.2.1⟩, by simp [intOf]; omega⟩
                    · have e9 : (r1 != 0) = true := by simp [hr0]
                      have HQ := Lib.hid (fun w' h => HFin.out (k + 1) _ w' hgo HNX2.out hr0 h)
                      clear hr0
                      go_wp2_with (go_at_call 219; (with_reducible refine CA.out.mono ?_); rintro e w5 ⟨⟨rfl, hk5, hg5⟩, hl5⟩; have H5 := Lib.hid (H3.out.kp.trans hk5); clear hk5 hg5 hl5)
                      go_ret
                      exact HQ.out _ H5.out
                  · have g5 : ((q : Int) != 0) = true := by simp [hw5]
                    have HNN := Lib.hid (show (x : Int) ≤ ah ∨ y < x ∨ (k + 1 = n ∧ y ≠ 65535) ∨ u % 2 ≠ 0 by have := HQQ.out; omega)
                    clear hw3 hw4 hw5
                    have HQ := Lib.hid (fun w' h => HFin.out (k + 1) _ w' hgo (by rw [HNX.out, if_pos HNN.out]) (by show (4 : Int) ≠ 0; decide) h)
                    clear HNX hah
                    go_wp2_with fail
                    go_ret
                    exact HQ.out _ H3.out.kp
                · have g4 : ((y : Int) != 65535) = true := by simp; omega
                  have HNN := Lib.hid (show (x : Int) ≤ ah ∨ y < x ∨ (k + 1 = n ∧ y ≠ 65535) ∨ u % 2 ≠ 0 from .inr (.inr (.inl ⟨HK1.out.2 hw3, hw4⟩)))
                  clear hw3 hw4
                  have HQ := Lib.hid (fun w' h => HFin.out (k + 1) _ w' hgo (by rw [HNX.out, if_pos HNN.out]) (by show (4 : Int) ≠ 0; decide) h)
                  clear HNX hah
                  go_wp2_with fail
                  go_ret
                  exact HQ.out _ H3.out.kp
              · have g3 : ((k : Int) == (n1 : Int)) = false := by simp; omega
                by_cases hw5 : q = 0
                · have g5 : ((q : Int) != 0) = false := by simp [hw5]
                  have HNN := Lib.hid (show ¬ ((x : Int) ≤ ah ∨ y < x ∨ (k + 1 = n ∧ y ≠ 65535) ∨ u % 2 ≠ 0) by have := HQQ.out; have := HK1.out; omega)
                  clear hw3 hw5
                  have HNX2 := Lib.hid (show segs g PL n (k + 1) = codes g (gly PL x z u v) x (y + 1 - x) (0, ps) by rw [HNX.out, if_neg HNN.out])
                  have CA := Lib.hid (CGa.out x y z u v ps W3 H3.out.gt (H3.out.le HB.out) HPL.out (by omega) b2 b3 b4 b5)
                  obtain ⟨r, hr⟩ : ∃ r, r = codes g (gly PL x z u v) x (y + 1 - x) (0, ps) := ⟨_, rfl⟩
                  rw [← hr] at CA HNX2
                  obtain ⟨r1, r2⟩ := r
                  clear hr HNX hah
                  by_cases hr0 : r1 = 0
                  · subst hr0
                    go_wp2_with (go_at_call 219; (with_reducible refine CA.out.mono ?_); rintro e w5 ⟨⟨rfl, hk5, hg5⟩, hl5⟩; have H5 := Lib.hid (And.intro (hg5 rfl) (And.intro (H3.out.kp.trans hk5) (hl5 rfl))); have HBX5 := Lib.hid (H3.out.gt.keep hk5 H3.out.box (by decide) (by decide)); obtain ⟨d0, d1, d2, d3, d4⟩ := Bs.cells HBX5.out; clear hk5 hg5 hl5)
                    exact ⟨⟨k + 1, r2, by simp, by omega, by rw [HAT.out], HNX2.out, H5.out.2.2, H5.out.1, H5.out.2.1⟩, by simp [intOf]; omega⟩
                  · have e9 : (r1 != 0) = true := by simp [hr0]
                    have HQ := Lib.hid (fun w' h => HFin.out (k + 1) _ w' hgo HNX2.out hr0 h)
                    clear hr0
                    go_wp2_with (go_at_call 219; (with_reducible refine CA.out.mono ?_); rintro e w5 ⟨⟨rfl, hk5, hg5⟩, hl5⟩; have H5 := Lib.hid (H3.out.kp.trans hk5); clear hk5 hg5 hl5)
                    go_ret
                    exact HQ.out _ H5.out
                · have g5 : ((q : Int) != 0) = true := by simp [hw5]
                  have HNN := Lib.hid (show (x : Int) ≤ ah ∨ y < x ∨ (k + 1 = n ∧ y ≠ 65535) ∨ u % 2 ≠ 0 by have := HQQ.out; omega)
                  clear hw3 hw5
                  have HQ := Lib.hid (fun w' h => HFin.out (k + 1) _ w' hgo (by rw [HNX.out, if_pos HNN.out]) (by show (4 : Int) ≠ 0; decide) h)
                  clear HNX hah
                  go_wp2_with fail
                  go_ret
                  exact HQ.out _ H3.out.kp
        · obtain rfl : k = n := by omega
          have HQ := Lib.hid (HFok.out ps _ hgr hKk hGk)
          clear hgr hpl hGk hKk
          go_wp2_with fail
          go_ret
          exact HQ.out
    · rw [if_neg hz] at hlS
      have g0 : ((x0 : Int) != 0) = true := by simp; omega
      have HQ := Lib.hid (show ∀ w', KpG B b w w' → GaP B b g (shortS g s.data.toList a) w (.returned (.int .i64 4)) w' from fun w' h => by rw [hlS]; exact ⟨rfl, h, fun h => absurd h (by show (4 : Int) ≠ 0; decide)⟩)
      clear hE hn0 hn16 hpl hlS CO1 hb2 hn hPL hPD hPDl hPDs hx0 hz hG hB hs ha CO CS CGa
      go_enter Tryz.func155, Tryz.ntmps155
      go_wp2_with (first
        | (go_at_call 216; (with_reducible refine C1.out.mono ?_); rintro e w1 ⟨rfl, hl, hk⟩; have HL := Lib.hid (And.intro hl hk); clear hl hk)
        | (go_at_call 217; (with_reducible refine (C0.out _ _ (by omega)).mono ?_); rintro e w' ⟨rfl, rfl⟩))
      go_ret
      exact HQ.out _ HL.out.2
  · have hlS : shortS g s.data.toList a = (shortE s.data.toList a, []) := if_neg hE
    have CO2 := Lib.hid (show Calls Tryz.prog 216 #[.string s, .int .i64 (a : Int)] w fun e w' => e = .returned (.tuple #[.string ⟨#[]⟩, .int .i64 0, .int .i64 (shortE s.data.toList a)]) ∧ Below w.heap.size w w' from
      CO.out.mono fun e w' ⟨h1, h2, _⟩ => ⟨h2 hE, h1⟩)
    have HQ := Lib.hid (show ∀ w', Below w.heap.size w w' → GaP B b g (shortS g s.data.toList a) w (.returned (.int .i64 (shortE s.data.toList a))) w' from fun w' h => by rw [hlS]; exact ⟨rfl, KpG.of h, fun h => absurd h hE⟩)
    obtain ⟨x, hx⟩ : ∃ x, x = shortE s.data.toList a := ⟨_, rfl⟩
    rw [← hx] at CO2 HQ hE
    have e1 : (x != 0) = true := by simp [hE]
    clear hlS hx CO hG hB hs ha hE
    go_enter Tryz.func155, Tryz.ntmps155
    go_wp2_with (go_at_call 216; (with_reducible refine CO2.out.mono ?_); rintro e w1 ⟨rfl, hb⟩; have HBw := Lib.hid hb; clear hb)
    go_ret
    exact HQ.out _ HBw.out
end N12
end Go.Proofs.YtfhaloclbbmbeaaGreat
