/- Proved here: what readShort gathers. Condition: a text of at most a billion bytes; the pairs lie in a row of the call's own. -/
import Derived.Test.YtbmpdpajnmjfpaaVd
namespace Go.Proofs.Ytbmpdpajnmjfpaa
open Go.RowKit

theorem piece_all {l : List UInt8} {a n : Nat} (h : a + n ≤ l.length) : (piece l a n).length = n := piece_len h
theorem short_ok {l : List UInt8} {a : Nat} (h : shortE l a = 0) : 0 < nSeg l a ∧ nSeg l a ≤ 8192 ∧ 16 + 8 * nSeg l a ≤ n2 l (a + 2) ∧ (prt l a).length = n2 l (a + 2) := by
  unfold shortE at h
  split at h
  · exact absurd h (by decide)
  · split at h
    · rename_i h2
      split at h
      · exact absurd h (by decide)
      · obtain ⟨_, _, h3, _, h4⟩ := h2
        unfold mayD at h3
        unfold nSeg
        refine ⟨by omega, by omega, h4, ?_⟩
        unfold prt
        exact piece_len (by omega)
    · exact absurd h (by decide)
set_option maxHeartbeats 8000000 in
set_option maxRecDepth 100000 in
theorem readShort_any (B b : Nat) (g : Int) (s : ByteArray) (a : Nat) (w : World) (hG : Gt B w b g []) (hB : B ≤ w.heap.size) (hs : s.size ≤ 1000000000) (ha : a < 4294967296) :
    Calls Try.prog 28 #[.string s, .int .i64 (a : Int), .pointer (some ⟨b, 0, none⟩)] w (GaP B b g (shortS g s.data.toList a) w) := by
  have CO := Lib.hid (openShort_any s a w hs ha)
  have HB := Lib.hid hB
  by_cases hE : shortE s.data.toList a = 0
  · obtain ⟨hn0, hn8, hn16, hpl⟩ := short_ok hE
    have hlS : shortS g s.data.toList a = if n2 (prt s.data.toList a) (14 + 2 * nSeg s.data.toList a) = 0 then segs g (prt s.data.toList a) (nSeg s.data.toList a) (nSeg s.data.toList a) else (4, []) := if_pos hE
    have CO1 := CO.out.mono fun e w' h => And.intro (h.2.2 hE) (And.intro (hG.next h.1) (show KpG B b w w' from KpG.of h.1))
    have hb2 := n2_lt s.data.toList (a + 2)
    obtain ⟨n, hn⟩ : ∃ n, n = nSeg s.data.toList a := ⟨_, rfl⟩
    obtain ⟨PL, hPL⟩ : ∃ l, l = prt s.data.toList a := ⟨_, rfl⟩
    rw [← hn, ← hPL] at hlS
    rw [← hn, ← hPL] at CO1
    rw [← hPL] at hpl
    rw [← hn] at hn0 hn8 hn16
    obtain ⟨PD, hPD⟩ : ∃ D : ByteArray, D = ⟨PL.toArray⟩ := ⟨_, rfl⟩
    rw [← hPD] at CO1
    have hPDl : PD.data.toList = PL := by rw [hPD]
    have hPDs : PD.size = PL.length := by rw [← hPDl]; simp
    have HPs := Lib.hid (show PD.size ≤ 1000000000 ∧ 16 + 8 * n ≤ PD.size by omega)
    have C1 := Lib.hid CO1
    have C0 := Lib.hid (show ∀ (z : Int) W, z = ((14 + 2 * n : Nat) : Int) → Calls Try.prog 45 #[.string PD, .int .i64 z] W fun e w' => e = .returned (.int .i64 (n2 PL (14 + 2 * n) : Int)) ∧ W = w' from fun z W hz => by
      have h := number_any PD (14 + 2 * n) W HPs.out.1 (by have := HPs.out.2; omega)
      rw [hPDl] at h
      rw [hz]; exact h)
    have CS := Lib.hid (fun i W (hi : i < n) => readSegment_any PD n i W HPs.out.1 hn8 hi HPs.out.2)
    rw [hPDl] at CS
    have CGa := Lib.hid (fun F T D J at_ ps W h1 h2 h3 h4 h5 h6 h7 h8 => gather_any B b g PD F T D J at_ ps W h1 h2 h3 HPs.out.1 h4 h5 h6 h7 h8)
    rw [hPDl] at CGa
    have e1 : IntKind.i64.wrap (2 * (n : Int)) = 2 * (n : Int) := i64_in _ (by omega)
    have e2 : IntKind.i64.wrap (14 + 2 * (n : Int)) = 14 + 2 * (n : Int) := i64_in _ (by omega)
    obtain ⟨x0, hx0⟩ : ∃ x, x = n2 PL (14 + 2 * n) := ⟨_, rfl⟩
    rw [← hx0] at C0 hlS
    by_cases hz : x0 = 0
    · rw [if_pos hz] at hlS
      have g0 : ((x0 : Int) != 0) = false := by simp; omega
      have HFin := Lib.hid (show ∀ i (r : Int × List (Int × Int)) w', i ≤ n → segs g PL n i = r → r.1 ≠ 0 → KpG B b w w' → GaP B b g (shortS g s.data.toList a) w (.returned (.int .i64 r.1)) w' from fun i r w' h1 h2 h3 h4 => by
        have h5 := segs_stick (g := g) (P := PL) (n := n) (k := i) (by rw [h2]; exact h3) n h1
        rw [hlS, h5, h2]
        exact ⟨rfl, h4, fun h => absurd h h3⟩)
      have HFok := Lib.hid (show ∀ ps w', segs g PL n n = (0, ps) → KpG B b w w' → Gt B w' b g ps → GaP B b g (shortS g s.data.toList a) w (.returned (.int .i64 0)) w' from fun ps w' h1 h2 h3 => by
        rw [hlS, h1]
        exact ⟨rfl, h2, fun _ => h3⟩)
      clear hE hn16 hpl hlS CO1 hb2 hn hPL hPD hPDl hPDs hx0 hz hG hB hs ha CO
      go_enter Try.func28, Try.ntmps28
      go_wp2_with (first
        | (go_at_call 44; (with_reducible refine C1.out.mono ?_); rintro e w1 ⟨rfl, hl, hk⟩; have HL := Lib.hid (And.intro hl hk); clear hl hk)
        | (go_at_call 45; (with_reducible refine (C0.out _ _ (by omega)).mono ?_); rintro e w' ⟨rfl, rfl⟩))
      go_loopw [10, 31] (fun v i wr => ∃ (k : Nat) (ps : List (Int × Int)), i = .int .i64 (k : Int) ∧ k ≤ n ∧ v = .int .i64 (ahS PL k) ∧ segs g PL n k = (0, ps) ∧ ps.length ≤ 4096 ∧ Gt B wr b g ps ∧ KpG B b w wr) (fun _ i _ => n - (intOf i).toNat)
      case atStart => exact ⟨0, [], rfl, Nat.zero_le _, rfl, rfl, by simp, HL.out.1, HL.out.2⟩
      case round =>
        obtain ⟨k, ps, rfl, hk, rfl, hgr, hpl, hGk, hKk⟩ := hrel
        have HSt := Lib.hid (And.intro hGk hKk)
        have HPL := Lib.hid hpl
        by_cases hgo : k < n
        · have CSk := Lib.hid (fun W => CS.out k W hgo)
          have HNX := Lib.hid (show segs g PL n (k + 1) = if (sF PL n k : Int) ≤ ahS PL k ∨ sT PL k < sF PL n k ∨ (k + 1 = n ∧ sT PL k ≠ 65535) ∨ sJ PL n k % 2 ≠ 0 then (4, ps)
            else codes g (gly PL (sF PL n k) (sD PL n k) (sJ PL n k) (sAt n k)) (sF PL n k) (sT PL k + 1 - sF PL n k) (0, ps) by simp only [segs]; rw [stick_ok hgr])
          have HAT := Lib.hid (show ahS PL (k + 1) = (sT PL k : Int) from rfl)
          have b1 : sF PL n k < 65536 := n2_lt _ _
          have b2 : sT PL k < 65536 := n2_lt _ _
          have b3 : sD PL n k < 65536 := n2_lt _ _
          have b4 : sJ PL n k < 65536 := n2_lt _ _
          have b5 : sAt n k < 1000000 := by unfold sAt; omega
          have hah : -1 ≤ ahS PL k ∧ ahS PL k < 65536 := by
            cases k with
            | zero => exact ⟨Int.le_refl _, by show (-1 : Int) < _; omega⟩
            | succ k => have := n2_lt PL (14 + 2 * k); exact ⟨by show (-1 : Int) ≤ (sT PL k : Int); omega, by show (sT PL k : Int) < _; unfold sT; omega⟩
          obtain ⟨x, hx⟩ : ∃ x, x = sF PL n k := ⟨_, rfl⟩
          obtain ⟨y, hy⟩ : ∃ x, x = sT PL k := ⟨_, rfl⟩
          obtain ⟨z, hzz⟩ : ∃ x, x = sD PL n k := ⟨_, rfl⟩
          obtain ⟨u, hu⟩ : ∃ x, x = sJ PL n k := ⟨_, rfl⟩
          obtain ⟨v, hv⟩ : ∃ x, x = sAt n k := ⟨_, rfl⟩
          obtain ⟨ah, hahd⟩ : ∃ v, v = ahS PL k := ⟨_, rfl⟩
          rw [← hx, ← hy, ← hzz, ← hu, ← hv] at CSk
          rw [← hx, ← hy, ← hzz, ← hu, ← hv, ← hahd] at HNX
          rw [← hy] at HAT
          rw [← hahd] at hah ⊢
          rw [← hx] at b1
          rw [← hy] at b2
          rw [← hzz] at b3
          rw [← hu] at b4
          rw [← hv] at b5
          clear hx hy hzz hu hv hahd hgr hpl hGk hKk
          go_upto_region 11 with (go_at_call 46; (with_reducible refine (CSk.out _).mono ?_); rintro e w2 ⟨rfl, hb⟩; have H2 := Lib.hid (show Gt B w2 b g ps ∧ KpG B b w w2 from ⟨HSt.out.1.next hb, HSt.out.2.trans (KpG.of hb)⟩); clear hb)
          have hbox := heap_alloc_new w2 (.cells #[.int .i64 (x : Int), .int .i64 (y : Int), .int .i64 (z : Int), .int .i64 (u : Int), .int .i64 (v : Int)] 96)
          have hbl : Below w2.heap.size w2 (w2.alloc (.cells #[.int .i64 (x : Int), .int .i64 (y : Int), .int .i64 (z : Int), .int .i64 (u : Int), .int .i64 (v : Int)] 96)) := (Below.refl _ _).alloc (Nat.le_refl _) _
          have H3 := Lib.hid (show GsS B b w (w2.alloc (.cells #[.int .i64 (x : Int), .int .i64 (y : Int), .int .i64 (z : Int), .int .i64 (u : Int), .int .i64 (v : Int)] 96)) g ps w2.heap.size x y z u v from ⟨H2.out.2.trans (KpG.of hbl), H2.out.1.next hbl, hbox⟩)
          obtain ⟨o, ho⟩ : ∃ o, o = w2.heap.size := ⟨_, rfl⟩
          obtain ⟨W3, hW3⟩ : ∃ W, W = w2.alloc (.cells #[.int .i64 (x : Int), .int .i64 (y : Int), .int .i64 (z : Int), .int .i64 (u : Int), .int .i64 (v : Int)] 96) := ⟨_, rfl⟩
          rw [← hW3, ← ho] at H3
          rw [← hW3, ← ho]
          clear hW3 ho hbox hbl H2 HSt
          obtain ⟨d0, d1, d2, d3, d4⟩ := H3.out.box.cells
          obtain ⟨n1, hn1⟩ : ∃ n1, n = n1 + 1 := ⟨n - 1, by omega⟩
          have e3 : IntKind.i64.wrap ((n : Int) - 1) = (n1 : Int) := by rw [i64_in _ (by omega)]; omega
          have e3' : (n : Int) - 1 = (n1 : Int) := by omega
          obtain ⟨q, hq⟩ : ∃ q, q = u % 2 := ⟨_, rfl⟩
          have e4 : (u : Int).tmod 2 = (q : Int) := by rw [Int.tmod_eq_emod_of_nonneg (by omega)]; omega
          have HN1 := Lib.hid hn1
          have HQQ := Lib.hid hq
          clear hn1 hq
          by_cases hw1 : (x : Int) ≤ ah
          · have HQ := Lib.hid (fun w' h => HFin.out (k + 1) _ w' hgo (by rw [HNX.out, if_pos (.inl hw1)]) (by show (4 : Int) ≠ 0; decide) h)
            clear HNX hah
            go_wp2_with fail
            go_ret
            exact HQ.out _ H3.out.kp
          · by_cases hw2 : y < x
            · have HQ := Lib.hid (fun w' h => HFin.out (k + 1) _ w' hgo (by rw [HNX.out, if_pos (.inr (.inl hw2))]) (by show (4 : Int) ≠ 0; decide) h)
              clear HNX hah
              go_wp2_with fail
              go_ret
              exact HQ.out _ H3.out.kp
            · have HK1 := Lib.hid (show k + 1 = n ↔ k = n1 by have := HN1.out; omega)
              by_cases hw3 : k = n1
              · have g3 : ((k : Int) == (n1 : Int)) = true := by simp [hw3]
                by_cases hw4 : y = 65535
                · have g4 : ((y : Int) != 65535) = false := by simp [hw4]
                  by_cases hw5 : q = 0
                  · have g5 : ((q : Int) != 0) = false := by simp [hw5]
                    have HNN := Lib.hid (show ¬ ((x : Int) ≤ ah ∨ y < x ∨ (k + 1 = n ∧ y ≠ 65535) ∨ u % 2 ≠ 0) by have := HQQ.out; omega)
                    clear hw3 hw4 hw5
                    have HNX2 := Lib.hid (show segs g PL n (k + 1) = codes g (gly PL x z u v) x (y + 1 - x) (0, ps) by rw [HNX.out, if_neg HNN.out])
                    have CA := Lib.hid (CGa.out x y z u v ps W3 H3.out.gt (H3.out.le HB.out) HPL.out (by omega) b2 b3 b4 b5)
                    obtain ⟨r, hr⟩ : ∃ r, r = codes g (gly PL x z u v) x (y + 1 - x) (0, ps) := ⟨_, rfl⟩
                    rw [← hr] at CA HNX2
                    obtain ⟨r1, r2⟩ := r
                    clear hr HNX hah
                    by_cases hr0 : r1 = 0
                    · subst hr0
                      go_wp2_with (go_at_call 47; (with_reducible refine CA.out.mono ?_); rintro e w5 ⟨⟨rfl, hk5, hg5⟩, hl5⟩; have H5 := Lib.hid (And.intro (hg5 rfl) (And.intro (H3.out.kp.trans hk5) (hl5 rfl))); have HBX5 := Lib.hid (H3.out.gt.keep hk5 H3.out.box (by decide) (by decide)); obtain ⟨d0, d1, d2, d3, d4⟩ := Bs.cells HBX5.out; clear hk5 hg5 hl5)
                      exact ⟨⟨k + 1, r2, by simp, by omega, by rw [HAT.out], HNX2.out, H5.out.2.2, H5.out.1, H5.out.2.1⟩, by simp [intOf]; omega⟩
                    · have e9 : (r1 != 0) = true := by simp [hr0]
                      have HQ := Lib.hid (fun w' h => HFin.out (k + 1) _ w' hgo HNX2.out hr0 h)
                      clear hr0
                      go_wp2_with (go_at_call 47; (with_reducible refine CA.out.mono ?_); rintro e w5 ⟨⟨rfl, hk5, hg5⟩, hl5⟩; have H5 := Lib.hid (H3.out.kp.trans hk5); clear hk5 hg5 hl5)
                      go_ret
                      exact HQ.out _ H5.out
                  · have g5 : ((q : Int) != 0) = true := by simp [hw5]
                    have HNN := Lib.hid (show (x : Int) ≤ ah ∨ y < x ∨ (k + 1 = n ∧ y ≠ 65535) ∨ u % 2 ≠ 0 by have := HQQ.out; omega)
                    clear hw3 hw4 hw5
                    have HQ := Lib.hid (fun w' h => HFin.out (k + 1) _ w' hgo (by rw [HNX.out, if_pos HNN.out]) (by show (4 : Int) ≠ 0; decide) h)
                    clear HNX hah
                    go_wp2_with fail
                    go_ret
                    exact HQ.out _ H3.out.kp
                · have g4 : ((y : Int) != 65535) = true := by simp; omega
                  have HNN := Lib.hid (show (x : Int) ≤ ah ∨ y < x ∨ (k + 1 = n ∧ y ≠ 65535) ∨ u % 2 ≠ 0 from .inr (.inr (.inl ⟨HK1.out.2 hw3, hw4⟩)))
                  clear hw3 hw4
                  have HQ := Lib.hid (fun w' h => HFin.out (k + 1) _ w' hgo (by rw [HNX.out, if_pos HNN.out]) (by show (4 : Int) ≠ 0; decide) h)
                  clear HNX hah
                  go_wp2_with fail
                  go_ret
                  exact HQ.out _ H3.out.kp
              · have g3 : ((k : Int) == (n1 : Int)) = false := by simp; omega
                by_cases hw5 : q = 0
                · have g5 : ((q : Int) != 0) = false := by simp [hw5]
                  have HNN := Lib.hid (show ¬ ((x : Int) ≤ ah ∨ y < x ∨ (k + 1 = n ∧ y ≠ 65535) ∨ u % 2 ≠ 0) by have := HQQ.out; have := HK1.out; omega)
                  clear hw3 hw5
                  have HNX2 := Lib.hid (show segs g PL n (k + 1) = codes g (gly PL x z u v) x (y + 1 - x) (0, ps) by rw [HNX.out, if_neg HNN.out])
                  have CA := Lib.hid (CGa.out x y z u v ps W3 H3.out.gt (H3.out.le HB.out) HPL.out (by omega) b2 b3 b4 b5)
                  obtain ⟨r, hr⟩ : ∃ r, r = codes g (gly PL x z u v) x (y + 1 - x) (0, ps) := ⟨_, rfl⟩
                  rw [← hr] at CA HNX2
                  obtain ⟨r1, r2⟩ := r
                  clear hr HNX hah
                  by_cases hr0 : r1 = 0
                  · subst hr0
                    go_wp2_with (go_at_call 47; (with_reducible refine CA.out.mono ?_); rintro e w5 ⟨⟨rfl, hk5, hg5⟩, hl5⟩; have H5 := Lib.hid (And.intro (hg5 rfl) (And.intro (H3.out.kp.trans hk5) (hl5 rfl))); have HBX5 := Lib.hid (H3.out.gt.keep hk5 H3.out.box (by decide) (by decide)); obtain ⟨d0, d1, d2, d3, d4⟩ := Bs.cells HBX5.out; clear hk5 hg5 hl5)
                    exact ⟨⟨k + 1, r2, by simp, by omega, by rw [HAT.out], HNX2.out, H5.out.2.2, H5.out.1, H5.out.2.1⟩, by simp [intOf]; omega⟩
                  · have e9 : (r1 != 0) = true := by simp [hr0]
                    have HQ := Lib.hid (fun w' h => HFin.out (k + 1) _ w' hgo HNX2.out hr0 h)
                    clear hr0
                    go_wp2_with (go_at_call 47; (with_reducible refine CA.out.mono ?_); rintro e w5 ⟨⟨rfl, hk5, hg5⟩, hl5⟩; have H5 := Lib.hid (H3.out.kp.trans hk5); clear hk5 hg5 hl5)
                    go_ret
                    exact HQ.out _ H5.out
                · have g5 : ((q : Int) != 0) = true := by simp [hw5]
                  have HNN := Lib.hid (show (x : Int) ≤ ah ∨ y < x ∨ (k + 1 = n ∧ y ≠ 65535) ∨ u % 2 ≠ 0 by have := HQQ.out; omega)
                  clear hw3 hw5
                  have HQ := Lib.hid (fun w' h => HFin.out (k + 1) _ w' hgo (by rw [HNX.out, if_pos HNN.out]) (by show (4 : Int) ≠ 0; decide) h)
                  clear HNX hah
                  go_wp2_with fail
                  go_ret
                  exact HQ.out _ H3.out.kp
        · obtain rfl : k = n := by omega
          have HQ := Lib.hid (HFok.out ps _ hgr hKk hGk)
          clear hgr hpl hGk hKk
          go_wp2_with fail
          go_ret
          exact HQ.out
    · rw [if_neg hz] at hlS
      have g0 : ((x0 : Int) != 0) = true := by simp; omega
      have HQ := Lib.hid (show ∀ w', KpG B b w w' → GaP B b g (shortS g s.data.toList a) w (.returned (.int .i64 4)) w' from fun w' h => by rw [hlS]; exact ⟨rfl, h, fun h => absurd h (by show (4 : Int) ≠ 0; decide)⟩)
      clear hE hn0 hn16 hpl hlS CO1 hb2 hn hPL hPD hPDl hPDs hx0 hz hG hB hs ha CO CS CGa
      go_enter Try.func28, Try.ntmps28
      go_wp2_with (first
        | (go_at_call 44; (with_reducible refine C1.out.mono ?_); rintro e w1 ⟨rfl, hl, hk⟩; have HL := Lib.hid (And.intro hl hk); clear hl hk)
        | (go_at_call 45; (with_reducible refine (C0.out _ _ (by omega)).mono ?_); rintro e w' ⟨rfl, rfl⟩))
      go_ret
      exact HQ.out _ HL.out.2
  · have hlS : shortS g s.data.toList a = (shortE s.data.toList a, []) := if_neg hE
    have CO2 := Lib.hid (show Calls Try.prog 44 #[.string s, .int .i64 (a : Int)] w fun e w' => e = .returned (.tuple #[.string ⟨#[]⟩, .int .i64 0, .int .i64 (shortE s.data.toList a)]) ∧ Below w.heap.size w w' from
      CO.out.mono fun e w' ⟨h1, h2, _⟩ => ⟨h2 hE, h1⟩)
    have HQ := Lib.hid (show ∀ w', Below w.heap.size w w' → GaP B b g (shortS g s.data.toList a) w (.returned (.int .i64 (shortE s.data.toList a))) w' from fun w' h => by rw [hlS]; exact ⟨rfl, KpG.of h, fun h => absurd h hE⟩)
    obtain ⟨x, hx⟩ : ∃ x, x = shortE s.data.toList a := ⟨_, rfl⟩
    rw [← hx] at CO2 HQ hE
    have e1 : (x != 0) = true := by simp [hE]
    clear hlS hx CO hG hB hs ha hE
    go_enter Try.func28, Try.ntmps28
    go_wp2_with (go_at_call 44; (with_reducible refine CO2.out.mono ?_); rintro e w1 ⟨rfl, hb⟩; have HBw := Lib.hid hb; clear hb)
    go_ret
    exact HQ.out _ HBw.out
end Go.Proofs.Ytbmpdpajnmjfpaa
