/- Proved here: what the document's Go answers: a glyph's outline, in those that it is in. Condition: shapes that may be and lie elsewhere than the one who goes. -/
import Derived.Test.YtlfnagfcggmeaaaFB
namespace Go.Proofs.Ytlfnagfcggmeaaa
open Go.RowKit

theorem goL_nil (rec : Int → List Int → Int → GR) (pl : Bool) (now : List Int) (out : List (List Pt)) (d v : Int) : goL rec pl now [] out d v = (0, out, d, v) := rfl
theorem goL_cons (rec : Int → List Int → Int → GR) (pl : Bool) (now : List Int) (p : C.Prt) (r : List C.Prt) (out : List (List Pt)) (d v : Int) : goL rec pl now (p :: r) out d v =
    if p.1 ∈ now then (9, [], 0, v) else if 8 < now.length then (8, [], 0, v) else if 4096 < v + 1 then (6, [], 0, v + 1)
    else if (rec p.1 now (v + 1)).1 ≠ 0 then ((rec p.1 now (v + 1)).1, [], 0, (rec p.1 now (v + 1)).2.2.2)
    else if pl = true then goL rec pl now r out (max d ((rec p.1 now (v + 1)).2.2.1 + 1)) (rec p.1 now (v + 1)).2.2.2
    else if movE p (rec p.1 now (v + 1)).2.1 ≠ 0 then (movE p (rec p.1 now (v + 1)).2.1, [], 0, (rec p.1 now (v + 1)).2.2.2)
    else if 256 < (out ++ movL p (rec p.1 now (v + 1)).2.1).length ∨ 4096 < tots (out ++ movL p (rec p.1 now (v + 1)).2.1) then (6, [], 0, (rec p.1 now (v + 1)).2.2.2)
    else goL rec pl now r (out ++ movL p (rec p.1 now (v + 1)).2.1) (max d ((rec p.1 now (v + 1)).2.2.1 + 1)) (rec p.1 now (v + 1)).2.2.2 := by
  conv => lhs; unfold goL
set_option maxHeartbeats 16000000 in
set_option maxRecDepth 100000 in
theorem go_any (SS : List Shp) (hM : MayS SS) (pl : Bool) (gb : Nat) (A : Option Addr) (m c : Nat) (hm : m = SS.length) : ∀ (n : Nat) (i : Nat) (inn : List Int) (v : Int) (Ai : Option Addr) (ki cI : Nat) (w : World), 1 ≤ n → inn.length + n = 9 → i < m → 0 ≤ v → v ≤ 4096 →
    Gr w gb A m c v pl → ShlN gb w A m SS → ki = inn.length → Src w Ai ki cI (ci .i64 inn) →
    Calls Try.prog 20 #[.pointer (some ⟨gb, 0, none⟩), .int .i64 (i : Int), .slice Ai ki cI] w (GoP (goP SS pl n (i : Int) inn v) gb A m c pl w) := by
  intro n
  induction n with
  | zero => intro i inn v Ai ki cI w h1; omega
  | succ n ih =>
    intro i inn v Ai ki cI w _ hfu hi hv0 hv1 hg hS hki hsrc
    obtain ⟨ad, B, c1, B', c2, hA, d0, d1, hC, hP⟩ := hS.at_ hi
    subst hA
    have hbnd := goP_bnd hM pl (n + 1) (i : Int) inn v hv0 hv1
    have hdeep := goP_deep SS pl (n + 1) (i : Int) inn v
    obtain ⟨g0, g1, g2⟩ := hg.cells
    by_cases hp : (sh SS i).2 = []
    · have hn2 : (sh SS i).2.length = 0 := by rw [hp]; rfl
      rw [goP_leaf hp]
      have hX := Lib.hid (show CtlN gb (w.alloc (.cells #[.slice B (sh SS i).1.length c1, .slice B' 0 c2] 50)) B (sh SS i).1.length (sh SS i).1 from hC.onl (Onl.of ((Below.refl _ _).alloc (Nat.le_refl _) _)))
      have hG := Lib.hid (show Gr (w.alloc (.cells #[.slice B (sh SS i).1.length c1, .slice B' 0 c2] 50)) gb (some ad) m c v pl from hg.bel ((Below.refl _ _).alloc (Nat.le_refl _) _))
      have hO := Lib.hid (show Onl gb w (w.alloc (.cells #[.slice B (sh SS i).1.length c1, .slice B' 0 c2] 50)) from Onl.of ((Below.refl _ _).alloc (Nat.le_refl _) _))
      rw [hn2] at d1
      obtain ⟨n1, hn1⟩ : ∃ n, n = (sh SS i).1.length := ⟨_, rfl⟩
      rw [← hn1] at d0 hX hG hO
      clear hC hP hS hg hp hn2 hbnd hdeep hsrc ih hn1 hm
      go_enter Try.func20, Try.ntmps20
      go_wp2_with fail
      go_ret3
      exact ⟨B, n1, c1, rfl, hO.out, hG.out, hX.out⟩
    · rw [goP_parts hp] at hbnd hdeep ⊢
      have hnl : inn.length ≤ 8 := by omega
      obtain ⟨now, hnow⟩ : ∃ l, l = inn ++ [(i : Int)] := ⟨_, rfl⟩
      have hnowl : now.length = ki + 1 := by rw [hnow, hki]; simp
      obtain ⟨R, hR⟩ : ∃ R, R = goL (goP SS pl n) pl (inn ++ [(i : Int)]) (sh SS i).2 [] 0 v := ⟨_, rfl⟩
      rw [← hR] at hbnd hdeep ⊢
      rw [← hnow] at hR
      have hn2 : ¬ (sh SS i).2.length = 0 := fun h => hp (List.eq_nil_of_length_eq_zero h)
      have hpm := fun j (hj : j < (sh SS i).2.length) => ((hM.2 i (by omega)).2.2 (by omega)).2.2 j hj
      have hpl64 : (sh SS i).2.length ≤ 64 := ((hM.2 i (by omega)).2.2 (by omega)).2.1.2
      obtain ⟨PP, hPP⟩ : ∃ P, P = (sh SS i).2 := ⟨_, rfl⟩
      obtain ⟨n1, hn1⟩ : ∃ n, n = (sh SS i).1.length := ⟨_, rfl⟩
      rw [← hPP] at d1 hP hn2 hpm hpl64 hR
      rw [← hn1] at d0
      obtain ⟨n2, hn2e⟩ : ∃ n, n = PP.length := ⟨_, rfl⟩
      rw [← hn2e] at d1 hP hn2 hpm hpl64
      have e2 : ((n2 : Int) == 0) = false := by simp [hn2]
      have HR0 := Lib.hid hR
      have HPm := Lib.hid hpm
      have HPr := Lib.hid hP
      have HSh := Lib.hid hS
      have HGr := Lib.hid hg
      have HN2 := Lib.hid hn2e
      have HNl := Lib.hid hnowl
      have HM := Lib.hid hm
      have HKi := Lib.hid hki
      have hki9 : ki ≤ 8 := by omega
      have HSrc := Lib.hid hsrc
      have HNow := Lib.hid hnow
      have HBnd := Lib.hid hbnd
      have HIH := Lib.hid ih
      have HFu := Lib.hid (show now.length + n = 9 by omega)
      obtain ⟨i3, hi0, hz0, hz1, hz2⟩ := info_parts Try.info3
      have H3 := Lib.hid (And.intro hi0 (And.intro hz0 (And.intro hz1 hz2)))
      obtain ⟨i27, hi1, hy0, hy1, hy2⟩ := info_parts Try.info47
      have H27 := Lib.hid (And.intro hi1 (And.intro hy0 (And.intro hy1 hy2)))
      clear hC hP hS hp hbnd hdeep hsrc ih hnow hR hpm hPP hn1 hn2e hn2 hm hki hnowl hfu hi0 hz0 hz1 hz2 hi1 hy0 hy1 hy2
      go_enter Try.func20, Try.ntmps20
      go_upto_region 6 with fail
      obtain ⟨bs, hbs⟩ : ∃ b, b = w.heap.size := ⟨_, rfl⟩
      have hW1 : Below w.heap.size w (w.alloc (.cells #[.slice B n1 c1, .slice B' n2 c2] 50)) := (Below.refl _ _).alloc (Nat.le_refl _) _
      have hBs := Bs.new w B n1 c1 B' n2 c2
      obtain ⟨W1, hW1e⟩ : ∃ W, W = w.alloc (.cells #[.slice B n1 c1, .slice B' n2 c2] 50) := ⟨_, rfl⟩
      rw [← hW1e] at hW1 hBs ⊢
      rw [← hbs] at hBs ⊢
      have HW1 := Lib.hid hW1
      have HBs := Lib.hid hBs
      have HBse := Lib.hid (show w.heap.size ≤ bs by omega)
      have HS1 := Lib.hid (HSrc.out.bel hW1)
      clear hW1e hbs hW1 hBs d0 d1 g0 g1 g2
      have HA2 := Lib.hid (show Below W1.heap.size W1 (W1.alloc (.cells #[] 3)) from (Below.refl _ _).alloc (Nat.le_refl _) _)
      have HOl := Lib.hid (show (W1.alloc (.cells #[] 3)).ownsRow W1.heap.size 3 1 (.slice (some ⟨W1.heap.size, 0, none⟩) 0 0) 0 [] from World.ownsRow_lit W1 #[] 0 (Nat.le_refl _) (by unfold maxLen; omega) rfl)
      have HS2 := Lib.hid (HS1.out.bel HA2.out)
      go_upto_region 7 with (first
        | (at_builtin; (refine wpList_append_src _ rfl (.tmp 34) (.tmp 35) 37 rfl W1.heap.size 3 i3 _ 1 8 Try.underlying37 H3.out.1 H3.out.2.1 H3.out.2.2.1 H3.out.2.2.2 rfl (by decide) (.slice (some ⟨W1.heap.size, 0, none⟩) 0 0) 0 [] rfl HOl.out Ai ki cI (ci .i64 inn) rfl (by rw [ci_len, HKi.out]; simp) HS2.out (ci_one _ _) (by unfold maxLen; omega) (by omega) (by simp) ?_); intro v' w7 hown' hg'; simp only [Nat.zero_add, List.nil_append] at hown'; obtain ⟨A7, c7, rfl⟩ := own_form hown'; have HB7 := Lib.hid (below_grown HA2.out HOl.out hg'); have HO7 := Lib.hid (own_bel hown' ((Below.refl w7.heap.size w7).alloc (Nat.le_refl _) (.cells #[.int .i64 (i : Int)] 3))); clear hown' hg')
        | (at_builtin; go_must (refine wpList_append_own _ rfl (.tmp 36) (.tmp 38) 37 rfl W1.heap.size 3 i3 _ 1 8 Try.underlying37 H3.out.1 H3.out.2.1 H3.out.2.2.1 H3.out.2.2.2 rfl (by decide) (.slice A7 ki c7) ki (ci .i64 inn) rfl HO7.out ⟨w7.heap.size, 0, none⟩ 1 1 [.int .i64 (i : Int)] rfl rfl (cells_new _ _ _) (by intro u hu; simp at hu; subst hu; rfl) (by unfold maxLen; omega) (by omega) (HB7.out.alloc HB7.out.size _).size ?_); intro v' w8 hown' hg' _; obtain ⟨A8, c8, rfl⟩ := own_form hown'; have HB8 := Lib.hid (below_grown (HB7.out.alloc HB7.out.size _) HO7.out hg'); have HO8 := Lib.hid hown'; clear hown' hg'))
      have HLp := Lib.hid (show LpS gb w w8 (some ad) m c v pl bs B n1 c1 B' n2 c2 A8 (ki + 1) c8 now none 0 0 [] [] from
        ⟨(Onl.of HW1.out).trans (Onl.of HB8.out), HGr.out.lt, (HGr.out.bel HW1.out).bel HB8.out, HBs.out.bel HB8.out, HBse.out, by rw [HNow.out, ci_snoc]; exact own_base HO8.out HW1.out.size, World.ownsRow_nil _ _ _ _, ⟨rfl, fun i hi => by omega⟩, rfl⟩)
      clear HW1 HBs HBse HS1 HA2 HOl HS2 HB7 HO7 HB8 HO8 HSrc
      obtain ⟨kn, hkn⟩ : ∃ k, k = ki + 1 := ⟨_, rfl⟩
      rw [← hkn] at HLp HNl ⊢
      have HKn := Lib.hid (show kn ≤ 9 ∧ 1 ≤ kn by omega)
      clear hkn
      have hkn9 : kn ≤ 9 := HKn.out.1
      go_wp2_with fail
      go_loopw [10, 11, 13] (fun vo vd vj wr => ∃ (j : Nat) (Ao : Option Addr) (ko co : Nat) (out : List (List Pt)) (cs : List Value) (dd vv : Int), vj = .int .i64 (j : Int) ∧ j ≤ n2 ∧ vo = .slice Ao ko co ∧ vd = .int .i64 dd ∧ (0 ≤ dd ∧ dd ≤ n + 1) ∧ (0 ≤ vv ∧ vv ≤ 4096) ∧ OutOk out ∧ LpS gb w wr (some ad) m c vv pl bs B n1 c1 B' n2 c2 A8 kn c8 now Ao ko co out cs ∧ goL (goP SS pl n) pl now (PP.drop j) out dd vv = R) (fun _ _ j _ => n2 - (intOf j).toNat)
      case atStart => exact ⟨0, none, 0, 0, [], [], 0, v, rfl, Nat.zero_le _, rfl, rfl, ⟨by omega, by omega⟩, ⟨hv0, hv1⟩, OutOk.nil, HLp.out, HR0.out.symm⟩
      case round =>
        obtain ⟨j, Ao, ko, co, out, cs, dd, vv, rfl, hj, rfl, rfl, hdd, hvv, hout, hL, hG⟩ := hrel
        obtain ⟨wo, hwo⟩ : ∃ W, W = wr := ⟨_, rfl⟩
        subst hwo
        have HL := Lib.hid hL
        have HOut := Lib.hid hout
        have hsc := hL.bsx.cells.2
        by_cases hgo : j < n2
        · obtain ⟨ad2, hB, hcell⟩ := (HPr.out.onl hL.on).prl.at_ (Below.refl wo.heap.size wo) hgo
          subst hB
          have hdrop : PP.drop j = C.qp PP j :: PP.drop (j + 1) := by
            have hjl : j < PP.length := by rw [← HN2.out]; exact hgo
            rw [List.drop_eq_getElem_cons hjl]
            congr 1
            simp [C.qp, hjl]
          have hpm := HPm.out j hgo
          rw [hdrop, goL_cons] at hG
          obtain ⟨p, hp⟩ : ∃ p, p = C.qp PP j := ⟨_, rfl⟩
          rw [← hp] at hcell hpm hG
          obtain ⟨pg, px, py, pa, pb, pc, pd⟩ := p
          obtain ⟨x0, x1, x2, x3, x4, x5, x6⟩ := hcell
          obtain ⟨⟨hpg0, hpg1⟩, _⟩ := hpm
          dsimp only at x0 x1 x2 x3 x4 x5 x6 hpg0 hpg1 hG
          have HG := Lib.hid hG
          have HL2 := Lib.hid (hL.bel ((Below.refl wo.heap.size wo).alloc (Nat.le_refl _) (.cells #[.int .i64 pg, .int .i64 px, .int .i64 py, .int .i64 pa, .int .i64 pb, .int .i64 pc, .int .i64 pd] 54)))
          have HBp := Lib.hid (C.Bp.new wo pg px py pa pb pc pd)
          have HHb := Lib.hid (show wo.heap.size ≠ gb by have := hL.gr.lt; omega)
          clear hp hdrop hG hL hout
          go_upto_region 11 with fail
          generalize wo.heap.size = hb1 at HBp HHb ⊢
          generalize wo.alloc (.cells #[.int .i64 pg, .int .i64 px, .int .i64 py, .int .i64 pa, .int .i64 pb, .int .i64 pc, .int .i64 pd] 54) = W2 at HL2 HBp ⊢
          clear x0 x1 x2 x3 x4 x5 x6 hsc HL
          go_wp2_with fail
          go_loopw [15] (fun u wi => ∃ l : Nat, u = .int .i64 (l : Int) ∧ l ≤ kn ∧ (∀ i, i < l → Go.Proofs.Ytlfnagfcggmeaaa.co now i ≠ pg) ∧ Below W2.heap.size W2 wi) (fun u _ => kn - (intOf u).toNat)
          case atStart => exact ⟨0, rfl, Nat.zero_le _, fun i hi => by omega, Below.refl _ _⟩
          case round =>
            obtain ⟨l, rfl, hl, hno, hbl⟩ := hrel
            have HL3 := Lib.hid (HL2.out.bel hbl)
            have HB3 := Lib.hid (HBp.out.bel hbl)
            have HBl := Lib.hid hbl
            have y0 := HB3.out.cells.1
            dsimp only at y0
            by_cases hgl : l < kn
            · obtain ⟨an, hAn, z0⟩ := (own_il HL3.out.now HNl.out).at_ (Below.refl wr.heap.size wr) hgl
              subst hAn
              have HNO := Lib.hid hno
              by_cases he : Go.Proofs.Ytlfnagfcggmeaaa.co now l = pg
              · have hmem : pg ∈ now := mem_co.2 ⟨l, by rw [HNl.out]; exact hgl, he⟩
                have HX := Lib.hid (show R = (9, [], 0, vv) from by rw [← HG.out, if_pos hmem])
                rw [he] at z0
                clear hno hbl he hmem
                go_wp2_with fail
                go_quiet (fail)
                all_goals
                  go_wp2_with fail
                  go_ret3
                  exact goP_err HX.out (HL3.out.on.trans (Onl.of (below_drewN (Below.refl _ _) _))) (HL3.out.gr.bel (below_drewN (Below.refl _ _) _))
              · obtain ⟨q, hq⟩ : ∃ q, q = Go.Proofs.Ytlfnagfcggmeaaa.co now l := ⟨_, rfl⟩
                have HNO2 := Lib.hid (show ∀ i, i < l + 1 → Go.Proofs.Ytlfnagfcggmeaaa.co now i ≠ pg from all_succ hno he)
                rw [← hq] at z0 he
                have e5 : (q == pg) = false := by simp [he]
                clear hno hbl he hq
                go_wp2_with fail
                go_quiet (fail)
                all_goals
                  go_wp2_with fail
                  exact ⟨⟨l + 1, by simp, by omega, HNO2.out, below_drewN HBl.out _⟩, by simp [intOf]; omega⟩
            · obtain rfl : l = kn := by omega
              have hnm : ¬ pg ∈ now := fun h => by
                obtain ⟨i, hi, h2⟩ := mem_co.1 h
                exact hno i (by rw [HNl.out] at hi; exact hi) h2
              have hG := HG.out
              rw [if_neg hnm, HNl.out] at hG
              clear hno hbl hnm
              by_cases h8 : 8 < l
              · rw [if_pos h8] at hG
                have HX := Lib.hid hG.symm
                clear hG
                go_wp2_with fail
                go_ret3
                exact goP_err HX.out HL3.out.on HL3.out.gr
              rw [if_neg h8] at hG
              obtain ⟨f0, f1, f2⟩ := HL3.out.gr.cells
              have fr := HL3.out.gr.fr 1
              by_cases h4 : 4096 < vv + 1
              · rw [if_pos h4] at hG
                have HX := Lib.hid hG.symm
                have e4 : decide (4096 < vv + 1) = true := decide_eq_true h4
                have HL4 := Lib.hid (HL3.out.visit (vv + 1))
                clear hG
                go_wp2_with fail
                go_ret3
                exact goP_err HX.out HL4.out.on HL4.out.gr
              rw [if_neg h4] at hG
              have e4 : decide (4096 < vv + 1) = false := decide_eq_false h4
              obtain ⟨i', hi'⟩ : ∃ k : Nat, (k : Int) = pg := ⟨pg.toNat, Int.toNat_of_nonneg hpg0⟩
              have hi'm : i' < m := by have := HM.out; omega
              have hd1 := goP_deep SS pl n pg now (vv + 1)
              have hbb := goP_bnd hM pl n pg now (vv + 1) (by omega) (by omega)
              obtain ⟨R1, hR1⟩ : ∃ R1, R1 = goP SS pl n pg now (vv + 1) := ⟨_, rfl⟩
              rw [← hR1] at hG hd1 hbb
              have hn9 : n ≤ 9 := by have := HFu.out; omega
              have CG := Lib.hid (show ∀ W, LpS gb w W (some ad) m c (vv + 1) pl bs B n1 c1 (some ad2) n2 c2 A8 l c8 now Ao ko co out cs → Calls Try.prog 20 #[.pointer (some ⟨gb, 0, none⟩), .int .i64 pg, .slice A8 l c8] W (GoP R1 gb (some ad) m c pl W) from fun W h => by
                have h2 := HIH.out i' now (vv + 1) A8 l c8 W (by have := HFu.out; have := HNl.out; omega) HFu.out hi'm (by omega) (by omega) h.gr (HSh.out.onl h.on) HNl.out.symm (own_src h.now)
                rw [hi', ← hR1] at h2
                exact h2)
              obtain ⟨E1, L1, d1, v1⟩ := R1
              obtain ⟨⟨bv0, bv1⟩, bok⟩ := hbb
              obtain ⟨hd10, hd11⟩ := hd1
              dsimp only at hG hd10 hd11 bv0 bv1 bok
              have HL4 := Lib.hid (HL3.out.visit (vv + 1))
              have HB4 := Lib.hid (show C.Bp (wr.setCell ⟨gb, 1, none⟩ (.int .i64 (vv + 1))) hb1 (pg, px, py, pa, pb, pc, pd) from (Below.heap_setCell wr ⟨gb, 1, none⟩ (.int .i64 (vv + 1)) hb1 HHb.out).trans HB3.out)
              have HG := Lib.hid hG
              have HBok := Lib.hid bok
              clear hG bok hi' hi'm hR1
              go_upto_region 21 with fail
              generalize wr.setCell ⟨gb, 1, none⟩ (.int .i64 (vv + 1)) = W4 at HL4 HB4 ⊢
              clear f0 f1 f2 fr y0
              have y0 := HB4.out.cells.1
              dsimp only at y0
              go_upto_region 22 with (go_at_call 20; (with_reducible refine (CG.out _ HL4.out).mono ?_); rintro e w5 ⟨A', k', c', rfl, ho, hg1, hc1⟩; have HL5 := Lib.hid (HL4.out.onl ho hg1); have HB5 := Lib.hid (show C.Bp w5 hb1 (pg, px, py, pa, pb, pc, pd) from (ho.block hb1 HB4.out.lt HHb.out).trans HB4.out); have HC5 := Lib.hid hc1; clear ho hg1 hc1)
              clear y0
              have hkk := (HC5.out.len)
              by_cases hE1 : E1 = 0
              rotate_left
              · have hG := HG.out
                rw [if_pos hE1] at hG
                have HX := Lib.hid hG.symm
                have e1 : (E1 != 0) = true := by simp [hE1]
                clear hG hE1
                go_wp2_with fail
                go_ret3
                exact goP_err HX.out HL5.out.on HL5.out.gr
              subst hE1
              have hG := HG.out
              rw [if_neg (fun h => h rfl)] at hG
              obtain ⟨hv4, hLok⟩ := HBok.out rfl
              have HLok := Lib.hid hLok
              have HKk := Lib.hid hkk
              clear hkk
              obtain ⟨f0, f1, f2⟩ := HL5.out.gr.cells
              obtain ⟨x0, x1, x2, x3, x4, x5, x6⟩ := HB5.out.cells
              dsimp only at x0 x1 x2 x3 x4 x5 x6
              have w9 : IntKind.i64.wrap (d1 + 1) = d1 + 1 := i64_in _ (by omega)
              obtain ⟨dm, hdm⟩ : ∃ d, d = max dd (d1 + 1) := ⟨_, rfl⟩
              have hmax : 0 ≤ dm ∧ dm ≤ (n : Int) + 1 := by omega
              have hdi : (if dd < d1 + 1 then d1 + 1 else dd) = dm := by rw [hdm]; split <;> omega
              rw [← hdm] at hG
              clear hdm
              have hsc := HL5.out.bsx.cells.2
              rcases Bool.eq_false_or_eq_true pl with hpl | hpl
              · subst hpl
                rw [if_pos rfl] at hG
                have HX := Lib.hid hG
                clear hG HG
                go_wp2_with fail
                exact ⟨⟨j + 1, Ao, ko, co, out, cs, dm, v1, by simp, by omega, rfl, rfl, hmax, ⟨bv0, hv4⟩, HOut.out, HL5.out, HX.out⟩, by simp [intOf]; omega⟩
              subst hpl
              rw [if_neg (by decide)] at hG
              have CMv := Lib.hid (moved_any pg px py pa pb pc pd A' k' c' L1 w5 HC5.out.ctl (by have := HLok.out.1; have := HKk.out; omega) (fun q hq => by have := HLok.out.2 q (by have := HKk.out; omega); omega))
              obtain ⟨PT, hPT⟩ : ∃ P : C.Prt, P = (pg, px, py, pa, pb, pc, pd) := ⟨_, rfl⟩
              rw [← hPT] at CMv hG
              have hap := app_ok HOut.out HLok.out PT
              obtain ⟨M, hM2⟩ : ∃ M, M = movL PT L1 := ⟨_, rfl⟩
              obtain ⟨E2, hE2e⟩ : ∃ E, E = movE PT L1 := ⟨_, rfl⟩
              have CMv2 := Lib.hid (CMv.out.mono (R' := fun e w' => ∃ A6 k6 c6 cs6, e = .returned (.tuple #[.slice A6 k6 c6, .int .i64 E2]) ∧ Below w5.heap.size w5 w' ∧ w'.ownsRow w5.heap.size 47 1 (.slice A6 k6 c6) k6 cs6 ∧ Fo w' k6 (ct M) cs6 ∧ M.length = k6) fun e w' ⟨A6, k6, c6, h1, h2, cs6, h3, h4, h5⟩ => ⟨A6, k6, c6, cs6, by rw [h1, hE2e], h2, h3, by rw [hM2]; exact h4, by rw [hM2]; exact h5⟩)
              rw [← hM2] at hap hG
              rw [← hE2e] at hG
              clear CMv hM2 hE2e hPT
              by_cases hE2 : E2 = 0
              rotate_left
              · rw [if_pos hE2] at hG
                have HX := Lib.hid hG.symm
                have e2' : (E2 != 0) = true := by simp [hE2]
                clear hG HG hE2
                go_wp2_with (go_at_call 36; (with_reducible refine CMv2.out.mono ?_); rintro e w6 ⟨A6, k6, c6, cs6, rfl, hb6, _, _, _⟩; have HL6 := Lib.hid (HL5.out.bel hb6); clear hb6)
                go_ret3
                exact goP_err HX.out HL6.out.on HL6.out.gr
              subst hE2
              rw [if_neg (fun h => h rfl)] at hG
              have HG3 := Lib.hid hG
              have HAp := Lib.hid hap
              clear hG HG hap
              go_upto_region 29 with (go_at_call 36; (with_reducible refine CMv2.out.mono ?_); rintro e w6 ⟨A6, k6, c6, cs6, rfl, hb6, ho6, hf6, hl6⟩; have HL6 := Lib.hid (HL5.out.bel hb6); have H6 := Lib.hid (And.intro (own_base ho6 (HL5.out.on.size)) (And.intro hf6 hl6)); have HB6s := Lib.hid hb6; clear hb6 ho6 hf6)
              have hk6 : k6 ≤ 512 := by have := HAp.out.1; rw [List.length_append] at this; omega
              have hko : ko ≤ 512 := by have := HAp.out.1; have := HL6.out.ol; rw [List.length_append] at *; omega
              have hl6' := HL6.out.ol
              have HLen := Lib.hid (show (out ++ M).length = ko + k6 from by rw [List.length_append, hl6', hl6])
              have hA2 : Below w6.heap.size w6 (w6.alloc (.cells #[] 47)) := (Below.refl _ _).alloc (Nat.le_refl _) _
              have HA2 := Lib.hid hA2
              have HOl := Lib.hid (show (w6.alloc (.cells #[] 47)).ownsRow w6.heap.size 47 1 (.slice (some ⟨w6.heap.size, 0, none⟩) 0 0) 0 [] from World.ownsRow_lit w6 #[] 0 (Nat.le_refl _) (by unfold maxLen; omega) rfl)
              have HS2 := Lib.hid ((own_src HL6.out.own).bel hA2)
              have HS6 := Lib.hid (own_src H6.out.1)
              clear hl6 hl6' hA2
              go_upto_region 30 with (first
                | (at_builtin; (refine wpList_append_src _ rfl (.tmp 109) (.tmp 110) 25 rfl w6.heap.size 47 i27 _ 1 24 Try.underlying25 H27.out.1 H27.out.2.1 H27.out.2.2.1 H27.out.2.2.2 rfl (by decide) (.slice (some ⟨w6.heap.size, 0, none⟩) 0 0) 0 [] rfl HOl.out Ao ko co cs rfl (by rw [HL6.out.fo.len]; omega) HS2.out HL6.out.fo.one (by unfold maxLen; omega) (by omega) (by simp) ?_); intro v' w7 hown' hg'; simp only [Nat.zero_add, List.nil_append] at hown'; obtain ⟨A7', c7', rfl⟩ := own_form hown'; have HB7 := Lib.hid (below_grown HA2.out HOl.out hg'); have HO7 := Lib.hid hown'; have HS7 := Lib.hid (HS6.out.bel HB7.out); clear hown' hg')
                | (at_builtin; go_must (refine wpList_append_src _ rfl (.tmp 111) (.tmp 112) 25 rfl w6.heap.size 47 i27 _ 1 24 Try.underlying25 H27.out.1 H27.out.2.1 H27.out.2.2.1 H27.out.2.2.2 rfl (by decide) (.slice A7' ko c7') ko cs rfl HO7.out A6 k6 c6 cs6 rfl (by rw [H6.out.2.1.len]; omega) HS7.out H6.out.2.1.one (by unfold maxLen; omega) (by omega) HB7.out.size ?_); intro v' w8 hown' hg'; obtain ⟨A8', c8', rfl⟩ := own_form hown'; have HB8 := Lib.hid (below_grown HB7.out HO7.out hg'); have HO8 := Lib.hid hown'; clear hown' hg'))
              have HL8 := Lib.hid (HL6.out.put HB8.out HO8.out ((HL6.out.fo.next HB8.out).app HL6.out.ol (H6.out.2.1.next HB8.out)) HLen.out)
              obtain ⟨k8, hk8⟩ : ∃ k, k = ko + k6 := ⟨_, rfl⟩
              rw [← hk8] at HL8 HLen ⊢
              have HLe := Lib.hid HLen.out
              have hk8b : k8 ≤ 1024 := by omega
              clear hk8
              have hG := HG3.out
              by_cases c7a : 256 < k8
              · rw [if_pos (.inl (by rw [HLe.out]; exact c7a))] at hG
                have HX := Lib.hid hG.symm
                have e7 : decide (256 < (k8 : Int)) = true := decide_eq_true (by omega)
                clear hG
                go_wp2_with fail
                go_ret3
                exact goP_err HX.out HL8.out.on HL8.out.gr
              have e7 : decide (256 < (k8 : Int)) = false := decide_eq_false (by omega)
              have htt : tots (out ++ M) = tot (out ++ M) k8 := by unfold tots; rw [HLe.out]
              have CPt := Lib.hid (points_any A8' k8 c8' (out ++ M) w8 (CtlN.own HL8.out.own HL8.out.fo HL8.out.ol HL8.out.gr).ctl (by omega) (fun q hq => by have := HAp.out.2 q (by rw [HLe.out]; exact hq); omega))
              rw [← htt] at CPt
              have HOO := Lib.hid (show tots (out ++ M) ≤ 4096 → OutOk (out ++ M) from tots_ok (by rw [HLe.out]; omega))
              obtain ⟨T, hT⟩ : ∃ T, T = tots (out ++ M) := ⟨_, rfl⟩
              rw [← hT] at CPt hG HOO
              clear htt hT
              by_cases c7b : 4096 < T
              · rw [if_pos (.inr c7b)] at hG
                have HX := Lib.hid hG.symm
                have e8 : decide (4096 < (T : Int)) = true := decide_eq_true (by omega)
                clear hG
                go_wp2_with (go_at_call 37; (with_reducible refine CPt.out.mono ?_); rintro e w9 ⟨rfl, hb9⟩; have HL9 := Lib.hid (HL8.out.bel hb9); clear hb9)
                go_ret3
                exact goP_err HX.out HL9.out.on HL9.out.gr
              · rw [if_neg (fun h => h.elim (fun h => c7a (by rw [HLe.out] at h; exact h)) c7b)] at hG
                have HX := Lib.hid hG
                have HO2 := Lib.hid (HOO.out (by omega))
                have e8 : decide (4096 < (T : Int)) = false := decide_eq_false (by omega)
                clear hG
                go_wp2_with (go_at_call 37; (with_reducible refine CPt.out.mono ?_); rintro e w9 ⟨rfl, hb9⟩; have HL9 := Lib.hid (HL8.out.bel hb9); clear hb9)
                exact ⟨⟨j + 1, A8', k8, c8', out ++ M, cs ++ cs6, dm, v1, by simp, by omega, rfl, rfl, hmax, ⟨bv0, hv4⟩, HO2.out, HL9.out, HX.out⟩, by simp [intOf]; omega⟩
        · obtain rfl : j = n2 := by omega
          have hd : PP.drop j = [] := List.drop_eq_nil_of_le (by rw [HN2.out]; exact Nat.le_refl _)
          rw [hd, goL_nil] at hG
          have HX := Lib.hid hG
          clear hG hd hL hout
          go_wp2_with fail
          go_ret3
          exact ⟨Ao, ko, co, by rw [← HX.out]; rfl, HL.out.on, by rw [← HX.out]; exact HL.out.gr, by rw [← HX.out]; exact CtlN.own HL.out.own HL.out.fo HL.out.ol HL.out.gr⟩
end Go.Proofs.Ytlfnagfcggmeaaa
