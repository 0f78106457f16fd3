/- Proved here: how deep the parts of a glyph stand in one another (depth). Condition: shapes that may be, and a walk's box · what each answers, a glyph's parts being gone to one by one (with function 33). Condition: what is done at each part, told by a contract · what a glyph's outline is while its parts are gone to (the function that outline hands to each). Condition: shapes that may be, and a walk's box. -/
import Derived.Test.YtfhaloclbbmbeaaGreatM38
namespace Go.Proofs.YtfhaloclbbmbeaaGreat
open Go.RowKit
theorem enE_zero {now : List Int} {g v : Int} (h : enE now g v = 0) : ¬ g ∈ now ∧ now.length ≤ 8 ∧ v ≠ 4096 := by
  unfold enE at h
  by_cases c1 : g ∈ now
  · rw [if_pos c1] at h; exact absurd h (by decide)
  rw [if_neg c1] at h
  by_cases c2 : 8 < now.length
  · rw [if_pos c2] at h; exact absurd h (by decide)
  rw [if_neg c2] at h
  by_cases c3 : v = 4096
  · rw [if_pos c3] at h; exact absurd h (by decide)
  exact ⟨c1, by omega, c3⟩
namespace N15
section
variable {W W' : World} {wb bw db bd : Nat} {ob ob' : Option Nat} {d : Int}
theorem Frm.far {b : Nat} (hb : bd ≤ W.heap.size) (h : Onl b W W') (hbb : bd ≤ b) : Frm bd wb ob W W' := ⟨h.os, h.tape, h.output, h.size, fun g hg _ _ => h.block g (Nat.lt_of_lt_of_le hg hb) (by omega)⟩
theorem WkS.onl {w0 : World} {A : Option Addr} {m c : Nat} {Ai : Option Addr} {ki ki' : Nat} {now : List Int} {v : Int} (h : WkS w0 W A m c Ai ki ki' now v) {b : Nat} (ho : Onl b W W') (hb : w0.heap.size < b) (hn : some b ≠ (Value.slice Ai ki ki').ownBlock) : WkS w0 W' A m c Ai ki ki' now v := by
  refine ⟨⟨ho.os.trans h.bel.os, ho.tape.trans h.bel.tape, ho.output.trans h.bel.output, Nat.le_trans h.bel.size ho.size, fun g hg => (ho.block g (Nat.lt_of_lt_of_le hg h.bel.size) (by omega)).trans (h.bel.block g hg)⟩, (ho.block _ (heap_lt h.box) (by omega)).trans h.box, ⟨h.row.1, ?_⟩, h.vb⟩
  rcases h.row.2 with h0 | ⟨j, cap, cur, hv, hj, hh, rest⟩
  · exact .inl h0
  · exact .inr ⟨j, cap, cur, hv, hj, (ho.block j (heap_lt hh) (fun e => hn (by rw [hv, ← e]; rfl))).trans hh, rest⟩
end
theorem drop_qp (PP : List C.Prt) (j : Nat) (h : j < PP.length) : PP.drop j = C.qp PP j :: PP.drop (j + 1) := by
  rw [List.drop_eq_getElem_cons h]
  congr 1
  simp [C.qp, h]
end N15
end Go.Proofs.YtfhaloclbbmbeaaGreat
namespace Go.Proofs.YtfhaloclbbmbeaaGreat
open Go.RowKit
namespace N15
set_option maxHeartbeats 8000000 in
set_option maxRecDepth 100000 in
theorem each33_any (va vb : Value) (bd : Nat) (w0 : World) (SS : List Shp) (A : Option Addr) (m c : Nat) (hS : Shl w0 A m SS) (i : Nat) (hi : i < m) (hpl : (sh SS i).2.length ≤ 1000) (inn : List Int) (hin : inn.length ≤ 900)
    (Inv : Nat → Int → World → Option Nat → Prop) (Bad : Int → Prop)
    (hst : ∀ j v W W' ob', ∀ Ai ki ki' now v', Inv j v W (Value.slice Ai ki ki').ownBlock → WkS w0 W A m c Ai ki ki' now v' → Frm W.heap.size w0.heap.size (Value.slice Ai ki ki').ownBlock W W' → Nx W.heap.size (Value.slice Ai ki ki').ownBlock ob' → Inv j v W' ob')
    (hV : ∀ j v W Ai ki ki', j < (sh SS i).2.length → enE (inn ++ [(i : Int)]) (C.qp (sh SS i).2 j).1 v = 0 → WkS w0 W A m c Ai ki ki' (inn ++ [(i : Int)]) (v + 1) → Inv j v W (Value.slice Ai ki ki').ownBlock →
      Calls Tryz.prog 258 #[pAg (C.qp (sh SS i).2 j), va, vb] W (EaP bd w0 A m c (inn ++ [(i : Int)]) (Value.slice Ai ki ki').ownBlock (fun v' W' ob' => Inv (j + 1) v' W' ob') Bad W))
    (hE : ∀ j v W ob, j < (sh SS i).2.length → Inv j v W ob → enE (inn ++ [(i : Int)]) (C.qp (sh SS i).2 j).1 v ≠ 0 → Bad (enE (inn ++ [(i : Int)]) (C.qp (sh SS i).2 j).1 v))
    (Ai : Option Addr) (ki ki' : Nat) (v : Int) (W : World) (hbd : bd ≤ W.heap.size) (h : WkS w0 W A m c Ai ki ki' inn v) (hI : Inv 0 v W (Value.slice Ai ki ki').ownBlock) :
    Calls Tryz.prog 257 #[.pointer (some ⟨w0.heap.size, 0, none⟩), .int .i64 (i : Int), .func (.func 258) #[] #[va, vb]] W (EaP bd w0 A m c inn (Value.slice Ai ki ki').ownBlock (Inv (sh SS i).2.length) Bad W) := by
  have hlen := h.len
  have hki : ki ≤ 900 := by omega
  obtain ⟨PP, hPP⟩ : ∃ PP, PP = (sh SS i).2 := ⟨_, rfl⟩
  rw [← hPP] at hpl hV hE ⊢
  obtain ⟨n2, hn2⟩ : ∃ n, n = PP.length := ⟨_, rfl⟩
  rw [← hn2] at hpl hV hE ⊢
  have HPP := Lib.hid (And.intro hPP hn2)
  have HBD := Lib.hid hbd
  have HST := Lib.hid hst
  have HV := Lib.hid hV
  have HE := Lib.hid hE
  have HW := Lib.hid h
  have HI := Lib.hid hI
  have HS := Lib.hid hS
  obtain ⟨i0, hi0, hz0, hz1, hz2⟩ := info_parts Tryz.info3
  have H3 := Lib.hid (And.intro hi0 (And.intro hz0 (And.intro hz1 hz2)))
  obtain ⟨now, hnow⟩ : ∃ l, l = inn ++ [(i : Int)] := ⟨_, rfl⟩
  rw [← hnow] at HV HE
  have HNow := Lib.hid hnow
  have hA1 : Below W.heap.size W (W.alloc (.cells #[.int .i64 (i : Int)] 3)) := (Below.refl _ _).alloc (Nat.le_refl _) _
  have HA1 := Lib.hid hA1
  have HW1 := Lib.hid (h.next hA1)
  obtain ⟨c0, c1, c2⟩ := (h.next hA1).cells
  obtain ⟨d0, d1, d2⟩ := h.cells
  have f1 := h.fr 1
  have HLT := Lib.hid h.lt
  obtain ⟨wb, hwb⟩ : ∃ b, b = w0.heap.size := ⟨_, rfl⟩
  have HWB := Lib.hid hwb
  have HC := Lib.hid (show ∀ W' Ai ki ki' now v, WkS w0 W' A m c Ai ki ki' now v → (W'.cell? ⟨wb, 0, none⟩ = some (.slice A m c) ∧ W'.cell? ⟨wb, 1, none⟩ = some (.slice Ai ki ki')) ∧ W'.frozen? ⟨wb, 1, none⟩ = false from fun W' Ai ki ki' now v h => by
    rw [hwb]; exact ⟨⟨h.cells.1, h.cells.2.1⟩, h.fr 1⟩)
  have HG := Lib.hid (show ∀ W2, (W.alloc (.cells #[.int .i64 (i : Int)] 3)).grownBy W2 (Value.slice Ai ki ki').ownBlock → W2.frozen? ⟨wb, 1, none⟩ = false ∧ W2.cell? ⟨wb, 1, none⟩ = some (.slice Ai ki ki') from fun W2 hg => by
    have hx := (hg.block _ (heap_lt HW1.out.box) (fun e => by have := (HW1.out.ob _ e.symm).1; omega)).trans HW1.out.box
    rw [hwb]
    exact ⟨by simp [World.frozen?, hx], cell_of_row W2 _ 1 _ 288 (0, 0) hx⟩)
  rw [← hwb] at c0 c1 c2 d0 d1 d2 f1 ⊢
  clear hbd h hI hst hV hE hS hi0 hz0 hz1 hz2 hlen hnow hwb hA1 hPP hn2
  go_enter Tryz.func257, Tryz.ntmps257
  go_upto_region 2 with (at_builtin; go_must (refine wpList_append_own_at _ rfl (.tmp 15) (.tmp 17) 40 rfl (w0.heap.size + 1) 3 i0 _ 1 8 Tryz.underlying40 H3.out.1 H3.out.2.1 H3.out.2.2.1 H3.out.2.2.2 rfl (by decide) (.slice Ai ki ki') ki (ci .i64 inn) rfl HW1.out.row ⟨W.heap.size, 0, none⟩ 1 1 [.int .i64 (i : Int)] rfl rfl (cells_new _ _ _) (by intro u hu; simp at hu; subst hu; rfl) (by unfold maxLen; omega) (by omega) HW1.out.lt ?_); intro v' w2 hown' hg' _ hob'; obtain ⟨A2, k2, rfl⟩ := own_form hown'; have HO2 := Lib.hid hown'; have HG2 := Lib.hid hg'; have HOB := Lib.hid hob'; obtain ⟨g1, g2⟩ := HG.out w2 hg'; clear hown' hg' hob')
  have HW3 := Lib.hid (show WkS w0 (w2.setCell ⟨wb, 1, none⟩ (.slice A2 (ki + 1) k2)) A m c A2 (ki + 1) k2 now v from by rw [HNow.out, HWB.out]; exact HW1.out.push HG2.out HO2.out)
  have HX3 := Lib.hid (show Nx W.heap.size (Value.slice Ai ki ki').ownBlock (Value.slice A2 (ki + 1) k2).ownBlock from fun g hg => by
    rcases HOB.out with e | e
    · rw [e] at hg; exact .inl hg
    · rw [e] at hg; injection hg with hg; exact .inr (by rw [← hg]; exact HA1.out.size))
  have HF3 := Lib.hid (show Frm W.heap.size w0.heap.size (Value.slice Ai ki ki').ownBlock W (w2.setCell ⟨wb, 1, none⟩ (.slice A2 (ki + 1) k2)) from
    ((Frm.of (Nat.le_refl _) HA1.out).trans (Nx.refl _ _) (Frm.grown HA1.out.size HG2.out)).trans (Nx.refl _ _) (Frm.onl (Nat.le_trans HA1.out.size HG2.out.size) (by rw [HWB.out]; exact Onl.set _ _ _ _)))
  obtain ⟨W3, hW3⟩ : ∃ W, W = w2.setCell ⟨wb, 1, none⟩ (.slice A2 (ki + 1) k2) := ⟨_, rfl⟩
  rw [← hW3] at HW3 HF3 ⊢
  have HI3 := Lib.hid (HST.out 0 v W W3 _ Ai ki ki' inn v HI.out HW.out HF3.out HX3.out)
  clear c0 c1 c2 d0 d1 d2 f1 g1 g2 hW3 HO2 HG2 HOB HG HW1 HA1 HI
  obtain ⟨⟨c0, c1⟩, f1⟩ := HC.out W3 _ _ _ _ _ HW3.out
  obtain ⟨ad, B, cB, B', cB', rfl, hlt, _, s1, _, hPr⟩ := HS.out.get i hi
  have s2 : W3.cell? { block := (ad.add (i * 2)).block, off := (ad.add (i * 2)).off + 1 } = some (.slice B' n2 cB') := by rw [add_next, HW3.out.bel.cell (by rw [block_of_add]; exact hlt), HPP.out.2, HPP.out.1]; exact s1
  rw [← HPP.out.1, ← HPP.out.2] at hPr
  have HPr := Lib.hid hPr
  have HFin := Lib.hid (show ∀ E W', Frm bd w0.heap.size (Value.slice A2 (ki + 1) k2).ownBlock W3 W' → E ≠ 0 → Bad E → EaP bd w0 (some ad) m c inn (Value.slice Ai ki ki').ownBlock (Inv n2) Bad W (.returned (.int .i64 E)) W' from
    fun E W' hf h0 hB => ⟨E, rfl, (HF3.out.le HBD.out).trans (HX3.out.le HBD.out) hf, fun h => absurd h h0, fun _ => hB⟩)
  clear hPr s1 hlt
  go_wp2_with fail
  go_loopw [30] (fun vj wr => ∃ (j : Nat) (v : Int) (Aj : Option Addr) (kj kj' : Nat), vj = .int .i64 (j : Int) ∧ j ≤ n2 ∧ WkS w0 wr (some ad) m c Aj kj kj' now v ∧ Frm bd w0.heap.size (Value.slice A2 (ki + 1) k2).ownBlock W3 wr ∧ Nx bd (Value.slice A2 (ki + 1) k2).ownBlock (Value.slice Aj kj kj').ownBlock ∧ Inv j v wr (Value.slice Aj kj kj').ownBlock) (fun vj _ => n2 - (intOf vj).toNat)
  case atStart => exact ⟨0, v, A2, ki + 1, k2, rfl, Nat.zero_le _, HW3.out, Frm.refl _ _ _ _, Nx.refl _ _, HI3.out⟩
  case round =>
    obtain ⟨j, vv, Aj, kj, kj', rfl, hj, hWk, hFr, hNx, hInv⟩ := hrel
    have HWk := Lib.hid hWk
    have HFr := Lib.hid hFr
    have HNx := Lib.hid hNx
    have HInv := Lib.hid hInv
    have HBr := Lib.hid (show bd ≤ wr.heap.size from Nat.le_trans HBD.out (Nat.le_trans HF3.out.size hFr.size))
    have hkj := hWk.len
    have hkj9 : kj ≤ 1000 := by rw [HNow.out, List.length_append] at hkj; simp at hkj; omega
    by_cases hgo : j < n2
    · obtain ⟨ad2, rfl, x0, x1, x2, x3, x4, x5, x6⟩ := HPr.out.at_ hWk.bel hgo
      have HVj := Lib.hid (HV.out j vv)
      have HEj := Lib.hid (HE.out j vv)
      obtain ⟨p, hp⟩ : ∃ p, p = C.qp PP j := ⟨_, rfl⟩
      rw [← hp] at x0 x1 x2 x3 x4 x5 x6 HVj HEj
      obtain ⟨pg, px, py, pa, pb, pc, pd⟩ := p
      dsimp only at x0 x1 x2 x3 x4 x5 x6 HVj HEj
      have hB4 : Below wr.heap.size wr (wr.alloc (.cells #[.int .i64 pg, .int .i64 px, .int .i64 py, .int .i64 pa, .int .i64 pb, .int .i64 pc, .int .i64 pd] 265)) := (Below.refl _ _).alloc (Nat.le_refl _) _
      have HBp := Lib.hid (C.Bp.new wr pg px py pa pb pc pd)
      have HW4 := Lib.hid (hWk.next hB4)
      have hnb : wr.heap.size ≠ w0.heap.size := by have := hWk.lt; omega
      have HNb := Lib.hid hnb
      have HB4 := Lib.hid hB4
      clear hp hWk hFr hNx hInv hkj hnb hB4
      go_upto_region 5 with fail
      obtain ⟨W4, hW4⟩ : ∃ W, W = wr.alloc (.cells #[.int .i64 pg, .int .i64 px, .int .i64 py, .int .i64 pa, .int .i64 pb, .int .i64 pc, .int .i64 pd] 265) := ⟨_, rfl⟩
      obtain ⟨nb, hnb⟩ : ∃ b, b = wr.heap.size := ⟨_, rfl⟩
      rw [← hnb] at HBp HNb
      rw [← hW4] at HBp HW4 HB4 ⊢
      rw [← hnb] at HB4 ⊢
      rw [hnb] at HB4
      have HNB := Lib.hid hnb
      clear x0 x1 x2 x3 x4 x5 x6 hW4 hnb
      have y0 := HBp.out.cells.1
      dsimp only at y0
      have CE := Lib.hid (enter_any w0 W4 (some ad) m c Aj kj kj' now vv pg HW4.out hkj9)
      obtain ⟨E, hE⟩ : ∃ E, E = enE now pg vv := ⟨_, rfl⟩
      rw [← hE] at CE HEj HVj
      rw [← HWB.out] at CE
      have HI4 := Lib.hid (HST.out j vv wr W4 _ Aj kj kj' now vv HInv.out HWk.out (Frm.of (Nat.le_refl _) HB4.out) (Nx.refl _ _))
      clear hE
      by_cases h0 : E = 0
      · subst h0
        have HVk := Lib.hid (fun w5 Aj kj kj' => HVj.out w5 Aj kj kj' hgo rfl)
        go_upto_region 8 with (go_at_call 285; (with_reducible refine CE.out.mono ?_); rintro e w5 ⟨rfl, ho, hw⟩; have HO5 := Lib.hid ho; have HW5 := Lib.hid (hw rfl); clear ho hw)
        clear y0
        have HB5 := Lib.hid (show C.Bp w5 nb (pg, px, py, pa, pb, pc, pd) from (HO5.out.block nb (heap_lt HBp.out) (by rw [HWB.out]; exact HNb.out)).trans HBp.out)
        obtain ⟨x0, x1, x2, x3, x4, x5, x6⟩ := HB5.out.cells
        dsimp only at x0 x1 x2 x3 x4 x5 x6
        have HF5 := Lib.hid (show Frm W4.heap.size w0.heap.size (Value.slice Aj kj kj').ownBlock W4 w5 from Frm.onl (Nat.le_refl _) (by rw [← HWB.out]; exact HO5.out))
        have HI5 := Lib.hid (HST.out j vv W4 w5 _ Aj kj kj' now vv HI4.out HW4.out HF5.out (Nx.refl _ _))
        have CV := Lib.hid (HVk.out w5 Aj kj kj' HW5.out HI5.out)
        have HF6 := Lib.hid (HFr.out.trans HNx.out ((Frm.of HBr.out HB4.out).trans (Nx.refl _ _) (HF5.out.le (Nat.le_trans HBr.out HB4.out.size))))
        unfold pAg at CV
        dsimp only at CV
        go_upto_region 9 with (go_at_call 258; (with_reducible refine CV.out.mono ?_); rintro e w6 ⟨E2, rfl, hf, hy, hn⟩; have HR6 := Lib.hid (HF6.out.trans HNx.out hf); have HY := Lib.hid hy; have HN := Lib.hid hn; have HF7 := Lib.hid hf; clear hf hy hn)
        by_cases h2 : E2 = 0
        · subst h2
          obtain ⟨A7, k7, k7', v7, hw7, hx7, hi7⟩ := HY.out rfl
          have HW7 := Lib.hid hw7
          have HI7 := Lib.hid hi7
          have HX7 := Lib.hid hx7
          clear hw7 hx7 hi7
          go_wp2_with fail
          exact ⟨⟨j + 1, v7, A7, k7, k7', by simp, by omega, HW7.out, HR6.out, HNx.out.trans HX7.out, HI7.out⟩, by simp [intOf]; omega⟩
        · have HX := Lib.hid (HN.out h2)
          have e1 : (E2 != 0) = true := by simp [h2]
          go_wp2_with fail
          go_ret
          exact HFin.out E2 w6 HR6.out h2 HX.out
      · have HX := Lib.hid (HEj.out wr _ hgo HInv.out h0)
        have e1 : (E != 0) = true := by simp [h0]
        go_wp2_with (go_at_call 285; (with_reducible refine CE.out.mono ?_); rintro e w5 ⟨rfl, ho, _⟩; have HO5 := Lib.hid ho; clear ho)
        go_ret
        exact HFin.out E w5 (HFr.out.trans HNx.out ((Frm.of HBr.out HB4.out).trans (Nx.refl _ _) (Frm.onl (Nat.le_trans HBr.out HB4.out.size) (by rw [← HWB.out]; exact HO5.out)))) h0 HX.out
    · obtain rfl : j = n2 := by omega
      have hk7 : kj = ki + 1 := by rw [HNow.out, List.length_append] at hkj; simp at hkj; have := HW.out.len; omega
      subst hk7
      rw [HNow.out] at hWk
      obtain ⟨g, rfl⟩ := own_some hWk.row (by omega)
      have hcap : ki + 1 ≤ kj' := by
        rcases hWk.row.2 with ⟨h1, _⟩ | ⟨j2, cap, cur, h1, _, _, h4, _⟩
        · cases h1
        · injection h1 with _ _ e3; omega
      obtain ⟨⟨c0, c1⟩, f1⟩ := HC.out wr _ _ _ _ _ hWk
      have HW8 := Lib.hid hWk.pop
      rw [← HWB.out] at HW8
      clear hWk hFr hNx hInv hkj
      go_upto_region 12 with fail
      go_region
      all_goals
        go_wp2_with fail
        go_ret
        have hd := Below.drew (Below.refl (wr.setCell ⟨wb, 1, none⟩ (.slice (some ⟨g, 0, none⟩) ki kj')).heap.size (wr.setCell ⟨wb, 1, none⟩ (.slice (some ⟨g, 0, none⟩) ki kj')))
        have hf8 : Frm wr.heap.size w0.heap.size (some g) wr (wr.setCell ⟨wb, 1, none⟩ (.slice (some ⟨g, 0, none⟩) ki kj')).drew := (Frm.onl (Nat.le_refl _) (by rw [HWB.out]; exact Onl.set _ _ _ _)).trans (Nx.refl _ _) (Frm.of (by simp [World.setCell]) hd)
        refine ⟨0, rfl, (HF3.out.le HBD.out).trans (HX3.out.le HBD.out) (HFr.out.trans HNx.out (hf8.le HBr.out)), fun _ => ⟨_, ki, kj', vv, HW8.out.next hd, (HX3.out.le HBD.out).trans HNx.out, ?_⟩, fun h => absurd rfl h⟩
        exact HST.out j vv wr _ _ _ _ _ _ _ HInv.out HWk.out hf8 (Nx.refl _ _)
end N15
end Go.Proofs.YtfhaloclbbmbeaaGreat
namespace Go.Proofs.YtfhaloclbbmbeaaGreat
open Go.RowKit
namespace N15
def OuP (w0 : World) (A : Option Addr) (m c : Nat) (inn : List Int) (ob : Option Nat) (R : GR) (W : World) (e : Ending) (W' : World) : Prop :=
  ∃ A' k' c', e = .returned (.tuple #[.slice A' k' c', .int .i64 R.1]) ∧ Frm W.heap.size w0.heap.size ob W W' ∧
    (R.1 = 0 → (∃ cs bs, Dc W' W.heap.size A' k' c' (ct R.2.1) cs bs) ∧ R.2.1.length = k' ∧ ∃ Ai ki ki', WkS w0 W' A m c Ai ki ki' inn R.2.2.2 ∧ Nx W.heap.size ob (Value.slice Ai ki ki').ownBlock) ∧ (R.1 ≠ 0 → A' = none ∧ k' = 0 ∧ c' = 0)
structure ObS (W : World) (wb bw xb bd : Nat) (Ao : Option Addr) (ko co : Nat) (out : List (List Pt)) (cs : List Value) (bs : Nat → Nat) : Prop where
  hw : W.heap[bw]? = some (.cells #[.pointer (some ⟨wb, 0, none⟩)] 337 (0, 0))
  hx : W.heap[xb]? = some (.cells #[.slice Ao ko co] 49 (0, 0))
  dc : Dc W bd Ao ko co (ct out) cs bs
  ln : out.length = ko
end N15
def Ty4 (T : TypeId) : Prop := T = 337 ∨ T = 49 ∨ T = 75 ∨ T = 76
theorem Ty4.ne {T : TypeId} (h : Ty4 T) : T ≠ 288 ∧ T ≠ 3 ∧ T ≠ 265 := by
  rcases h with rfl | rfl | rfl | rfl <;> exact ⟨by decide, by decide, by decide⟩
namespace N15
section
variable {W W' : World} {wb bw xb bd : Nat} {Ao : Option Addr} {ko co : Nat} {out : List (List Pt)} {cs : List Value} {bs : Nat → Nat}
theorem ObS.keep (h : ObS W wb bw xb bd Ao ko co out cs bs) (ht : ∀ (g : Nat) (cs : Array Value) (T : TypeId) (fr : Nat × Nat), W.heap[g]? = some (.cells cs T fr) → Ty4 T → W'.heap[g]? = W.heap[g]?) : ObS W' wb bw xb bd Ao ko co out cs bs :=
  ⟨(ht bw _ _ _ h.hw (.inl rfl)).trans h.hw, (ht xb _ _ _ h.hx (.inr (.inl rfl))).trans h.hx, h.dc.keep fun g cs' T fr _ h2 h3 => ht g cs' T fr h2 (h3.elim (fun e => .inr (.inr (.inl e))) fun e => .inr (.inr (.inr e))), h.ln⟩
theorem ObS.bel (h : ObS W wb bw xb bd Ao ko co out cs bs) (hb : Below W.heap.size W W') : ObS W' wb bw xb bd Ao ko co out cs bs := h.keep fun g _ _ _ h2 _ => hb.block g (heap_lt h2)
theorem ObS.cells (h : ObS W wb bw xb bd Ao ko co out cs bs) : W.cell? ⟨bw, 0, none⟩ = some (.pointer (some ⟨wb, 0, none⟩)) ∧ W.cell? ⟨xb, 0, none⟩ = some (.slice Ao ko co) ∧ W.frozen? ⟨xb, 0, none⟩ = false :=
  ⟨cell_of_row W bw 0 _ 337 (0, 0) h.hw, cell_of_row W xb 0 _ 49 (0, 0) h.hx, by have := h.hx; simp [World.frozen?, this]⟩
variable {w0 : World} {A : Option Addr} {m c : Nat} {Ai : Option Addr} {ki ki' : Nat} {now : List Int} {v : Int}
theorem WkS.ty4 (h : WkS w0 W A m c Ai ki ki' now v) {g : Nat} {cs : Array Value} {T : TypeId} {fr : Nat × Nat} (hg : W.heap[g]? = some (.cells cs T fr)) (hT : Ty4 T) : g ≠ w0.heap.size ∧ some g ≠ (Value.slice Ai ki ki').ownBlock :=
  ⟨fun e => by
    have h1 := h.box
    rw [← e, hg] at h1
    injection h1 with h1
    injection h1 with _ h1
    exact hT.ne.1 h1, own_not h.row hg hT.ne.2.1⟩
theorem ObS.frm (h : ObS W wb bw xb bd Ao ko co out cs bs) (hw : WkS w0 W A m c Ai ki ki' now v) (f : Frm W.heap.size w0.heap.size (Value.slice Ai ki ki').ownBlock W W') : ObS W' wb bw xb bd Ao ko co out cs bs :=
  h.keep fun g _ _ _ h2 h3 => f.block g (heap_lt h2) (hw.ty4 h2 h3).1 (hw.ty4 h2 h3).2
theorem WkS.keep (h : WkS w0 W A m c Ai ki ki' now v) (ho : W'.os = W.os) (hp : W'.tape = W.tape) (hu : W'.output = W.output) (hs : W.heap.size ≤ W'.heap.size) (hlow : ∀ g : Nat, g < w0.heap.size → W'.heap[g]? = W.heap[g]?)
    (ht : ∀ (g : Nat) (cs : Array Value) (T : TypeId) (fr : Nat × Nat), W.heap[g]? = some (.cells cs T fr) → T = 288 ∨ T = 3 → W'.heap[g]? = W.heap[g]?) : WkS w0 W' A m c Ai ki ki' now v :=
  ⟨⟨ho.trans h.bel.os, hp.trans h.bel.tape, hu.trans h.bel.output, Nat.le_trans h.bel.size hs, fun g hg => (hlow g hg).trans (h.bel.block g hg)⟩, (ht _ _ _ _ h.box (.inl rfl)).trans h.box, own_keep h.row fun g cs fr _ h2 => ht g cs 3 fr h2 (.inr rfl), h.vb⟩
theorem WkS.f46 (h : WkS w0 W A m c Ai ki ki' now v) {base : Nat} (hb : w0.heap.size ≤ base) (f : F46 base W W') : WkS w0 W' A m c Ai ki ki' now v :=
  h.keep f.os f.tape f.output f.size (fun g hg => f.block g (Nat.lt_of_lt_of_le hg h.bel.size) (.inl (by omega))) fun g cs T fr h2 h3 => f.block g (heap_lt h2) (.inr fun c2 f2 e => by
    rw [h2] at e
    injection e with e
    injection e with _ e
    rcases h3 with h3 | h3 <;> · rw [h3] at e; exact absurd e (by decide))
theorem WkS.grown (h : WkS w0 W A m c Ai ki ki' now v) {base n : Nat} {u : Value} {xs : List Value} (ho : W.ownsRow base 76 1 u n xs) (hb : w0.heap.size ≤ base) (hg : W.grownBy W' u.ownBlock) : WkS w0 W' A m c Ai ki ki' now v :=
  h.keep hg.os hg.tape hg.output hg.size (fun g hl => hg.block g (Nat.lt_of_lt_of_le hl h.bel.size) fun e => by have := (ho.lt g e.symm).1; omega) fun g cs T fr h2 h3 => hg.block g (heap_lt h2) (own_not ho h2 (by rcases h3 with rfl | rfl <;> decide))
theorem ObS.app (h : ObS W wb bw xb bd Ao ko co out cs bs) {base2 : Nat} {A2 : Option Addr} {k2 c2 : Nat} {M : List (List Pt)} {cs2 : List Value} {bs2 : Nat → Nat} (h' : Dc W base2 A2 k2 c2 (ct M) cs2 bs2) (hl : M.length = k2) (hbb : bd ≤ base2) (hb : ∀ i, i < ko → bs i < base2) {A' : Option Addr} {c3 : Nat}
    (ho : W'.ownsRow bd 76 1 (.slice A' (ko + k2) c3) (ko + k2) (cs ++ cs2)) (hg : W.grownBy W' (Value.slice Ao ko co).ownBlock) : ObS (W'.setCell ⟨xb, 0, none⟩ (.slice A' (ko + k2) c3)) wb bw xb bd A' (ko + k2) c3 (out ++ M) (cs ++ cs2) (fun i => if i < ko then bs i else bs2 (i - ko)) := by
  have hd := h.dc.app h' hbb hb ho hg
  have hw := (hg.block bw (heap_lt h.hw) (own_not h.dc.own h.hw (by decide))).trans h.hw
  have hx := (hg.block xb (heap_lt h.hx) (own_not h.dc.own h.hx (by decide))).trans h.hx
  have hon := Onl.set xb W' 0 (.slice A' (ko + k2) c3)
  refine ⟨(hon.block bw (heap_lt hw) fun e => ?_).trans hw, by simp [World.setCell, Array.getElem?_modify, hx], (hd.keep fun g cs' T fr _ h2 h3 => hon.block g (heap_lt h2) fun e => ?_).eqv fun i hi => ?_, by rw [List.length_append, h.ln, hl]⟩
  · rw [e, hx] at hw; injection hw with hw; injection hw with _ hw; exact absurd hw (by decide)
  · rw [e, hx] at h2; injection h2 with h2; injection h2 with _ h2; subst h2; rcases h3 with h3 | h3 <;> exact absurd h3 (by decide)
  · rw [ct_app, h.ln]
theorem WkS.far (h : WkS w0 W A m c Ai ki ki' now v) {cs : Array Value} {fr : Nat × Nat} (hx : W.heap[xb]? = some (.cells cs 49 fr)) (hb : w0.heap.size < xb) {j : Nat} {u : Value} : WkS w0 (W.setCell ⟨xb, j, none⟩ u) A m c Ai ki ki' now v :=
  h.onl (Onl.set xb W j u) hb (own_not h.row hx (by decide))
end
def InO (SS : List Shp) (n i : Nat) (now : List Int) (wb bw xb : Nat) (R : GR) (bd : Nat) (j : Nat) (v : Int) (W : World) (_ : Option Nat) : Prop :=
  ∃ Ao ko co out cs bs d, ObS W wb bw xb bd Ao ko co out cs bs ∧ OkPt out ∧ OutOk out ∧ v ≤ 4096 ∧ bd ≤ xb ∧ wb < bd ∧ goL (goP SS false n) false now ((sh SS i).2.drop j) out d v = R
end N15
end Go.Proofs.YtfhaloclbbmbeaaGreat
