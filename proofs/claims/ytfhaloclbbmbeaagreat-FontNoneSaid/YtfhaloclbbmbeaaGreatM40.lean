/- Proved here: what is done at a part of a glyph's outline (the function that outline hands to each). Condition: shapes that may be, and a walk's box · a glyph's outline (outline). Condition: shapes that may be, and a walk's box · which shapes may be (the program's May). Condition: shapes that lie in memory, within limits · what Outline and Depth answer. Condition: shapes that lie in memory, within limits · what the document's Parse of shapes answers. Condition: a text of at most a billion bytes; at most 100000 places. -/
import Derived.Test.YtfhaloclbbmbeaaGreatM39
import Derived.Test.YtfhaloclbbmbeaaGreatM35
import Derived.Test.YtfhaloclbbmbeaaGreatM28
import Derived.Test.YtfhaloclbbmbeaaGreatM31
import Derived.Test.YtfhaloclbbmbeaaGreatM36
import Derived.BigQuiet
namespace Go.Proofs.YtfhaloclbbmbeaaGreat
open Go.RowKit
namespace N15
set_option maxHeartbeats 8000000 in
set_option maxRecDepth 100000 in
theorem clo33_any (SS : List Shp) (hM : MayS SS) (w0 : World) (A : Option Addr) (m c : Nat) (n i : Nat) (inn : List Int) (hin : inn.length + n = 8) (bw xb bd : Nat) (R : GR)
    (IH : ∀ g : Nat, g < m → ∀ v W Ai ki ki', 1 ≤ n → WkS w0 W A m c Ai ki ki' (inn ++ [(i : Int)]) v → Calls Tryz.prog 209 #[.pointer (some ⟨w0.heap.size, 0, none⟩), .int .i64 (g : Int)] W (OuP w0 A m c (inn ++ [(i : Int)]) (Value.slice Ai ki ki').ownBlock (goP SS false n (g : Int) (inn ++ [(i : Int)]) v) W))
    (hpm : ∀ j, j < (sh SS i).2.length → C.okP (C.qp (sh SS i).2 j) 1024 ∧ (C.qp (sh SS i).2 j).1 < (m : Int))
    (j : Nat) (v : Int) (W : World) (Ai : Option Addr) (ki ki' : Nat) (hj : j < (sh SS i).2.length) (he : enE (inn ++ [(i : Int)]) (C.qp (sh SS i).2 j).1 v = 0) (h : WkS w0 W A m c Ai ki ki' (inn ++ [(i : Int)]) (v + 1)) (hI : InO SS n i (inn ++ [(i : Int)]) w0.heap.size bw xb R bd j v W (Value.slice Ai ki ki').ownBlock) (hbW : bd ≤ W.heap.size) :
    Calls Tryz.prog 258 #[pAg (C.qp (sh SS i).2 j), .pointer (some ⟨bw, 0, none⟩), .pointer (some ⟨xb, 0, none⟩)] W (EaP bd w0 A m c (inn ++ [(i : Int)]) (Value.slice Ai ki ki').ownBlock (fun v' W' ob' => InO SS n i (inn ++ [(i : Int)]) w0.heap.size bw xb R bd (j + 1) v' W' ob') (fun E => R.1 = E) W) := by
  obtain ⟨Ao, ko, co, out, cs, bs, d, hD, hpt, hok, hv, hxb, hwb, hG⟩ := hI
  obtain ⟨hokp, pg1⟩ := hpm j hj
  have hen := enE_zero he
  have hn8 : n ≤ 8 := by omega
  rw [List.length_append] at hen
  have hn1 : 1 ≤ n := by have := hen.2.1; simp at this; omega
  rw [drop_qp _ j hj] at hG
  obtain ⟨p, hp⟩ : ∃ p, p = C.qp (sh SS i).2 j := ⟨_, rfl⟩
  rw [← hp] at he hG hokp pg1 ⊢
  obtain ⟨pg, px, py, pa, pb, pc, pd⟩ := p
  have pg0 : 0 ≤ pg := hokp.1.1
  dsimp only at he pg1
  obtain ⟨g, rfl⟩ : ∃ g : Nat, pg = (g : Int) := ⟨pg.toNat, by omega⟩
  have h1 := goL_out1 hG hv he rfl
  have hbn := goP_bnd hM false n (g : Int) (inn ++ [(i : Int)]) (v + 1) (by have := h.vb.1; omega) (by have := h.vb.2; omega)
  have hps := goP_pts hM n (g : Int) (inn ++ [(i : Int)]) (v + 1)
  have CI := Lib.hid (fun W Ai ki ki' h => IH g (by omega) (v + 1) W Ai ki ki' hn1 h)
  obtain ⟨S, hS⟩ : ∃ S, S = goP SS false n (g : Int) (inn ++ [(i : Int)]) (v + 1) := ⟨_, rfl⟩
  dsimp only at h1
  rw [← hS] at h1 hbn hps CI
  obtain ⟨E, SL, d1, v1⟩ := S
  dsimp only at h1 hps
  obtain ⟨_, hbn⟩ := hbn
  dsimp only at hbn
  have hB1 : Below W.heap.size W (W.alloc (.cells #[.int .i64 (g : Int), .int .i64 px, .int .i64 py, .int .i64 pa, .int .i64 pb, .int .i64 pc, .int .i64 pd] 265)) := (Below.refl _ _).alloc (Nat.le_refl _) _
  have HBp := Lib.hid (C.Bp.new W (g : Int) px py pa pb pc pd)
  have HW1 := Lib.hid (h.next hB1)
  have HD1 := Lib.hid (hD.bel hB1)
  have HLt := Lib.hid (fun k (hk : k < ko) => (hD.dc.lt hk).2)
  have HB1 := Lib.hid hB1
  have HH := Lib.hid h1
  have HBn := Lib.hid hbn
  have HPs := Lib.hid hps
  have HOk := Lib.hid (And.intro hok hpt)
  have HLn := Lib.hid hD.ln
  have HOkp := Lib.hid hokp
  have HBd := Lib.hid hbW
  have HBs := Lib.hid (And.intro hxb hwb)
  unfold pAg
  dsimp only
  clear h hpm IH hen hp hS hG hB1 hxb hwb hv h1 he hin hj hD hbn hps hok hpt hokp hbW
  go_enter Tryz.func258, Tryz.ntmps258
  go_upto_region 1 with fail
  obtain ⟨W1, hW1⟩ : ∃ W1, W1 = W.alloc (.cells #[.int .i64 (g : Int), .int .i64 px, .int .i64 py, .int .i64 pa, .int .i64 pb, .int .i64 pc, .int .i64 pd] 265) := ⟨_, rfl⟩
  obtain ⟨nb, hnb⟩ : ∃ b, b = W.heap.size := ⟨_, rfl⟩
  have HLt1 := Lib.hid (show ∀ k, k < ko → bs k < W1.heap.size from fun k hk => Nat.lt_of_lt_of_le (HLt.out k hk) (by rw [hW1]; exact HB1.out.size))
  rw [← hnb] at HBp ⊢
  rw [← hW1] at HBp HW1 HD1 HB1 ⊢
  obtain ⟨y0, y1, y2⟩ := HD1.out.cells
  have z0 := HBp.out.cells.1
  dsimp only at z0
  have CI := Lib.hid (CI.out W1 Ai ki ki' HW1.out)
  have hb1 := Lib.hid (show bd ≤ W1.heap.size from Nat.le_trans HBd.out HB1.out.size)
  clear hW1 hnb HLt
  by_cases hE : E = 0
  rotate_left
  · have HX := Lib.hid (HH.out.1 hE)
    have e1 : (E != 0) = true := by simp [hE]
    go_upto_region 2 with (go_at_call 209; (with_reducible refine CI.out.mono ?_); rintro e w2 ⟨A2, k2, k2', rfl, hf, hy, hn⟩; have HF2 := Lib.hid hf; clear hf hy hn)
    clear y0 y1 y2 z0
    go_wp2_with fail
    go_ret
    exact ⟨E, rfl, (Frm.of HBd.out HB1.out).trans (Nx.refl _ _) (HF2.out.le hb1.out), fun h => absurd h hE, fun _ => HX.out⟩
  subst hE
  have HX := Lib.hid (HH.out.2 rfl)
  have HBn2 := Lib.hid (HBn.out rfl)
  have HPs2 := Lib.hid (HPs.out rfl)
  clear HBn HPs
  go_upto_region 2 with (go_at_call 209; (with_reducible refine CI.out.mono ?_); rintro e w2 ⟨A2, k2, k2', rfl, hf, hy, hn⟩; obtain ⟨⟨cs2, bs2, hd2⟩, hl2, Ai2, ki2, ki2', hw, hx⟩ := hy rfl; have HF2 := Lib.hid hf; have HW2 := Lib.hid hw; have HX2 := Lib.hid hx; have HD2 := Lib.hid hd2; have HL2 := Lib.hid hl2; clear hf hy hn hw hx hd2 hl2)
  clear y0 y1 y2 z0 CI
  try dsimp only at HD2
  try dsimp only at HL2
  try dsimp only at HW2
  have HO2 := Lib.hid (HD1.out.frm HW1.out HF2.out)
  have HBp2 := Lib.hid (show C.Bp w2 nb ((g : Int), px, py, pa, pb, pc, pd) from (HF2.out.block nb HBp.out.lt (fun e => by have h1 := HW1.out.box; rw [← e, HBp.out] at h1; injection h1 with h1; injection h1 with _ h1; exact absurd h1 (by decide)) (own_not HW1.out.row HBp.out (by decide))).trans HBp.out)
  obtain ⟨hv4, hok2⟩ := HBn2.out
  have hk2 : k2 ≤ 256 := by rw [← HL2.out]; exact hok2.1
  have CM := Lib.hid (mvAll_any (g : Int) px py pa pb pc pd W1.heap.size A2 k2 k2' SL cs2 bs2 w2 HD2.out HL2.out (by omega) (fun i hi => by have := hok2.2 i (by rw [HL2.out]; exact hi); omega) HOkp.out HPs2.out)
  obtain ⟨x0, x1, x2, x3, x4, x5, x6⟩ := HBp2.out.cells
  dsimp only at x0 x1 x2 x3 x4 x5 x6
  obtain ⟨p, hp⟩ : ∃ p : C.Prt, p = ((g : Int), px, py, pa, pb, pc, pd) := ⟨_, rfl⟩
  rw [← hp] at CM HX
  have hok3 : movE p SL = 0 → (movL p SL).length = k2 ∧ ∀ i, i < k2 → (ct (movL p SL) i).length ≤ 4096 := fun h0 => by
    unfold movE at h0
    by_cases hc : okMvC p SL
    · refine ⟨by unfold movL; rw [if_pos hc, List.length_map]; exact HL2.out, fun i hi => ?_⟩
      rw [mvC_all p SL hc k2 HL2.out i hi, mvC, if_pos hi, List.length_map]
      exact hok2.2 i (by rw [HL2.out]; exact hi)
    · rw [if_neg hc] at h0; exact absurd h0 (by decide)
  have hpt3 : OkPt (movL p SL) := OkPt.mov p SL
  have HK3 := Lib.hid hok3
  obtain ⟨M, hM⟩ : ∃ M, M = movL p SL := ⟨_, rfl⟩
  obtain ⟨E2, hE2⟩ : ∃ E, E = movE p SL := ⟨_, rfl⟩
  rw [← hM, ← hE2] at CM HX HK3
  rw [← hM] at hpt3
  have HPt3 := Lib.hid hpt3
  clear hp hM hE2 hok3 hok2 hpt3
  by_cases h2 : E2 = 0
  rotate_left
  · have HX2' := Lib.hid (HX.out.1 h2)
    have e1 : (E2 != 0) = true := by simp [h2]
    go_wp2_with (go_at_call 259; (with_reducible refine CM.out.mono ?_); rintro e w3 ⟨rfl, hf, _⟩; have HF3 := Lib.hid hf; clear hf)
    go_ret
    have hf3 : Frm bd w0.heap.size (Value.slice Ai ki ki').ownBlock w2 w3 := ⟨HF3.out.os, HF3.out.tape, HF3.out.output, HF3.out.size, fun g hg _ _ => HF3.out.block g (Nat.lt_of_lt_of_le hg (Nat.le_trans hb1.out HF2.out.size)) (.inl (Nat.lt_of_lt_of_le hg hb1.out))⟩
    exact ⟨E2, rfl, ((Frm.of HBd.out HB1.out).trans (Nx.refl _ _) (HF2.out.le hb1.out)).trans (Nx.refl _ _) hf3, fun h => absurd h h2, fun _ => HX2'.out⟩
  subst h2
  have HX3 := Lib.hid (HX.out.2 rfl)
  obtain ⟨hl3, hn3⟩ := HK3.out rfl
  have HL3 := Lib.hid (And.intro hl3 hn3)
  obtain ⟨i0, hi0, hz0, hz1, hz2⟩ := info_parts Tryz.info76
  have H47 := Lib.hid (And.intro hi0 (And.intro hz0 (And.intro hz1 hz2)))
  have hko : ko ≤ 256 := by rw [← HLn.out]; exact HOk.out.1.1
  clear hi0 hz0 hz1 hz2 hl3 hn3
  go_upto_region 7 with (go_at_call 259; (with_reducible refine CM.out.mono ?_); rintro e w3 ⟨rfl, hf, hd⟩; have HF3 := Lib.hid hf; have HD3 := Lib.hid (hd rfl); clear hf hd)
  clear x0 x1 x2 x3 x4 x5 x6 CM
  have HO3 := Lib.hid (show ObS w3 w0.heap.size bw xb bd Ao ko co out cs bs from HD1.out.keep fun g cs T fr h2 h3 => (HF3.out.block g (Nat.lt_of_lt_of_le (heap_lt h2) HF2.out.size) (.inl (heap_lt h2))).trans (HF2.out.block g (heap_lt h2) (HW1.out.ty4 h2 h3).1 (HW1.out.ty4 h2 h3).2))
  have HW3 := Lib.hid (HW2.out.f46 (Nat.le_of_lt HW1.out.lt) HF3.out)
  have hb2 := Lib.hid (show bd ≤ w2.heap.size from Nat.le_trans hb1.out HF2.out.size)
  have hb3 := Lib.hid (show bd ≤ w3.heap.size from Nat.le_trans hb2.out HF3.out.size)
  have HFr := Lib.hid (show Frm bd w0.heap.size (Value.slice Ai ki ki').ownBlock W w3 from ((Frm.of HBd.out HB1.out).trans (Nx.refl _ _) (HF2.out.le hb1.out)).trans (Nx.refl _ _) ⟨HF3.out.os, HF3.out.tape, HF3.out.output, HF3.out.size, fun g hg _ _ => HF3.out.block g (Nat.lt_of_lt_of_le hg hb2.out) (.inl (Nat.lt_of_lt_of_le hg hb1.out))⟩)
  obtain ⟨_, y1, y2⟩ := HO3.out.cells
  have HS3 := Lib.hid (own_src HD3.out.own)
  have HG := Lib.hid (show ∀ w4, w3.grownBy w4 (Value.slice Ao ko co).ownBlock → w4.cell? ⟨xb, 0, none⟩ = some (.slice Ao ko co) ∧ w4.frozen? ⟨xb, 0, none⟩ = false ∧ w4.heap[xb]? = some (.cells #[.slice Ao ko co] 49 (0, 0)) from fun w4 hg => by
    have hx := (hg.block xb (heap_lt HO3.out.hx) (own_not HO3.out.dc.own HO3.out.hx (by decide))).trans HO3.out.hx
    exact ⟨cell_of_row w4 xb 0 _ 49 (0, 0) hx, by simp [World.frozen?, hx], hx⟩)
  go_upto_region 8 with (at_builtin; go_must (refine wpList_append_src _ rfl (.tmp 24) (.tmp 25) 49 rfl bd 76 i0 _ 1 24 Tryz.underlying49 H47.out.1 H47.out.2.1 H47.out.2.2.1 H47.out.2.2.2 rfl (by decide) (.slice Ao ko co) ko cs rfl HO3.out.dc.own A2 k2 k2' cs2 rfl (by rw [HD3.out.len]; omega) HS3.out HD3.out.fo.one (by unfold maxLen; omega) (by omega) hb3.out ?_); intro v' w4 hown' hg'; obtain ⟨A5, c5, rfl⟩ := own_form hown'; have HO4 := Lib.hid hown'; have HG4 := Lib.hid hg'; obtain ⟨z0, z1, z2⟩ := HG.out w4 hg'; have HZ := Lib.hid z2; clear hown' hg' z2)
  have HO5 := Lib.hid (HO3.out.app HD3.out HL3.out.1 hb1.out HLt1.out HO4.out HG4.out)
  have HW5 := Lib.hid (show WkS w0 (w4.setCell ⟨xb, 0, none⟩ (.slice A5 (ko + k2) c5)) A m c Ai2 ki2 ki2' (inn ++ [(i : Int)]) v1 from (HW3.out.grown HO3.out.dc.own (Nat.le_of_lt HBs.out.2) HG4.out).far HZ.out (Nat.lt_of_lt_of_le HBs.out.2 HBs.out.1))
  have HFr5 := Lib.hid (show Frm bd w0.heap.size (Value.slice Ai ki ki').ownBlock W (w4.setCell ⟨xb, 0, none⟩ (.slice A5 (ko + k2) c5)) from
    (HFr.out.trans (Nx.refl _ _) ⟨HG4.out.os, HG4.out.tape, HG4.out.output, HG4.out.size, fun g hg _ _ => HG4.out.block g (Nat.lt_of_lt_of_le hg hb3.out) (fun e => by have := (HO3.out.dc.own.lt g e.symm).1; omega)⟩).trans (Nx.refl _ _) (Frm.far (Nat.le_trans hb3.out HG4.out.size) (Onl.set xb _ _ _) HBs.out.1))
  have hb5 := Lib.hid (show bd ≤ (w4.setCell ⟨xb, 0, none⟩ (.slice A5 (ko + k2) c5)).heap.size from Nat.le_trans (Nat.le_trans hb3.out HG4.out.size) (Onl.set xb w4 0 _).size)
  obtain ⟨w5, hw5⟩ : ∃ W, W = w4.setCell ⟨xb, 0, none⟩ (.slice A5 (ko + k2) c5) := ⟨_, rfl⟩
  rw [← hw5] at HO5 HW5 HFr5 hb5 ⊢
  have CR := Lib.hid (room_any A5 (ko + k2) c5 (out ++ M) w5 (HO5.out.dc.ctl HO5.out.ln) (by omega) (fun i hi => by
    rw [ct_app, HLn.out]
    by_cases hc : i < ko
    · rw [if_pos hc]; have := HOk.out.1.2 i (by rw [HLn.out]; exact hc); omega
    · rw [if_neg hc]; have := HL3.out.2 (i - ko) (by omega); omega))
  clear y1 y2 z0 z1 hw5
  obtain ⟨_, y1, _⟩ := HO5.out.cells
  obtain ⟨E3, hE3⟩ : ∃ E, E = roE (out ++ M) := ⟨_, rfl⟩
  rw [← hE3] at CR HX3
  clear hE3
  go_wp2_with (go_at_call 260; (with_reducible refine CR.out.mono ?_); rintro e w6 ⟨rfl, hb⟩; have HB6 := Lib.hid hb; clear hb)
  go_ret
  refine ⟨E3, rfl, HFr5.out.trans (Nx.refl _ _) (Frm.of hb5.out HB6.out), fun h => ?_, fun h => HX3.out.1 h⟩
  obtain ⟨q1, q2⟩ := HX3.out.2 h
  exact ⟨Ai2, ki2, ki2', v1, HW5.out.next HB6.out, HX2.out.le hb1.out, A5, ko + k2, c5, out ++ M, _, _, _, HO5.out.bel HB6.out, HOk.out.2.app HPt3.out, q1, HW5.out.vb.2, HBs.out.1, HBs.out.2, q2⟩
end N15
end Go.Proofs.YtfhaloclbbmbeaaGreat
namespace Go.Proofs.YtfhaloclbbmbeaaGreat
open Go.RowKit
namespace N15
set_option maxHeartbeats 8000000 in
set_option maxRecDepth 100000 in
theorem outline_one (SS : List Shp) (hM : MayS SS) (w0 : World) (A : Option Addr) (m c : Nat) (hS : Shl w0 A m SS) (n i : Nat) (inn : List Int) (v : Int) (W : World) (Ai : Option Addr) (ki ki' : Nat) (hi : i < m) (hin : inn.length + n = 8) (h : WkS w0 W A m c Ai ki ki' inn v)
    (IH : ∀ g : Nat, g < m → ∀ v W Ai ki ki', 1 ≤ n → WkS w0 W A m c Ai ki ki' (inn ++ [(i : Int)]) v → Calls Tryz.prog 209 #[.pointer (some ⟨w0.heap.size, 0, none⟩), .int .i64 (g : Int)] W (OuP w0 A m c (inn ++ [(i : Int)]) (Value.slice Ai ki ki').ownBlock (goP SS false n (g : Int) (inn ++ [(i : Int)]) v) W)) :
    Calls Tryz.prog 209 #[.pointer (some ⟨w0.heap.size, 0, none⟩), .int .i64 (i : Int)] W (OuP w0 A m c inn (Value.slice Ai ki ki').ownBlock (goP SS false (n + 1) (i : Int) inn v) W) := by
  have hlen := hS.len
  have hok := hM.2 i (by omega)
  have hm4 := hM.1.2
  have hpm : ∀ j, j < (sh SS i).2.length → C.okP (C.qp (sh SS i).2 j) 1024 ∧ (C.qp (sh SS i).2 j).1 < (m : Int) := fun j hj => by
    have h2 := hok.2.2 (by omega)
    have h3 := h2.2.2 j hj
    rw [hlen] at h3
    exact ⟨⟨⟨h3.1.1, by have := h3.1.2; omega⟩, h3.2⟩, h3.1.2⟩
  have hpl : (sh SS i).2.length ≤ 1000 := by
    by_cases h0 : 0 < (sh SS i).2.length
    · have h2 := (hok.2.2 h0).2.1
      omega
    · omega
  have hR := goP_all hM false n i inn v (by omega)
  obtain ⟨R, hRR⟩ : ∃ R, R = goP SS false (n + 1) (i : Int) inn v := ⟨_, rfl⟩
  rw [← hRR] at hR ⊢
  have hcm := hok.2.1
  have hB1 : Below W.heap.size W (W.alloc (.cells #[.pointer (some ⟨w0.heap.size, 0, none⟩)] 337)) := (Below.refl _ _).alloc (Nat.le_refl _) _
  have hwlt := h.lt
  obtain ⟨ad, B, cB, B', cB', hA, d0, _, hC, _⟩ := hS.at_ (h.next hB1).bel hi
  have CP := Lib.hid (copied_any B (sh SS i).1.length cB (sh SS i).1 _ hC (by have := hcm.1; omega) (fun k hk => ⟨(hcm.2 k hk).1.1, by have := (may_ok hcm).2 k hk; omega⟩))
  have HS1 := Lib.hid (h.next hB1)
  have hbx : (W.alloc (.cells #[.pointer (some ⟨w0.heap.size, 0, none⟩)] 337)).heap[W.heap.size]? = some (.cells #[.pointer (some ⟨w0.heap.size, 0, none⟩)] 337 (0, 0)) := heap_alloc_new W _
  have HBx := Lib.hid hbx
  have HB1 := Lib.hid hB1
  have CE := Lib.hid (fun W2 bw xb Ao co cs bs (hd : ObS W2 w0.heap.size bw xb W.heap.size Ao (sh SS i).1.length co (sh SS i).1 cs bs) (hw : WkS w0 W2 A m c Ai ki ki' inn v) (hxb : W.heap.size ≤ xb) (hs : W.heap.size ≤ W2.heap.size) =>
    each33_any (.pointer (some ⟨bw, 0, none⟩)) (.pointer (some ⟨xb, 0, none⟩)) W.heap.size w0 SS A m c hS i hi hpl inn (by omega) (InO SS n i (inn ++ [(i : Int)]) w0.heap.size bw xb R W.heap.size) (fun E => R.1 = E)
      (fun j v W W' ob' Ai ki ki' now v' hI hw hf hx => by
        obtain ⟨Ao, ko, co, out, cs, bs, d, hD, hrest⟩ := hI
        exact ⟨Ao, ko, co, out, cs, bs, d, hD.frm hw hf, hrest⟩)
      (fun j v W Ai ki ki' hj he hw hI => clo33_any SS hM w0 A m c n i inn hin bw xb _ R IH hpm j v W Ai ki ki' hj he hw hI (by
        obtain ⟨Ao, ko, co, out, cs, bs, d, hD, _, _, _, hxb, _⟩ := hI
        have := heap_lt hD.hx
        omega))
      (fun j v W ob hj hI he => by
        obtain ⟨Ao, ko, co, out, cs, bs, d, hD, _, _, hv, hxb, hwb, hG⟩ := hI
        rw [drop_qp _ j hj] at hG
        exact (goL_en hG hv).1 he)
      Ai ki ki' v W2 hs hw ⟨Ao, _, co, (sh SS i).1, cs, bs, 0, hd, OkPt.may hcm, may_ok hcm, hw.vb.2, hxb, hwlt, by rw [List.drop_zero]; exact hR.symm⟩)
  obtain ⟨n1, hn1⟩ : ∃ n, n = (sh SS i).1.length := ⟨_, rfl⟩
  rw [← hn1] at d0 CP CE
  have HN1 := Lib.hid hn1
  subst hA
  clear h IH hpm hpl hlen hok hR hRR hcm hC hn1
  go_enter Tryz.func209, Tryz.ntmps209
  go_upto_region 1 with fail
  obtain ⟨bw, hbw⟩ : ∃ b, b = W.heap.size := ⟨_, rfl⟩
  obtain ⟨W1, hW1⟩ : ∃ W1, W1 = W.alloc (.cells #[.pointer (some ⟨w0.heap.size, 0, none⟩)] 337) := ⟨_, rfl⟩
  rw [← hW1] at HS1 HB1 HBx CP d0 ⊢
  rw [← hbw] at HBx ⊢
  have y0 : W1.cell? ⟨bw, 0, none⟩ = some (.pointer (some ⟨w0.heap.size, 0, none⟩)) := cell_of_row W1 bw 0 _ 337 (0, 0) HBx.out
  obtain ⟨y1, _, _⟩ := HS1.out.cells
  have HBw := Lib.hid hbw
  clear hW1 hbx hB1 hbw
  go_upto_region 2 with (go_at_call 256; (with_reducible refine CP.out.mono ?_); rintro e w2 ⟨A2, c2, cs2, bs2, rfl, hd, hb⟩; have HD2 := Lib.hid hd; have HB2 := Lib.hid hb; clear hd hb)
  have hA3 : Below w2.heap.size w2 (w2.alloc (.cells #[.slice A2 n1 c2] 49)) := (Below.refl _ _).alloc (Nat.le_refl _) _
  have hx3 : (w2.alloc (.cells #[.slice A2 n1 c2] 49)).heap[w2.heap.size]? = some (.cells #[.slice A2 n1 c2] 49 (0, 0)) := heap_alloc_new w2 _
  have HW3 := Lib.hid ((HS1.out.next HB2.out).next hA3)
  have HB3 := Lib.hid (show Below W.heap.size W (w2.alloc (.cells #[.slice A2 n1 c2] 49)) from (HB1.out.trans (HB2.out.mono HB1.out.size)).trans (hA3.mono (Nat.le_trans HB1.out.size HB2.out.size)))
  have HO3 := Lib.hid (show ObS (w2.alloc (.cells #[.slice A2 n1 c2] 49)) w0.heap.size bw w2.heap.size W.heap.size A2 n1 c2 (sh SS i).1 cs2 bs2 from
    ⟨(hA3.block bw (Nat.lt_of_lt_of_le (heap_lt HBx.out) HB2.out.size)).trans ((HB2.out.block bw (heap_lt HBx.out)).trans HBx.out), hx3, (HD2.out.rebase HB1.out.size).bel hA3, HN1.out.symm⟩)
  have hxb := Nat.le_trans HB1.out.size HB2.out.size
  have CE := Lib.hid (CE.out (w2.alloc (.cells #[.slice A2 n1 c2] 49)) bw w2.heap.size A2 c2 cs2 bs2 HO3.out HW3.out hxb HB3.out.size)
  clear y0 y1 d0 hA3 hx3 hxb
  obtain ⟨xb, hxb⟩ : ∃ b, b = w2.heap.size := ⟨_, rfl⟩
  obtain ⟨W3, hW3⟩ : ∃ W, W = w2.alloc (.cells #[.slice A2 n1 c2] 49) := ⟨_, rfl⟩
  rw [← hW3] at HW3 HB3 HO3 CE ⊢
  rw [← hxb] at HO3 CE ⊢
  obtain ⟨y0, y1, _⟩ := HO3.out.cells
  clear hW3 hxb
  go_upto_region 3 with (go_at_call 257; (with_reducible refine CE.out.mono ?_); rintro e w4 ⟨E, rfl, hf, hy, hn⟩; have HF4 := Lib.hid hf; have HY := Lib.hid hy; have HN := Lib.hid hn; clear hf hy hn)
  clear y0 y1 CE HO3
  have HF := Lib.hid (show Frm W.heap.size w0.heap.size (Value.slice Ai ki ki').ownBlock W w4 from (Frm.of (Nat.le_refl _) HB3.out).trans (Nx.refl _ _) HF4.out)
  by_cases hE : E = 0
  · subst hE
    obtain ⟨A5, k5, k5', v5, hw5, hx5, Ao, ko, co, out, cs, bs, d, hD, _, _, _, _, _, hG⟩ := HY.out rfl
    have hRf : R = (0, out, d, v5) := by
      rw [List.drop_of_length_le (Nat.le_refl _), goL_nil] at hG
      exact hG.symm
    obtain ⟨_, y1, _⟩ := hD.cells
    have HW5 := Lib.hid hw5
    have HX5 := Lib.hid hx5
    have HD5 := Lib.hid hD
    subst hRf
    clear hw5 hx5 hD hG HY HN
    go_wp2_with fail
    go_ret2
    exact ⟨Ao, ko, co, rfl, HF.out, fun _ => ⟨⟨cs, bs, HD5.out.dc⟩, HD5.out.ln, A5, k5, k5', HW5.out, HX5.out⟩, fun h => absurd rfl h⟩
  · have hX := HN.out hE
    have e1 : (E != 0) = true := by simp [hE]
    have HX := Lib.hid hX
    clear hX
    go_wp2_with fail
    go_ret2
    exact ⟨none, 0, 0, by rw [HX.out]; rfl, HF.out, fun h => absurd (HX.out.symm.trans h) hE, fun _ => ⟨rfl, rfl, rfl⟩⟩
theorem outline_rec (SS : List Shp) (hM : MayS SS) (w0 : World) (A : Option Addr) (m c : Nat) (hS : Shl w0 A m SS) : ∀ (n i : Nat) (inn : List Int) (v : Int) (W : World) (Ai : Option Addr) (ki ki' : Nat), i < m → inn.length + n = 8 → WkS w0 W A m c Ai ki ki' inn v →
    Calls Tryz.prog 209 #[.pointer (some ⟨w0.heap.size, 0, none⟩), .int .i64 (i : Int)] W (OuP w0 A m c inn (Value.slice Ai ki ki').ownBlock (goP SS false (n + 1) (i : Int) inn v) W) := by
  intro n
  induction n with
  | zero => exact fun i inn v W Ai ki ki' hi hin h => outline_one SS hM w0 A m c hS 0 i inn v W Ai ki ki' hi hin h (fun g hg v W Ai ki ki' h0 => absurd h0 (by omega))
  | succ n ih => exact fun i inn v W Ai ki ki' hi hin h => outline_one SS hM w0 A m c hS (n + 1) i inn v W Ai ki ki' hi hin h (fun g hg v W Ai ki ki' _ hw => ih g (inn ++ [(i : Int)]) v W Ai ki ki' hg (by rw [List.length_append]; simp; omega) hw)
end N15
end Go.Proofs.YtfhaloclbbmbeaaGreat
namespace Go.Proofs.YtfhaloclbbmbeaaGreat
open Go.RowKit
namespace N15
theorem mayG_nil : MayG [] := ⟨by simp, fun i hi => absurd hi (by simp)⟩
set_option maxHeartbeats 4000000 in
set_option maxRecDepth 100000 in
theorem mayShape_any (B B' : Option Addr) (c c' : Nat) (CC : List (List Pt)) (PP : List C.Prt) (m : Int) (w : World) (hC : Ctl w B CC.length CC) (hP : C.Prl w B' PP.length PP)
    (l1 : CC.length ≤ 1000) (l2 : ∀ j, j < CC.length → (ct CC j).length ≤ 5000) (l3 : PP.length ≤ 1000) :
    Calls Tryz.prog 94 #[.agg #[.slice B CC.length c, .slice B' PP.length c'], .int .i64 m] w fun e w' => e = .returned (.bool (decide (okSh (CC, PP) m))) ∧ Below w.heap.size w w' := by
  have HA := Lib.hid (show Below w.heap.size w (w.alloc (.cells #[.slice B CC.length c, .slice B' PP.length c'] 73)) from (Below.refl _ _).alloc (Nat.le_refl _) _)
  have HBx := Lib.hid (Bs.new w B CC.length c B' PP.length c')
  have CM := Lib.hid (may_any B CC.length c CC _ (hC.bel HA.out) l1 l2)
  have CP := Lib.hid (C.may_any B' PP.length c' PP m _ (hP.bel HA.out) (by omega))
  have HO := Lib.hid (show okSh (CC, PP) m ↔ ¬ (0 < CC.length ∧ 0 < PP.length) ∧ MayG CC ∧ (0 < PP.length → C.MayL PP m) from Iff.rfl)
  have HZ := Lib.hid (show CC.length = 0 → MayG CC from fun h => by rw [List.length_eq_zero_iff.1 h]; exact mayG_nil)
  obtain ⟨n1, hn1⟩ : ∃ n, n = CC.length := ⟨_, rfl⟩
  obtain ⟨n2, hn2⟩ : ∃ n, n = PP.length := ⟨_, rfl⟩
  rw [← hn1] at HA HBx CM CP HO HZ ⊢
  rw [← hn2] at HA HBx CM CP HO ⊢
  obtain ⟨x0, x1⟩ := HBx.out.cells
  clear hC hP l1 l2 l3 hn1 hn2
  by_cases h2 : n2 = 0
  · subst h2
    have hd : decide (okSh (CC, PP) m) = decide (MayG CC) := decide_eq_decide.2 ⟨fun h => (HO.out.1 h).2.1, fun h => HO.out.2 ⟨fun h2 => absurd h2.2 (by omega), h, fun h2 => absurd h2 (by omega)⟩⟩
    rw [hd]
    clear hd
    go_enter Tryz.func94, Tryz.ntmps94
    go_wp2_with (go_at_call 124; (with_reducible refine CM.out.mono ?_); rintro e w1 ⟨rfl, hb⟩; have HW := Lib.hid (HA.out.trans (hb.mono HA.out.size)); clear hb)
    go_ret
    exact ⟨rfl, HW.out⟩
  · have e2 : ((n2 : Int) == 0) = false := beq_eq_false_iff_ne.2 (by omega)
    by_cases h1 : n1 = 0
    · subst h1
      have hd : decide (okSh (CC, PP) m) = decide (C.MayL PP m) := decide_eq_decide.2 ⟨fun h => (HO.out.1 h).2.2 (by omega), fun h => HO.out.2 ⟨fun h2 => absurd h2.1 (by omega), HZ.out rfl, fun _ => h⟩⟩
      rw [hd]
      clear hd
      go_enter Tryz.func94, Tryz.ntmps94
      go_wp2_with (go_at_call 171; (with_reducible refine CP.out.mono ?_); rintro e w1 ⟨rfl, hb⟩; have HW := Lib.hid (HA.out.trans (hb.mono HA.out.size)); clear hb)
      go_ret
      exact ⟨rfl, HW.out⟩
    · have e1 : ((n1 : Int) == 0) = false := beq_eq_false_iff_ne.2 (by omega)
      rw [decide_eq_false (show ¬ okSh (CC, PP) m from fun h => (HO.out.1 h).1 ⟨by omega, by omega⟩)]
      go_enter Tryz.func94, Tryz.ntmps94
      go_wp2_with fail
      go_ret
      exact ⟨rfl, HA.out⟩
set_option maxHeartbeats 4000000 in
set_option maxRecDepth 100000 in
theorem mayShapes_any (A : Option Addr) (m c : Nat) (SS : List Shp) (w : World) (hP : Shl w A m SS) (hL : LimS SS) (hm : m ≤ 100000) :
    Calls Tryz.prog 44 #[.slice A m c] w fun e w' => e = .returned (.bool (decide (MayS SS))) ∧ Below w.heap.size w w' := by
  have hlen := hP.len
  by_cases h0 : m = 0
  · subst h0
    rw [decide_eq_false (show ¬ MayS SS from fun h => by have := h.1.1; omega)]
    clear hlen hP hL
    go_enter Tryz.func44, Tryz.ntmps44
    go_wp2_with fail
    go_ret
    exact ⟨rfl, Below.refl _ _⟩
  have e0 : ((m : Int) == 0) = false := beq_eq_false_iff_ne.2 (by omega)
  by_cases h64 : 1024 < m
  · rw [decide_eq_false (show ¬ MayS SS from fun h => by have := h.1.2; omega)]
    have e1 : decide (1024 < (m : Int)) = true := decide_eq_true (by omega)
    clear hlen hP hL
    go_enter Tryz.func44, Tryz.ntmps44
    go_wp2_with fail
    go_ret
    exact ⟨rfl, Below.refl _ _⟩
  have e1 : decide (1024 < (m : Int)) = false := decide_eq_false (by omega)
  have HY := Lib.hid (show (∀ i, i < m → okSh (sh SS i) (m : Int)) → decide (MayS SS) = true from fun h => decide_eq_true ⟨by omega, by rw [hlen]; exact h⟩)
  have HN := Lib.hid (show ∀ k, k < m → ¬ okSh (sh SS k) (m : Int) → decide (MayS SS) = false from fun k hk h => decide_eq_false fun h2 => h (by have := h2.2 k (by omega); rw [hlen] at this; exact this))
  have HI := Lib.hid hP
  have HL := Lib.hid (show ∀ i, i < m → _ from by rw [← hlen]; exact hL)
  clear hlen hP hL
  go_enter Tryz.func44, Tryz.ntmps44
  go_wp2_with fail
  go_loopw [15] (fun i wr => ∃ k : Nat, i = .int .i64 (k : Int) ∧ k ≤ m ∧ (∀ i, i < k → okSh (sh SS i) (m : Int)) ∧ Below w.heap.size w wr) (fun i _ => m - (intOf i).toNat)
  case atStart => exact ⟨0, rfl, Nat.zero_le _, fun i hi => by omega, Below.refl _ _⟩
  case round =>
    obtain ⟨k, rfl, hk, hok, hb⟩ := hrel
    have HB := Lib.hid hb
    by_cases hgo : k < m
    · obtain ⟨ad, B, c1, B', c1', rfl, d0, d1, hC, hP⟩ := HI.out.at_ hb hgo
      have HSU := Lib.hid (show okSh (sh SS k) (m : Int) → ∀ i, i < k + 1 → okSh (sh SS i) (m : Int) from all_succ hok)
      have HNK := Lib.hid (HN.out k hgo)
      obtain ⟨l1, l2, l3⟩ := HL.out k hgo
      obtain ⟨s, hs⟩ : ∃ s, s = sh SS k := ⟨_, rfl⟩
      rw [← hs] at d0 d1 hC hP HSU HNK l1 l2 l3
      obtain ⟨CC, PP⟩ := s
      dsimp only at d0 d1 hC hP l1 l2 l3
      have HX := Lib.hid (show Below w.heap.size w (wr.alloc (.cells #[.slice B CC.length c1, .slice B' PP.length c1'] 73)) from hb.alloc hb.size _)
      obtain ⟨x0, x1⟩ := (Bs.new wr B CC.length c1 B' PP.length c1').cells
      have HA := Lib.hid (show Below wr.heap.size wr (wr.alloc (.cells #[.slice B CC.length c1, .slice B' PP.length c1'] 73)) from (Below.refl _ _).alloc (Nat.le_refl _) _)
      have CV := Lib.hid (mayShape_any B B' c1 c1' CC PP (m : Int) _ (hC.bel HA.out) (hP.bel HA.out) l1 l2 l3)
      obtain ⟨n1, hn1⟩ : ∃ n, n = CC.length := ⟨_, rfl⟩
      obtain ⟨n2, hn2⟩ : ∃ n, n = PP.length := ⟨_, rfl⟩
      rw [← hn1] at d0 HX x0 x1 CV
      rw [← hn2] at d1 HX x0 x1 CV
      clear hs hC hP l1 l2 l3 hn1 hn2 hb hok HA
      by_cases hg : okSh (CC, PP) (m : Int)
      · rw [decide_eq_true hg] at CV
        have HK := Lib.hid (HSU.out hg)
        clear hg
        go_wp2_with (go_at_call 94; (with_reducible refine CV.out.mono ?_); rintro e w1 ⟨rfl, hb⟩; have HW := Lib.hid (HX.out.trans (hb.mono HX.out.size)); clear hb)
        exact ⟨⟨k + 1, by simp, by omega, HK.out, HW.out⟩, by simp [intOf]; omega⟩
      · rw [decide_eq_false hg] at CV
        have HK := Lib.hid (HNK.out hg)
        clear hg
        go_wp2_with (go_at_call 94; (with_reducible refine CV.out.mono ?_); rintro e w1 ⟨rfl, hb⟩; have HW := Lib.hid (HX.out.trans (hb.mono HX.out.size)); clear hb)
        go_ret
        exact ⟨by rw [HK.out]; rfl, HW.out⟩
    · obtain rfl : k = m := by omega
      have HX := Lib.hid (HY.out hok)
      clear hb hok
      go_wp2_with fail
      go_ret
      exact ⟨by rw [HX.out]; rfl, HB.out⟩
end N15
end Go.Proofs.YtfhaloclbbmbeaaGreat
namespace Go.Proofs.YtfhaloclbbmbeaaGreat
open Go.RowKit
namespace N15
theorem WkS.start (w : World) (A : Option Addr) (m c : Nat) : WkS w (w.alloc (.cells #[.slice A m c, .slice none 0 0, .int .i64 0] 288)) A m c none 0 0 [] 0 :=
  ⟨(Below.refl _ _).alloc (Nat.le_refl _) _, heap_alloc_new w _, World.ownsRow_nil _ _ _ _, by omega, by omega⟩
set_option maxHeartbeats 4000000 in
set_option maxRecDepth 100000 in
theorem mayAsk_any (A : Option Addr) (m c : Nat) (SS : List Shp) (G : Int) (w : World) (hP : Shl w A m SS) (hL : LimS SS) (hm : m ≤ 100000) :
    Calls Tryz.prog 208 #[.slice A m c, .int .i64 G] w fun e w' => e = .returned (.bool (decide (okG15 SS G))) ∧ Below w.heap.size w w' := by
  have hlen := hP.len
  have CM := Lib.hid (mayShapes_any A m c SS w hP hL hm)
  by_cases h0 : 0 ≤ G
  · by_cases h1 : G < (m : Int)
    · have hd : decide (okG15 SS G) = decide (MayS SS) := decide_eq_decide.2 ⟨fun h => h.1, fun h => ⟨h, h0, by omega⟩⟩
      rw [hd]
      have e0 : decide (0 ≤ G) = true := decide_eq_true h0
      have e1 : decide (G < (m : Int)) = true := decide_eq_true h1
      clear hP hL hd hlen
      go_enter Tryz.func208, Tryz.ntmps208
      go_wp2_with (go_at_call 44; (with_reducible refine CM.out.mono ?_); rintro e w1 ⟨rfl, hb⟩; have HB := Lib.hid hb; clear hb)
      go_ret
      exact ⟨rfl, HB.out⟩
    · rw [decide_eq_false (show ¬ okG15 SS G from fun h => h1 (by have := h.2.2; omega))]
      have e0 : decide (0 ≤ G) = true := decide_eq_true h0
      have e1 : decide (G < (m : Int)) = false := decide_eq_false h1
      clear hP hL hlen
      go_enter Tryz.func208, Tryz.ntmps208
      go_wp2_with fail
      go_ret
      exact ⟨rfl, Below.refl _ _⟩
  · rw [decide_eq_false (show ¬ okG15 SS G from fun h => h0 h.2.1)]
    have e0 : decide (0 ≤ G) = false := decide_eq_false h0
    clear hP hL hlen
    go_enter Tryz.func208, Tryz.ntmps208
    go_wp2_with fail
    go_ret
    exact ⟨rfl, Below.refl _ _⟩
end N15
end Go.Proofs.YtfhaloclbbmbeaaGreat
namespace Go.Proofs.YtfhaloclbbmbeaaGreat
open Go.RowKit
theorem Tryz.info26z : (Tryz.prog.info? 73).map (fun i => (i.zero, i.size, i.bytes)) = some (some (.agg #[.slice none 0 0, .slice none 0 0]), 2, 48) := by kernel_rfl
section
open N15 in
variable {w w0 w2 : World} {v : Value} {k : Nat} {SS : List Shp} {cs : List Value}
end
end Go.Proofs.YtfhaloclbbmbeaaGreat
