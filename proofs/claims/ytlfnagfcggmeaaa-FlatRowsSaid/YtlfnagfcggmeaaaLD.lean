/- Proved here: what a glyph's outline is while its parts are gone to (the function that outline hands to each). Condition: shapes that may be, and a walk's box. · what is done at a part of a glyph's outline (the function that outline hands to each). Condition: shapes that may be, and a walk's box. · a glyph's outline (outline). Condition: shapes that may be, and a walk's box. -/
import Derived.Test.YtlfnagfcggmeaaaLC
import Derived.Test.YtlfnagfcggmeaaaLy
namespace Go.Proofs.Ytlfnagfcggmeaaa
open Go.RowKit

/-- What outline answers. -/
def OuP (w0 : World) (A : Option Addr) (m c : Nat) (inn : List Int) (ob : Option Nat) (R : GR) (W : World) (e : Ending) (W' : World) : Prop :=
  ∃ A' k' c', e = .returned (.tuple #[.slice A' k' c', .int .i64 R.1]) ∧ Frm W.heap.size w0.heap.size ob W W' ∧
    (R.1 = 0 → (∃ cs bs, Dc W' W.heap.size A' k' c' (ct R.2.1) cs bs) ∧ R.2.1.length = k' ∧ ∃ Ai ki ki', WkS w0 W' A m c Ai ki ki' inn R.2.2.2 ∧ Nx W.heap.size ob (Value.slice Ai ki ki').ownBlock) ∧ (R.1 ≠ 0 → A' = none ∧ k' = 0 ∧ c' = 0)
/-- The boxes of a call of outline: the walk's pointer, and the outline so far. -/
structure ObS (W : World) (wb bw xb bd : Nat) (Ao : Option Addr) (ko co : Nat) (out : List (List Pt)) (cs : List Value) (bs : Nat → Nat) : Prop where
  hw : W.heap[bw]? = some (.cells #[.pointer (some ⟨wb, 0, none⟩)] 76 (0, 0))
  hx : W.heap[xb]? = some (.cells #[.slice Ao ko co] 25 (0, 0))
  dc : Dc W bd Ao ko co (ct out) cs bs
  ln : out.length = ko
def Ty4 (T : TypeId) : Prop := T = 76 ∨ T = 25 ∨ T = 46 ∨ T = 47
theorem Ty4.ne {T : TypeId} (h : Ty4 T) : T ≠ 57 ∧ T ≠ 3 ∧ T ≠ 54 := by
  rcases h with rfl | rfl | rfl | rfl <;> exact ⟨by decide, by decide, by decide⟩
section
variable {W W' : World} {wb bw xb bd : Nat} {Ao : Option Addr} {ko co : Nat} {out : List (List Pt)} {cs : List Value} {bs : Nat → Nat}
theorem ObS.keep (h : ObS W wb bw xb bd Ao ko co out cs bs) (ht : ∀ (g : Nat) (cs : Array Value) (T : TypeId) (fr : Nat × Nat), W.heap[g]? = some (.cells cs T fr) → Ty4 T → W'.heap[g]? = W.heap[g]?) : ObS W' wb bw xb bd Ao ko co out cs bs :=
  ⟨(ht bw _ _ _ h.hw (.inl rfl)).trans h.hw, (ht xb _ _ _ h.hx (.inr (.inl rfl))).trans h.hx, h.dc.keep fun g cs' T fr _ h2 h3 => ht g cs' T fr h2 (h3.elim (fun e => .inr (.inr (.inl e))) fun e => .inr (.inr (.inr e))), h.ln⟩
theorem ObS.bel (h : ObS W wb bw xb bd Ao ko co out cs bs) (hb : Below W.heap.size W W') : ObS W' wb bw xb bd Ao ko co out cs bs := h.keep fun g _ _ _ h2 _ => hb.block g (heap_lt h2)
theorem ObS.cells (h : ObS W wb bw xb bd Ao ko co out cs bs) : W.cell? ⟨bw, 0, none⟩ = some (.pointer (some ⟨wb, 0, none⟩)) ∧ W.cell? ⟨xb, 0, none⟩ = some (.slice Ao ko co) ∧ W.frozen? ⟨xb, 0, none⟩ = false :=
  ⟨cell_of_row W bw 0 _ 76 (0, 0) h.hw, cell_of_row W xb 0 _ 25 (0, 0) h.hx, by have := h.hx; simp [World.frozen?, this]⟩
variable {w0 : World} {A : Option Addr} {m c : Nat} {Ai : Option Addr} {ki ki' : Nat} {now : List Int} {v : Int}
/-- Blocks of the four types are neither the walk's box nor its list. -/
theorem WkS.ty4 (h : WkS w0 W A m c Ai ki ki' now v) {g : Nat} {cs : Array Value} {T : TypeId} {fr : Nat × Nat} (hg : W.heap[g]? = some (.cells cs T fr)) (hT : Ty4 T) : g ≠ w0.heap.size ∧ some g ≠ (Value.slice Ai ki ki').ownBlock :=
  ⟨fun e => by
    have h1 := h.box
    rw [← e, hg] at h1
    injection h1 with h1
    injection h1 with _ h1
    exact hT.ne.1 h1, own_not h.row hg hT.ne.2.1⟩
theorem ObS.frm (h : ObS W wb bw xb bd Ao ko co out cs bs) (hw : WkS w0 W A m c Ai ki ki' now v) (f : Frm W.heap.size w0.heap.size (Value.slice Ai ki ki').ownBlock W W') : ObS W' wb bw xb bd Ao ko co out cs bs :=
  h.keep fun g _ _ _ h2 h3 => f.block g (heap_lt h2) (hw.ty4 h2 h3).1 (hw.ty4 h2 h3).2
theorem WkS.keep (h : WkS w0 W A m c Ai ki ki' now v) (ho : W'.os = W.os) (hp : W'.tape = W.tape) (hu : W'.output = W.output) (hs : W.heap.size ≤ W'.heap.size) (hlow : ∀ g : Nat, g < w0.heap.size → W'.heap[g]? = W.heap[g]?)
    (ht : ∀ (g : Nat) (cs : Array Value) (T : TypeId) (fr : Nat × Nat), W.heap[g]? = some (.cells cs T fr) → T = 57 ∨ T = 3 → W'.heap[g]? = W.heap[g]?) : WkS w0 W' A m c Ai ki ki' now v :=
  ⟨⟨ho.trans h.bel.os, hp.trans h.bel.tape, hu.trans h.bel.output, Nat.le_trans h.bel.size hs, fun g hg => (hlow g hg).trans (h.bel.block g hg)⟩, (ht _ _ _ _ h.box (.inl rfl)).trans h.box, own_keep h.row fun g cs fr _ h2 => ht g cs 3 fr h2 (.inr rfl), h.vb⟩
theorem WkS.f46 (h : WkS w0 W A m c Ai ki ki' now v) {base : Nat} (hb : w0.heap.size ≤ base) (f : F46 base W W') : WkS w0 W' A m c Ai ki ki' now v :=
  h.keep f.os f.tape f.output f.size (fun g hg => f.block g (Nat.lt_of_lt_of_le hg h.bel.size) (.inl (by omega))) fun g cs T fr h2 h3 => f.block g (heap_lt h2) (.inr fun c2 f2 e => by
    rw [h2] at e
    injection e with e
    injection e with _ e
    rcases h3 with h3 | h3 <;> · rw [h3] at e; exact absurd e (by decide))
theorem WkS.grown (h : WkS w0 W A m c Ai ki ki' now v) {base n : Nat} {u : Value} {xs : List Value} (ho : W.ownsRow base 47 1 u n xs) (hb : w0.heap.size ≤ base) (hg : W.grownBy W' u.ownBlock) : WkS w0 W' A m c Ai ki ki' now v :=
  h.keep hg.os hg.tape hg.output hg.size (fun g hl => hg.block g (Nat.lt_of_lt_of_le hl h.bel.size) fun e => by have := (ho.lt g e.symm).1; omega) fun g cs T fr h2 h3 => hg.block g (heap_lt h2) (own_not ho h2 (by rcases h3 with rfl | rfl <;> decide))
/-- The outline so far, and what is put behind it. -/
theorem ObS.app (h : ObS W wb bw xb bd Ao ko co out cs bs) {base2 : Nat} {A2 : Option Addr} {k2 c2 : Nat} {M : List (List Pt)} {cs2 : List Value} {bs2 : Nat → Nat} (h' : Dc W base2 A2 k2 c2 (ct M) cs2 bs2) (hl : M.length = k2) (hbb : bd ≤ base2) (hb : ∀ i, i < ko → bs i < base2) {A' : Option Addr} {c3 : Nat}
    (ho : W'.ownsRow bd 47 1 (.slice A' (ko + k2) c3) (ko + k2) (cs ++ cs2)) (hg : W.grownBy W' (Value.slice Ao ko co).ownBlock) : ObS (W'.setCell ⟨xb, 0, none⟩ (.slice A' (ko + k2) c3)) wb bw xb bd A' (ko + k2) c3 (out ++ M) (cs ++ cs2) (fun i => if i < ko then bs i else bs2 (i - ko)) := by
  have hd := h.dc.app h' hbb hb ho hg
  have hw := (hg.block bw (heap_lt h.hw) (own_not h.dc.own h.hw (by decide))).trans h.hw
  have hx := (hg.block xb (heap_lt h.hx) (own_not h.dc.own h.hx (by decide))).trans h.hx
  have hon := Onl.set xb W' 0 (.slice A' (ko + k2) c3)
  refine ⟨(hon.block bw (heap_lt hw) fun e => ?_).trans hw, by simp [World.setCell, Array.getElem?_modify, hx], (hd.keep fun g cs' T fr _ h2 h3 => hon.block g (heap_lt h2) fun e => ?_).eqv fun i hi => ?_, by rw [List.length_append, h.ln, hl]⟩
  · rw [e, hx] at hw; injection hw with hw; injection hw with _ hw; exact absurd hw (by decide)
  · rw [e, hx] at h2; injection h2 with h2; injection h2 with _ h2; subst h2; rcases h3 with h3 | h3 <;> exact absurd h3 (by decide)
  · rw [ct_app, h.ln]
theorem WkS.far (h : WkS w0 W A m c Ai ki ki' now v) {cs : Array Value} {fr : Nat × Nat} (hx : W.heap[xb]? = some (.cells cs 25 fr)) (hb : w0.heap.size < xb) {j : Nat} {u : Value} : WkS w0 (W.setCell ⟨xb, j, none⟩ u) A m c Ai ki ki' now v :=
  h.onl (Onl.set xb W j u) hb (own_not h.row hx (by decide))
end
/-- Between two parts. -/
def InO (SS : List Shp) (n i : Nat) (now : List Int) (wb bw xb : Nat) (R : GR) (bd : Nat) (j : Nat) (v : Int) (W : World) (_ : Option Nat) : Prop :=
  ∃ Ao ko co out cs bs d, ObS W wb bw xb bd Ao ko co out cs bs ∧ OkPt out ∧ OutOk out ∧ v ≤ 4096 ∧ bd ≤ xb ∧ wb < bd ∧ goL (goP SS false n) false now ((sh SS i).2.drop j) out d v = R
end Go.Proofs.Ytlfnagfcggmeaaa
namespace Go.Proofs.Ytlfnagfcggmeaaa
open Go.RowKit

set_option maxHeartbeats 8000000 in
set_option maxRecDepth 100000 in
theorem clo33_any (SS : List Shp) (hM : MayS SS) (w0 : World) (A : Option Addr) (m c : Nat) (n i : Nat) (inn : List Int) (hin : inn.length + n = 8) (bw xb bd : Nat) (R : GR)
    (IH : ∀ g : Nat, g < m → ∀ v W Ai ki ki', 1 ≤ n → WkS w0 W A m c Ai ki ki' (inn ++ [(i : Int)]) v → Calls Try.prog 19 #[.pointer (some ⟨w0.heap.size, 0, none⟩), .int .i64 (g : Int)] W (OuP w0 A m c (inn ++ [(i : Int)]) (Value.slice Ai ki ki').ownBlock (goP SS false n (g : Int) (inn ++ [(i : Int)]) v) W))
    (hpm : ∀ j, j < (sh SS i).2.length → C.okP (C.qp (sh SS i).2 j) 1024 ∧ (C.qp (sh SS i).2 j).1 < (m : Int))
    (j : Nat) (v : Int) (W : World) (Ai : Option Addr) (ki ki' : Nat) (hj : j < (sh SS i).2.length) (he : enE (inn ++ [(i : Int)]) (C.qp (sh SS i).2 j).1 v = 0) (h : WkS w0 W A m c Ai ki ki' (inn ++ [(i : Int)]) (v + 1)) (hI : InO SS n i (inn ++ [(i : Int)]) w0.heap.size bw xb R bd j v W (Value.slice Ai ki ki').ownBlock) (hbW : bd ≤ W.heap.size) :
    Calls Try.prog 33 #[pAg (C.qp (sh SS i).2 j), .pointer (some ⟨bw, 0, none⟩), .pointer (some ⟨xb, 0, none⟩)] W (EaP bd w0 A m c (inn ++ [(i : Int)]) (Value.slice Ai ki ki').ownBlock (fun v' W' ob' => InO SS n i (inn ++ [(i : Int)]) w0.heap.size bw xb R bd (j + 1) v' W' ob') (fun E => R.1 = E) W) := by
  obtain ⟨Ao, ko, co, out, cs, bs, d, hD, hpt, hok, hv, hxb, hwb, hG⟩ := hI
  obtain ⟨hokp, pg1⟩ := hpm j hj
  have hen := enE_zero he
  have hn8 : n ≤ 8 := by omega
  rw [List.length_append] at hen
  have hn1 : 1 ≤ n := by have := hen.2.1; simp at this; omega
  rw [drop_qp _ j hj] at hG
  obtain ⟨p, hp⟩ : ∃ p, p = C.qp (sh SS i).2 j := ⟨_, rfl⟩
  rw [← hp] at he hG hokp pg1 ⊢
  obtain ⟨pg, px, py, pa, pb, pc, pd⟩ := p
  have pg0 : 0 ≤ pg := hokp.1.1
  dsimp only at he pg1
  obtain ⟨g, rfl⟩ : ∃ g : Nat, pg = (g : Int) := ⟨pg.toNat, by omega⟩
  have h1 := goL_out1 hG hv he rfl
  have hbn := goP_bnd hM false n (g : Int) (inn ++ [(i : Int)]) (v + 1) (by have := h.vb.1; omega) (by have := h.vb.2; omega)
  have hps := goP_pts hM n (g : Int) (inn ++ [(i : Int)]) (v + 1)
  have CI := Lib.hid (fun W Ai ki ki' h => IH g (by omega) (v + 1) W Ai ki ki' hn1 h)
  obtain ⟨S, hS⟩ : ∃ S, S = goP SS false n (g : Int) (inn ++ [(i : Int)]) (v + 1) := ⟨_, rfl⟩
  dsimp only at h1
  rw [← hS] at h1 hbn hps CI
  obtain ⟨E, SL, d1, v1⟩ := S
  dsimp only at h1 hps
  obtain ⟨_, hbn⟩ := hbn
  dsimp only at hbn
  have hB1 : Below W.heap.size W (W.alloc (.cells #[.int .i64 (g : Int), .int .i64 px, .int .i64 py, .int .i64 pa, .int .i64 pb, .int .i64 pc, .int .i64 pd] 54)) := (Below.refl _ _).alloc (Nat.le_refl _) _
  have HBp := Lib.hid (C.Bp.new W (g : Int) px py pa pb pc pd)
  have HW1 := Lib.hid (h.next hB1)
  have HD1 := Lib.hid (hD.bel hB1)
  have HLt := Lib.hid (fun k (hk : k < ko) => (hD.dc.lt hk).2)
  have HB1 := Lib.hid hB1
  have HH := Lib.hid h1
  have HBn := Lib.hid hbn
  have HPs := Lib.hid hps
  have HOk := Lib.hid (And.intro hok hpt)
  have HLn := Lib.hid hD.ln
  have HOkp := Lib.hid hokp
  have HBd := Lib.hid hbW
  have HBs := Lib.hid (And.intro hxb hwb)
  unfold pAg
  dsimp only
  clear h hpm IH hen hp hS hG hB1 hxb hwb hv h1 he hin hj hD hbn hps hok hpt hokp hbW
  go_enter Try.func33, Try.ntmps33
  go_upto_region 1 with fail
  obtain ⟨W1, hW1⟩ : ∃ W1, W1 = W.alloc (.cells #[.int .i64 (g : Int), .int .i64 px, .int .i64 py, .int .i64 pa, .int .i64 pb, .int .i64 pc, .int .i64 pd] 54) := ⟨_, rfl⟩
  obtain ⟨nb, hnb⟩ : ∃ b, b = W.heap.size := ⟨_, rfl⟩
  have HLt1 := Lib.hid (show ∀ k, k < ko → bs k < W1.heap.size from fun k hk => Nat.lt_of_lt_of_le (HLt.out k hk) (by rw [hW1]; exact HB1.out.size))
  rw [← hnb] at HBp ⊢
  rw [← hW1] at HBp HW1 HD1 HB1 ⊢
  obtain ⟨y0, y1, y2⟩ := HD1.out.cells
  have z0 := HBp.out.cells.1
  dsimp only at z0
  have CI := Lib.hid (CI.out W1 Ai ki ki' HW1.out)
  have hb1 := Lib.hid (show bd ≤ W1.heap.size from Nat.le_trans HBd.out HB1.out.size)
  clear hW1 hnb HLt
  by_cases hE : E = 0
  rotate_left
  · have HX := Lib.hid (HH.out.1 hE)
    have e1 : (E != 0) = true := by simp [hE]
    go_upto_region 2 with (go_at_call 19; (with_reducible refine CI.out.mono ?_); rintro e w2 ⟨A2, k2, k2', rfl, hf, hy, hn⟩; have HF2 := Lib.hid hf; clear hf hy hn)
    clear y0 y1 y2 z0
    go_wp2_with fail
    go_ret
    exact ⟨E, rfl, (Frm.of HBd.out HB1.out).trans (Nx.refl _ _) (HF2.out.le hb1.out), fun h => absurd h hE, fun _ => HX.out⟩
  subst hE
  have HX := Lib.hid (HH.out.2 rfl)
  have HBn2 := Lib.hid (HBn.out rfl)
  have HPs2 := Lib.hid (HPs.out rfl)
  clear HBn HPs
  go_upto_region 2 with (go_at_call 19; (with_reducible refine CI.out.mono ?_); rintro e w2 ⟨A2, k2, k2', rfl, hf, hy, hn⟩; obtain ⟨⟨cs2, bs2, hd2⟩, hl2, Ai2, ki2, ki2', hw, hx⟩ := hy rfl; have HF2 := Lib.hid hf; have HW2 := Lib.hid hw; have HX2 := Lib.hid hx; have HD2 := Lib.hid hd2; have HL2 := Lib.hid hl2; clear hf hy hn hw hx hd2 hl2)
  clear y0 y1 y2 z0 CI
  try dsimp only at HD2
  try dsimp only at HL2
  try dsimp only at HW2
  have HO2 := Lib.hid (HD1.out.frm HW1.out HF2.out)
  have HBp2 := Lib.hid (show C.Bp w2 nb ((g : Int), px, py, pa, pb, pc, pd) from (HF2.out.block nb HBp.out.lt (fun e => by have h1 := HW1.out.box; rw [← e, HBp.out] at h1; injection h1 with h1; injection h1 with _ h1; exact absurd h1 (by decide)) (own_not HW1.out.row HBp.out (by decide))).trans HBp.out)
  obtain ⟨hv4, hok2⟩ := HBn2.out
  have hk2 : k2 ≤ 256 := by rw [← HL2.out]; exact hok2.1
  have CM := Lib.hid (mvAll_any (g : Int) px py pa pb pc pd W1.heap.size A2 k2 k2' SL cs2 bs2 w2 HD2.out HL2.out (by omega) (fun i hi => by have := hok2.2 i (by rw [HL2.out]; exact hi); omega) HOkp.out HPs2.out)
  obtain ⟨x0, x1, x2, x3, x4, x5, x6⟩ := HBp2.out.cells
  dsimp only at x0 x1 x2 x3 x4 x5 x6
  obtain ⟨p, hp⟩ : ∃ p : C.Prt, p = ((g : Int), px, py, pa, pb, pc, pd) := ⟨_, rfl⟩
  rw [← hp] at CM HX
  have hok3 : movE p SL = 0 → (movL p SL).length = k2 ∧ ∀ i, i < k2 → (ct (movL p SL) i).length ≤ 4096 := fun h0 => by
    unfold movE at h0
    by_cases hc : okMvC p SL
    · refine ⟨by unfold movL; rw [if_pos hc, List.length_map]; exact HL2.out, fun i hi => ?_⟩
      rw [mvC_all p SL hc k2 HL2.out i hi, mvC, if_pos hi, List.length_map]
      exact hok2.2 i (by rw [HL2.out]; exact hi)
    · rw [if_neg hc] at h0; exact absurd h0 (by decide)
  have hpt3 : OkPt (movL p SL) := OkPt.mov p SL
  have HK3 := Lib.hid hok3
  obtain ⟨M, hM⟩ : ∃ M, M = movL p SL := ⟨_, rfl⟩
  obtain ⟨E2, hE2⟩ : ∃ E, E = movE p SL := ⟨_, rfl⟩
  rw [← hM, ← hE2] at CM HX HK3
  rw [← hM] at hpt3
  have HPt3 := Lib.hid hpt3
  clear hp hM hE2 hok3 hok2 hpt3
  by_cases h2 : E2 = 0
  rotate_left
  · have HX2' := Lib.hid (HX.out.1 h2)
    have e1 : (E2 != 0) = true := by simp [h2]
    go_wp2_with (go_at_call 34; (with_reducible refine CM.out.mono ?_); rintro e w3 ⟨rfl, hf, _⟩; have HF3 := Lib.hid hf; clear hf)
    go_ret
    have hf3 : Frm bd w0.heap.size (Value.slice Ai ki ki').ownBlock w2 w3 := ⟨HF3.out.os, HF3.out.tape, HF3.out.output, HF3.out.size, fun g hg _ _ => HF3.out.block g (Nat.lt_of_lt_of_le hg (Nat.le_trans hb1.out HF2.out.size)) (.inl (Nat.lt_of_lt_of_le hg hb1.out))⟩
    exact ⟨E2, rfl, ((Frm.of HBd.out HB1.out).trans (Nx.refl _ _) (HF2.out.le hb1.out)).trans (Nx.refl _ _) hf3, fun h => absurd h h2, fun _ => HX2'.out⟩
  subst h2
  have HX3 := Lib.hid (HX.out.2 rfl)
  obtain ⟨hl3, hn3⟩ := HK3.out rfl
  have HL3 := Lib.hid (And.intro hl3 hn3)
  obtain ⟨i0, hi0, hz0, hz1, hz2⟩ := info_parts Try.info47
  have H47 := Lib.hid (And.intro hi0 (And.intro hz0 (And.intro hz1 hz2)))
  have hko : ko ≤ 256 := by rw [← HLn.out]; exact HOk.out.1.1
  clear hi0 hz0 hz1 hz2 hl3 hn3
  go_upto_region 7 with (go_at_call 34; (with_reducible refine CM.out.mono ?_); rintro e w3 ⟨rfl, hf, hd⟩; have HF3 := Lib.hid hf; have HD3 := Lib.hid (hd rfl); clear hf hd)
  clear x0 x1 x2 x3 x4 x5 x6 CM
  have HO3 := Lib.hid (show ObS w3 w0.heap.size bw xb bd Ao ko co out cs bs from HD1.out.keep fun g cs T fr h2 h3 => (HF3.out.block g (Nat.lt_of_lt_of_le (heap_lt h2) HF2.out.size) (.inl (heap_lt h2))).trans (HF2.out.block g (heap_lt h2) (HW1.out.ty4 h2 h3).1 (HW1.out.ty4 h2 h3).2))
  have HW3 := Lib.hid (HW2.out.f46 (Nat.le_of_lt HW1.out.lt) HF3.out)
  have hb2 := Lib.hid (show bd ≤ w2.heap.size from Nat.le_trans hb1.out HF2.out.size)
  have hb3 := Lib.hid (show bd ≤ w3.heap.size from Nat.le_trans hb2.out HF3.out.size)
  have HFr := Lib.hid (show Frm bd w0.heap.size (Value.slice Ai ki ki').ownBlock W w3 from ((Frm.of HBd.out HB1.out).trans (Nx.refl _ _) (HF2.out.le hb1.out)).trans (Nx.refl _ _) ⟨HF3.out.os, HF3.out.tape, HF3.out.output, HF3.out.size, fun g hg _ _ => HF3.out.block g (Nat.lt_of_lt_of_le hg hb2.out) (.inl (Nat.lt_of_lt_of_le hg hb1.out))⟩)
  obtain ⟨_, y1, y2⟩ := HO3.out.cells
  have HS3 := Lib.hid (own_src HD3.out.own)
  have HG := Lib.hid (show ∀ w4, w3.grownBy w4 (Value.slice Ao ko co).ownBlock → w4.cell? ⟨xb, 0, none⟩ = some (.slice Ao ko co) ∧ w4.frozen? ⟨xb, 0, none⟩ = false ∧ w4.heap[xb]? = some (.cells #[.slice Ao ko co] 25 (0, 0)) from fun w4 hg => by
    have hx := (hg.block xb (heap_lt HO3.out.hx) (own_not HO3.out.dc.own HO3.out.hx (by decide))).trans HO3.out.hx
    exact ⟨cell_of_row w4 xb 0 _ 25 (0, 0) hx, by simp [World.frozen?, hx], hx⟩)
  go_upto_region 8 with (at_builtin; go_must (refine wpList_append_src _ rfl (.tmp 24) (.tmp 25) 25 rfl bd 47 i0 _ 1 24 Try.underlying25 H47.out.1 H47.out.2.1 H47.out.2.2.1 H47.out.2.2.2 rfl (by decide) (.slice Ao ko co) ko cs rfl HO3.out.dc.own A2 k2 k2' cs2 rfl (by rw [HD3.out.len]; omega) HS3.out HD3.out.fo.one (by unfold maxLen; omega) (by omega) hb3.out ?_); intro v' w4 hown' hg'; obtain ⟨A5, c5, rfl⟩ := own_form hown'; have HO4 := Lib.hid hown'; have HG4 := Lib.hid hg'; obtain ⟨z0, z1, z2⟩ := HG.out w4 hg'; have HZ := Lib.hid z2; clear hown' hg' z2)
  have HO5 := Lib.hid (HO3.out.app HD3.out HL3.out.1 hb1.out HLt1.out HO4.out HG4.out)
  have HW5 := Lib.hid (show WkS w0 (w4.setCell ⟨xb, 0, none⟩ (.slice A5 (ko + k2) c5)) A m c Ai2 ki2 ki2' (inn ++ [(i : Int)]) v1 from (HW3.out.grown HO3.out.dc.own (Nat.le_of_lt HBs.out.2) HG4.out).far HZ.out (Nat.lt_of_lt_of_le HBs.out.2 HBs.out.1))
  have HFr5 := Lib.hid (show Frm bd w0.heap.size (Value.slice Ai ki ki').ownBlock W (w4.setCell ⟨xb, 0, none⟩ (.slice A5 (ko + k2) c5)) from
    (HFr.out.trans (Nx.refl _ _) ⟨HG4.out.os, HG4.out.tape, HG4.out.output, HG4.out.size, fun g hg _ _ => HG4.out.block g (Nat.lt_of_lt_of_le hg hb3.out) (fun e => by have := (HO3.out.dc.own.lt g e.symm).1; omega)⟩).trans (Nx.refl _ _) (Frm.far (Nat.le_trans hb3.out HG4.out.size) (Onl.set xb _ _ _) HBs.out.1))
  have hb5 := Lib.hid (show bd ≤ (w4.setCell ⟨xb, 0, none⟩ (.slice A5 (ko + k2) c5)).heap.size from Nat.le_trans (Nat.le_trans hb3.out HG4.out.size) (Onl.set xb w4 0 _).size)
  obtain ⟨w5, hw5⟩ : ∃ W, W = w4.setCell ⟨xb, 0, none⟩ (.slice A5 (ko + k2) c5) := ⟨_, rfl⟩
  rw [← hw5] at HO5 HW5 HFr5 hb5 ⊢
  have CR := Lib.hid (room_any A5 (ko + k2) c5 (out ++ M) w5 (HO5.out.dc.ctl HO5.out.ln) (by omega) (fun i hi => by
    rw [ct_app, HLn.out]
    by_cases hc : i < ko
    · rw [if_pos hc]; have := HOk.out.1.2 i (by rw [HLn.out]; exact hc); omega
    · rw [if_neg hc]; have := HL3.out.2 (i - ko) (by omega); omega))
  clear y1 y2 z0 z1 hw5
  obtain ⟨_, y1, _⟩ := HO5.out.cells
  obtain ⟨E3, hE3⟩ : ∃ E, E = roE (out ++ M) := ⟨_, rfl⟩
  rw [← hE3] at CR HX3
  clear hE3
  go_wp2_with (go_at_call 35; (with_reducible refine CR.out.mono ?_); rintro e w6 ⟨rfl, hb⟩; have HB6 := Lib.hid hb; clear hb)
  go_ret
  refine ⟨E3, rfl, HFr5.out.trans (Nx.refl _ _) (Frm.of hb5.out HB6.out), fun h => ?_, fun h => HX3.out.1 h⟩
  obtain ⟨q1, q2⟩ := HX3.out.2 h
  exact ⟨Ai2, ki2, ki2', v1, HW5.out.next HB6.out, HX2.out.le hb1.out, A5, ko + k2, c5, out ++ M, _, _, _, HO5.out.bel HB6.out, HOk.out.2.app HPt3.out, q1, HW5.out.vb.2, HBs.out.1, HBs.out.2, q2⟩
end Go.Proofs.Ytlfnagfcggmeaaa
namespace Go.Proofs.Ytlfnagfcggmeaaa
open Go.RowKit

set_option maxHeartbeats 8000000 in
set_option maxRecDepth 100000 in
theorem outline_one (SS : List Shp) (hM : MayS SS) (w0 : World) (A : Option Addr) (m c : Nat) (hS : Shl w0 A m SS) (n i : Nat) (inn : List Int) (v : Int) (W : World) (Ai : Option Addr) (ki ki' : Nat) (hi : i < m) (hin : inn.length + n = 8) (h : WkS w0 W A m c Ai ki ki' inn v)
    (IH : ∀ g : Nat, g < m → ∀ v W Ai ki ki', 1 ≤ n → WkS w0 W A m c Ai ki ki' (inn ++ [(i : Int)]) v → Calls Try.prog 19 #[.pointer (some ⟨w0.heap.size, 0, none⟩), .int .i64 (g : Int)] W (OuP w0 A m c (inn ++ [(i : Int)]) (Value.slice Ai ki ki').ownBlock (goP SS false n (g : Int) (inn ++ [(i : Int)]) v) W)) :
    Calls Try.prog 19 #[.pointer (some ⟨w0.heap.size, 0, none⟩), .int .i64 (i : Int)] W (OuP w0 A m c inn (Value.slice Ai ki ki').ownBlock (goP SS false (n + 1) (i : Int) inn v) W) := by
  have hlen := hS.len
  have hok := hM.2 i (by omega)
  have hm4 := hM.1.2
  have hpm : ∀ j, j < (sh SS i).2.length → C.okP (C.qp (sh SS i).2 j) 1024 ∧ (C.qp (sh SS i).2 j).1 < (m : Int) := fun j hj => by
    have h2 := hok.2.2 (by omega)
    have h3 := h2.2.2 j hj
    rw [hlen] at h3
    exact ⟨⟨⟨h3.1.1, by have := h3.1.2; omega⟩, h3.2⟩, h3.1.2⟩
  have hpl : (sh SS i).2.length ≤ 1000 := by
    by_cases h0 : 0 < (sh SS i).2.length
    · have h2 := (hok.2.2 h0).2.1
      omega
    · omega
  have hR := goP_all hM false n i inn v (by omega)
  obtain ⟨R, hRR⟩ : ∃ R, R = goP SS false (n + 1) (i : Int) inn v := ⟨_, rfl⟩
  rw [← hRR] at hR ⊢
  have hcm := hok.2.1
  have hB1 : Below W.heap.size W (W.alloc (.cells #[.pointer (some ⟨w0.heap.size, 0, none⟩)] 76)) := (Below.refl _ _).alloc (Nat.le_refl _) _
  have hwlt := h.lt
  obtain ⟨ad, B, cB, B', cB', hA, d0, _, hC, _⟩ := hS.at_ (h.next hB1).bel hi
  have CP := Lib.hid (copied_any B (sh SS i).1.length cB (sh SS i).1 _ hC (by have := hcm.1; omega) (fun k hk => ⟨(hcm.2 k hk).1.1, by have := (may_ok hcm).2 k hk; omega⟩))
  have HS1 := Lib.hid (h.next hB1)
  have hbx : (W.alloc (.cells #[.pointer (some ⟨w0.heap.size, 0, none⟩)] 76)).heap[W.heap.size]? = some (.cells #[.pointer (some ⟨w0.heap.size, 0, none⟩)] 76 (0, 0)) := heap_alloc_new W _
  have HBx := Lib.hid hbx
  have HB1 := Lib.hid hB1
  have CE := Lib.hid (fun W2 bw xb Ao co cs bs (hd : ObS W2 w0.heap.size bw xb W.heap.size Ao (sh SS i).1.length co (sh SS i).1 cs bs) (hw : WkS w0 W2 A m c Ai ki ki' inn v) (hxb : W.heap.size ≤ xb) (hs : W.heap.size ≤ W2.heap.size) =>
    each33_any (.pointer (some ⟨bw, 0, none⟩)) (.pointer (some ⟨xb, 0, none⟩)) W.heap.size w0 SS A m c hS i hi hpl inn (by omega) (InO SS n i (inn ++ [(i : Int)]) w0.heap.size bw xb R W.heap.size) (fun E => R.1 = E)
      (fun j v W W' ob' Ai ki ki' now v' hI hw hf hx => by
        obtain ⟨Ao, ko, co, out, cs, bs, d, hD, hrest⟩ := hI
        exact ⟨Ao, ko, co, out, cs, bs, d, hD.frm hw hf, hrest⟩)
      (fun j v W Ai ki ki' hj he hw hI => clo33_any SS hM w0 A m c n i inn hin bw xb _ R IH hpm j v W Ai ki ki' hj he hw hI (by
        obtain ⟨Ao, ko, co, out, cs, bs, d, hD, _, _, _, hxb, _⟩ := hI
        have := heap_lt hD.hx
        omega))
      (fun j v W ob hj hI he => by
        obtain ⟨Ao, ko, co, out, cs, bs, d, hD, _, _, hv, hxb, hwb, hG⟩ := hI
        rw [drop_qp _ j hj] at hG
        exact (goL_en hG hv).1 he)
      Ai ki ki' v W2 hs hw ⟨Ao, _, co, (sh SS i).1, cs, bs, 0, hd, OkPt.may hcm, may_ok hcm, hw.vb.2, hxb, hwlt, by rw [List.drop_zero]; exact hR.symm⟩)
  obtain ⟨n1, hn1⟩ : ∃ n, n = (sh SS i).1.length := ⟨_, rfl⟩
  rw [← hn1] at d0 CP CE
  have HN1 := Lib.hid hn1
  subst hA
  clear h IH hpm hpl hlen hok hR hRR hcm hC hn1
  go_enter Try.func19, Try.ntmps19
  go_upto_region 1 with fail
  obtain ⟨bw, hbw⟩ : ∃ b, b = W.heap.size := ⟨_, rfl⟩
  obtain ⟨W1, hW1⟩ : ∃ W1, W1 = W.alloc (.cells #[.pointer (some ⟨w0.heap.size, 0, none⟩)] 76) := ⟨_, rfl⟩
  rw [← hW1] at HS1 HB1 HBx CP d0 ⊢
  rw [← hbw] at HBx ⊢
  have y0 : W1.cell? ⟨bw, 0, none⟩ = some (.pointer (some ⟨w0.heap.size, 0, none⟩)) := cell_of_row W1 bw 0 _ 76 (0, 0) HBx.out
  obtain ⟨y1, _, _⟩ := HS1.out.cells
  have HBw := Lib.hid hbw
  clear hW1 hbx hB1 hbw
  go_upto_region 2 with (go_at_call 31; (with_reducible refine CP.out.mono ?_); rintro e w2 ⟨A2, c2, cs2, bs2, rfl, hd, hb⟩; have HD2 := Lib.hid hd; have HB2 := Lib.hid hb; clear hd hb)
  have hA3 : Below w2.heap.size w2 (w2.alloc (.cells #[.slice A2 n1 c2] 25)) := (Below.refl _ _).alloc (Nat.le_refl _) _
  have hx3 : (w2.alloc (.cells #[.slice A2 n1 c2] 25)).heap[w2.heap.size]? = some (.cells #[.slice A2 n1 c2] 25 (0, 0)) := heap_alloc_new w2 _
  have HW3 := Lib.hid ((HS1.out.next HB2.out).next hA3)
  have HB3 := Lib.hid (show Below W.heap.size W (w2.alloc (.cells #[.slice A2 n1 c2] 25)) from (HB1.out.trans (HB2.out.mono HB1.out.size)).trans (hA3.mono (Nat.le_trans HB1.out.size HB2.out.size)))
  have HO3 := Lib.hid (show ObS (w2.alloc (.cells #[.slice A2 n1 c2] 25)) w0.heap.size bw w2.heap.size W.heap.size A2 n1 c2 (sh SS i).1 cs2 bs2 from
    ⟨(hA3.block bw (Nat.lt_of_lt_of_le (heap_lt HBx.out) HB2.out.size)).trans ((HB2.out.block bw (heap_lt HBx.out)).trans HBx.out), hx3, (HD2.out.rebase HB1.out.size).bel hA3, HN1.out.symm⟩)
  have hxb := Nat.le_trans HB1.out.size HB2.out.size
  have CE := Lib.hid (CE.out (w2.alloc (.cells #[.slice A2 n1 c2] 25)) bw w2.heap.size A2 c2 cs2 bs2 HO3.out HW3.out hxb HB3.out.size)
  clear y0 y1 d0 hA3 hx3 hxb
  obtain ⟨xb, hxb⟩ : ∃ b, b = w2.heap.size := ⟨_, rfl⟩
  obtain ⟨W3, hW3⟩ : ∃ W, W = w2.alloc (.cells #[.slice A2 n1 c2] 25) := ⟨_, rfl⟩
  rw [← hW3] at HW3 HB3 HO3 CE ⊢
  rw [← hxb] at HO3 CE ⊢
  obtain ⟨y0, y1, _⟩ := HO3.out.cells
  clear hW3 hxb
  go_upto_region 3 with (go_at_call 32; (with_reducible refine CE.out.mono ?_); rintro e w4 ⟨E, rfl, hf, hy, hn⟩; have HF4 := Lib.hid hf; have HY := Lib.hid hy; have HN := Lib.hid hn; clear hf hy hn)
  clear y0 y1 CE HO3
  have HF := Lib.hid (show Frm W.heap.size w0.heap.size (Value.slice Ai ki ki').ownBlock W w4 from (Frm.of (Nat.le_refl _) HB3.out).trans (Nx.refl _ _) HF4.out)
  by_cases hE : E = 0
  · subst hE
    obtain ⟨A5, k5, k5', v5, hw5, hx5, Ao, ko, co, out, cs, bs, d, hD, _, _, _, _, _, hG⟩ := HY.out rfl
    have hRf : R = (0, out, d, v5) := by
      rw [List.drop_of_length_le (Nat.le_refl _), goL_nil] at hG
      exact hG.symm
    obtain ⟨_, y1, _⟩ := hD.cells
    have HW5 := Lib.hid hw5
    have HX5 := Lib.hid hx5
    have HD5 := Lib.hid hD
    subst hRf
    clear hw5 hx5 hD hG HY HN
    go_wp2_with fail
    go_ret2
    exact ⟨Ao, ko, co, rfl, HF.out, fun _ => ⟨⟨cs, bs, HD5.out.dc⟩, HD5.out.ln, A5, k5, k5', HW5.out, HX5.out⟩, fun h => absurd rfl h⟩
  · have hX := HN.out hE
    have e1 : (E != 0) = true := by simp [hE]
    have HX := Lib.hid hX
    clear hX
    go_wp2_with fail
    go_ret2
    exact ⟨none, 0, 0, by rw [HX.out]; rfl, HF.out, fun h => absurd (HX.out.symm.trans h) hE, fun _ => ⟨rfl, rfl, rfl⟩⟩
theorem outline_rec (SS : List Shp) (hM : MayS SS) (w0 : World) (A : Option Addr) (m c : Nat) (hS : Shl w0 A m SS) : ∀ (n i : Nat) (inn : List Int) (v : Int) (W : World) (Ai : Option Addr) (ki ki' : Nat), i < m → inn.length + n = 8 → WkS w0 W A m c Ai ki ki' inn v →
    Calls Try.prog 19 #[.pointer (some ⟨w0.heap.size, 0, none⟩), .int .i64 (i : Int)] W (OuP w0 A m c inn (Value.slice Ai ki ki').ownBlock (goP SS false (n + 1) (i : Int) inn v) W) := by
  intro n
  induction n with
  | zero => exact fun i inn v W Ai ki ki' hi hin h => outline_one SS hM w0 A m c hS 0 i inn v W Ai ki ki' hi hin h (fun g hg v W Ai ki ki' h0 => absurd h0 (by omega))
  | succ n ih => exact fun i inn v W Ai ki ki' hi hin h => outline_one SS hM w0 A m c hS (n + 1) i inn v W Ai ki ki' hi hin h (fun g hg v W Ai ki ki' _ hw => ih g (inn ++ [(i : Int)]) v W Ai ki ki' hg (by rw [List.length_append]; simp; omega) hw)
end Go.Proofs.Ytlfnagfcggmeaaa
