/- Proved here: Proved here (plain): how a glyph's parts are gone to, step by step; the points of an outline may be. No condition. · how deep the parts of a glyph stand in one another (depth). Condition: shapes that may be, and a walk's box. · how deep the parts of a glyph stand in one another (depth). Condition: shapes that may be, and a walk's box. -/
import Derived.Test.YtlfnagfcggmeaaaLB
import Derived.Test.YtlfnagfcggmeaaaFC
import Derived.Test.YtlfnagfcggmeaaaLz
namespace Go.Proofs.Ytlfnagfcggmeaaa
open Go.RowKit

theorem goL_en {rec : Int → List Int → Int → GR} {pl : Bool} {now : List Int} {p : C.Prt} {r : List C.Prt} {out : List (List Pt)} {d v : Int} {R : GR} (h : goL rec pl now (p :: r) out d v = R) (hv : v ≤ 4096) :
    (enE now p.1 v ≠ 0 → R.1 = enE now p.1 v) ∧ (enE now p.1 v = 0 → (if (rec p.1 now (v + 1)).1 ≠ 0 then ((rec p.1 now (v + 1)).1, [], 0, (rec p.1 now (v + 1)).2.2.2)
    else if pl = true then goL rec pl now r out (max d ((rec p.1 now (v + 1)).2.2.1 + 1)) (rec p.1 now (v + 1)).2.2.2
    else if movE p (rec p.1 now (v + 1)).2.1 ≠ 0 then (movE p (rec p.1 now (v + 1)).2.1, [], 0, (rec p.1 now (v + 1)).2.2.2)
    else if 256 < (out ++ movL p (rec p.1 now (v + 1)).2.1).length ∨ 4096 < tots (out ++ movL p (rec p.1 now (v + 1)).2.1) then (6, [], 0, (rec p.1 now (v + 1)).2.2.2)
    else goL rec pl now r (out ++ movL p (rec p.1 now (v + 1)).2.1) (max d ((rec p.1 now (v + 1)).2.2.1 + 1)) (rec p.1 now (v + 1)).2.2.2) = R) := by
  rw [goL_cons] at h
  unfold enE
  by_cases c1 : p.1 ∈ now
  · rw [if_pos c1] at h ⊢; subst h; exact ⟨fun _ => rfl, fun h => absurd h (by decide)⟩
  rw [if_neg c1] at h ⊢
  by_cases c2 : 8 < now.length
  · rw [if_pos c2] at h ⊢; subst h; exact ⟨fun _ => rfl, fun h => absurd h (by decide)⟩
  rw [if_neg c2] at h ⊢
  by_cases c3 : v = 4096
  · rw [if_pos c3, if_pos (by omega : 4096 < v + 1)] at *; subst h; exact ⟨fun _ => rfl, fun h => absurd h (by decide)⟩
  · rw [if_neg (by omega : ¬ 4096 < v + 1)] at h; rw [if_neg c3]; exact ⟨fun h => absurd rfl h, fun _ => h⟩
/-- A part's answer, in Depth. -/
theorem goL_deep1 {rec : Int → List Int → Int → GR} {now : List Int} {p : C.Prt} {r : List C.Prt} {out : List (List Pt)} {d v : Int} {R S : GR} (h : goL rec true now (p :: r) out d v = R) (hv : v ≤ 4096) (he : enE now p.1 v = 0) (hS : rec p.1 now (v + 1) = S) :
    (S.1 ≠ 0 → R.1 = S.1) ∧ (S.1 = 0 → goL rec true now r out (max d (S.2.2.1 + 1)) S.2.2.2 = R) := by
  have h2 := (goL_en h hv).2 he
  rw [hS] at h2
  by_cases c : S.1 ≠ 0
  · rw [if_pos c] at h2; subst h2; exact ⟨fun _ => rfl, fun h => absurd h c⟩
  · rw [if_neg c, if_pos rfl] at h2; exact ⟨fun h => absurd h c, fun _ => h2⟩
/-- A part's answer, in Outline. -/
theorem goL_out1 {rec : Int → List Int → Int → GR} {now : List Int} {p : C.Prt} {r : List C.Prt} {out : List (List Pt)} {d v : Int} {R S : GR} (h : goL rec false now (p :: r) out d v = R) (hv : v ≤ 4096) (he : enE now p.1 v = 0) (hS : rec p.1 now (v + 1) = S) :
    (S.1 ≠ 0 → R.1 = S.1) ∧ (S.1 = 0 → (movE p S.2.1 ≠ 0 → R.1 = movE p S.2.1) ∧ (movE p S.2.1 = 0 → (roE (out ++ movL p S.2.1) ≠ 0 → R.1 = roE (out ++ movL p S.2.1)) ∧ (roE (out ++ movL p S.2.1) = 0 → OutOk (out ++ movL p S.2.1) ∧ goL rec false now r (out ++ movL p S.2.1) (max d (S.2.2.1 + 1)) S.2.2.2 = R))) := by
  have h2 := (goL_en h hv).2 he
  rw [hS] at h2
  by_cases c : S.1 ≠ 0
  · rw [if_pos c] at h2; subst h2; exact ⟨fun _ => rfl, fun h => absurd h c⟩
  rw [if_neg c, if_neg (by decide)] at h2
  refine ⟨fun h => absurd h c, fun _ => ?_⟩
  by_cases c2 : movE p S.2.1 ≠ 0
  · rw [if_pos c2] at h2; subst h2; exact ⟨fun _ => rfl, fun h => absurd h c2⟩
  rw [if_neg c2] at h2
  refine ⟨fun h => absurd h c2, fun _ => ?_⟩
  unfold roE
  by_cases c3 : 256 < (out ++ movL p S.2.1).length ∨ 4096 < tots (out ++ movL p S.2.1)
  · rw [if_pos c3] at h2 ⊢; subst h2; exact ⟨fun _ => rfl, fun h => absurd h (by decide)⟩
  · rw [if_neg c3] at h2 ⊢; exact ⟨fun h => absurd rfl h, fun _ => ⟨tots_ok (Nat.not_lt.1 fun h => c3 (.inl h)) (Nat.not_lt.1 fun h => c3 (.inr h)), h2⟩⟩
theorem OkPt.nil : OkPt [] := fun i hi => absurd hi (by simp)
theorem OkPt.app {L M : List (List Pt)} (h : OkPt L) (k : OkPt M) : OkPt (L ++ M) := fun i hi => by
  rw [ct_app]
  by_cases c : i < L.length
  · rw [if_pos c]; exact h i c
  · rw [if_neg c]; exact k _ (by rw [List.length_append] at hi; omega)
theorem OkPt.mov (p : C.Prt) (LL : List (List Pt)) : OkPt (movL p LL) := by
  by_cases h : okMvC p LL
  · intro i hi
    have hl : (movL p LL).length = LL.length := by unfold movL; rw [if_pos h, List.length_map]
    rw [hl] at hi
    have e : ct (movL p LL) i = (ct LL i).map (mvPt p) := by rw [mvC_all p LL h _ rfl i hi]; exact if_pos hi
    rw [e]
    intro j hj
    rw [List.length_map] at hj
    have h2 := h i hi j hj
    have h3 := mvA_ok h2
    have e1 : ((ct LL i).map (mvPt p)).getD j (0, 0, false) = mvPt p (pt (ct LL i) j) := by simp [pt, hj]
    unfold px py
    rw [e1]
    exact h3
  · unfold movL; rw [if_neg h]; exact OkPt.nil
theorem OkPt.may {LL : List (List Pt)} (h : MayG LL) : OkPt LL := fun i hi j hj => (h.2 i hi).2 j hj
theorem goL_pts (rec : Int → List Int → Int → GR) (now : List Int) :
    ∀ (r : List C.Prt) (out : List (List Pt)) (d v : Int), OkPt out → (goL rec false now r out d v).1 = 0 → OkPt (goL rec false now r out d v).2.1
  | [], out, d, v, h, _ => h
  | p :: r, out, d, v, h, h0 => by
    rw [goL_cons] at h0 ⊢
    by_cases c1 : p.1 ∈ now
    · rw [if_pos c1] at h0; exact absurd h0 (fun h => by cases h)
    rw [if_neg c1] at h0 ⊢
    by_cases c2 : 8 < now.length
    · rw [if_pos c2] at h0; exact absurd h0 (fun h => by cases h)
    rw [if_neg c2] at h0 ⊢
    by_cases c3 : 4096 < v + 1
    · rw [if_pos c3] at h0; exact absurd h0 (fun h => by cases h)
    rw [if_neg c3] at h0 ⊢
    by_cases c4 : (rec p.1 now (v + 1)).1 ≠ 0
    · rw [if_pos c4] at h0; exact absurd h0 c4
    rw [if_neg c4, if_neg (by decide)] at h0 ⊢
    by_cases c6 : movE p (rec p.1 now (v + 1)).2.1 ≠ 0
    · rw [if_pos c6] at h0; exact absurd h0 c6
    rw [if_neg c6] at h0 ⊢
    by_cases c7 : 256 < (out ++ movL p (rec p.1 now (v + 1)).2.1).length ∨ 4096 < tots (out ++ movL p (rec p.1 now (v + 1)).2.1)
    · rw [if_pos c7] at h0; exact absurd h0 (fun h => by cases h)
    rw [if_neg c7] at h0 ⊢
    exact goL_pts rec now r _ _ _ (h.app (OkPt.mov _ _)) h0
theorem goP_pts {SS : List Shp} (hM : MayS SS) : ∀ (n : Nat) (gl : Int) (inn : List Int) (v : Int), (goP SS false n gl inn v).1 = 0 → OkPt (goP SS false n gl inn v).2.1
  | 0, _, _, _, h => absurd h (by show (8 : Int) ≠ 0; decide)
  | n + 1, gl, inn, v, h => by
    unfold goP at h ⊢
    by_cases c : (sh SS gl.toNat).2 = []
    · rw [if_pos c]; exact OkPt.may (sh_may hM _)
    · rw [if_neg c] at h ⊢; exact goL_pts _ _ _ _ _ _ OkPt.nil h
/-- With no parts, or with parts: the same rule. -/
theorem goP_all {SS : List Shp} (hM : MayS SS) (pl : Bool) (n i : Nat) (inn : List Int) (v : Int) (hi : i < SS.length) : goP SS pl (n + 1) (i : Int) inn v = goL (goP SS pl n) pl (inn ++ [(i : Int)]) (sh SS i).2 (sh SS i).1 0 v := by
  unfold goP
  rw [Int.toNat_natCast]
  by_cases c : (sh SS i).2 = []
  · rw [if_pos c, c]; rfl
  · rw [if_neg c]
    have h1 : (sh SS i).1 = [] := by
      have := (hM.2 i hi).1
      have h2 : 0 < (sh SS i).2.length := List.length_pos_iff.2 c
      exact Classical.byContradiction fun h3 => this ⟨List.length_pos_iff.2 h3, h2⟩
    rw [h1]
end Go.Proofs.Ytlfnagfcggmeaaa
namespace Go.Proofs.Ytlfnagfcggmeaaa
open Go.RowKit

theorem enE_zero {now : List Int} {g v : Int} (h : enE now g v = 0) : ¬ g ∈ now ∧ now.length ≤ 8 ∧ v ≠ 4096 := by
  unfold enE at h
  by_cases c1 : g ∈ now
  · rw [if_pos c1] at h; exact absurd h (by decide)
  rw [if_neg c1] at h
  by_cases c2 : 8 < now.length
  · rw [if_pos c2] at h; exact absurd h (by decide)
  rw [if_neg c2] at h
  by_cases c3 : v = 4096
  · rw [if_pos c3] at h; exact absurd h (by decide)
  exact ⟨c1, by omega, c3⟩
/-- What depth answers. -/
def DeP (w0 : World) (A : Option Addr) (m c : Nat) (inn : List Int) (ob : Option Nat) (R : GR) (W : World) (e : Ending) (W' : World) : Prop :=
  ∃ d, e = .returned (.tuple #[.int .i64 d, .int .i64 R.1]) ∧ Frm W.heap.size w0.heap.size ob W W' ∧
    (R.1 = 0 → d = R.2.2.1 ∧ ∃ Ai ki ki', WkS w0 W' A m c Ai ki ki' inn R.2.2.2 ∧ Nx W.heap.size ob (Value.slice Ai ki ki').ownBlock) ∧ (R.1 ≠ 0 → d = 0)
/-- The boxes of a call of depth: the walk's pointer, and the deepest so far. -/
structure DbS (W : World) (wb bw db : Nat) (ob : Option Nat) (d : Int) : Prop where
  hw : W.heap[bw]? = some (.cells #[.pointer (some ⟨wb, 0, none⟩)] 76 (0, 0))
  hd : W.heap[db]? = some (.cells #[.int .i64 d] 3 (0, 0))
  nw : bw ≠ wb ∧ some bw ≠ ob
  nd : db ≠ wb ∧ some db ≠ ob
section
variable {W W' : World} {wb bw db bd : Nat} {ob ob' : Option Nat} {d : Int}
theorem DbS.lt (h : DbS W wb bw db ob d) : bw < W.heap.size ∧ db < W.heap.size := ⟨heap_lt h.hw, heap_lt h.hd⟩
theorem DbS.next (h : DbS W wb bw db ob d) (f : Frm W.heap.size wb ob W W') (x : Nx W.heap.size ob ob') : DbS W' wb bw db ob' d :=
  ⟨(f.block bw h.lt.1 h.nw.1 h.nw.2).trans h.hw, (f.block db h.lt.2 h.nd.1 h.nd.2).trans h.hd, ⟨h.nw.1, fun e => (x bw e.symm).elim (fun h2 => h.nw.2 h2.symm) fun h2 => by have := h.lt.1; omega⟩, h.nd.1, fun e => (x db e.symm).elim (fun h2 => h.nd.2 h2.symm) fun h2 => by have := h.lt.2; omega⟩
theorem DbS.ne (h : DbS W wb bw db ob d) : bw ≠ db := fun e => by
  have h1 := h.hw
  rw [e, h.hd] at h1
  injection h1 with h1
  injection h1 with _ h1
  exact absurd h1 (by decide)
theorem DbS.set (h : DbS W wb bw db ob d) (u : Int) : DbS (W.setCell ⟨db, 0, none⟩ (.int .i64 u)) wb bw db ob u :=
  ⟨((Onl.set db W 0 (.int .i64 u)).block bw h.lt.1 h.ne).trans h.hw, by have e := h.hd; simp [World.setCell, Array.getElem?_modify, e], h.nw, h.nd⟩
theorem DbS.cells (h : DbS W wb bw db ob d) : W.cell? ⟨bw, 0, none⟩ = some (.pointer (some ⟨wb, 0, none⟩)) ∧ W.cell? ⟨db, 0, none⟩ = some (.int .i64 d) ∧ W.frozen? ⟨db, 0, none⟩ = false :=
  ⟨cell_of_row W bw 0 _ 76 (0, 0) h.hw, cell_of_row W db 0 _ 3 (0, 0) h.hd, by have := h.hd; simp [World.frozen?, this]⟩
theorem Frm.far {b : Nat} (hb : bd ≤ W.heap.size) (h : Onl b W W') (hbb : bd ≤ b) : Frm bd wb ob W W' := ⟨h.os, h.tape, h.output, h.size, fun g hg _ _ => h.block g (Nat.lt_of_lt_of_le hg hb) (by omega)⟩
theorem WkS.onl {w0 : World} {A : Option Addr} {m c : Nat} {Ai : Option Addr} {ki ki' : Nat} {now : List Int} {v : Int} (h : WkS w0 W A m c Ai ki ki' now v) {b : Nat} (ho : Onl b W W') (hb : w0.heap.size < b) (hn : some b ≠ (Value.slice Ai ki ki').ownBlock) : WkS w0 W' A m c Ai ki ki' now v := by
  refine ⟨⟨ho.os.trans h.bel.os, ho.tape.trans h.bel.tape, ho.output.trans h.bel.output, Nat.le_trans h.bel.size ho.size, fun g hg => (ho.block g (Nat.lt_of_lt_of_le hg h.bel.size) (by omega)).trans (h.bel.block g hg)⟩, (ho.block _ (heap_lt h.box) (by omega)).trans h.box, ⟨h.row.1, ?_⟩, h.vb⟩
  rcases h.row.2 with h0 | ⟨j, cap, cur, hv, hj, hh, rest⟩
  · exact .inl h0
  · exact .inr ⟨j, cap, cur, hv, hj, (ho.block j (heap_lt hh) (fun e => hn (by rw [hv, ← e]; rfl))).trans hh, rest⟩
end
/-- Between two parts. -/
def InD (SS : List Shp) (n i : Nat) (now : List Int) (wb bw db : Nat) (R : GR) (bd : Nat) (j : Nat) (v : Int) (W : World) (ob : Option Nat) : Prop :=
  ∃ d, DbS W wb bw db ob d ∧ (0 ≤ d ∧ d ≤ (n : Int) + 1) ∧ v ≤ 4096 ∧ bd ≤ bw ∧ bd ≤ db ∧ wb < bd ∧ goL (goP SS true n) true now ((sh SS i).2.drop j) (sh SS i).1 d v = R
theorem drop_qp (PP : List C.Prt) (j : Nat) (h : j < PP.length) : PP.drop j = C.qp PP j :: PP.drop (j + 1) := by
  rw [List.drop_eq_getElem_cons h]
  congr 1
  simp [C.qp, h]
set_option maxHeartbeats 8000000 in
set_option maxRecDepth 100000 in
theorem clo38_any (SS : List Shp) (w0 : World) (A : Option Addr) (m c : Nat) (n i : Nat) (inn : List Int) (hin : inn.length + n = 8) (bw db bd : Nat) (R : GR)
    (IH : ∀ g : Nat, g < m → ∀ v W Ai ki ki', 1 ≤ n → WkS w0 W A m c Ai ki ki' (inn ++ [(i : Int)]) v → Calls Try.prog 21 #[.pointer (some ⟨w0.heap.size, 0, none⟩), .int .i64 (g : Int)] W (DeP w0 A m c (inn ++ [(i : Int)]) (Value.slice Ai ki ki').ownBlock (goP SS true n (g : Int) (inn ++ [(i : Int)]) v) W))
    (hpm : ∀ j, j < (sh SS i).2.length → 0 ≤ (C.qp (sh SS i).2 j).1 ∧ (C.qp (sh SS i).2 j).1 < (m : Int))
    (j : Nat) (v : Int) (W : World) (Ai : Option Addr) (ki ki' : Nat) (hj : j < (sh SS i).2.length) (he : enE (inn ++ [(i : Int)]) (C.qp (sh SS i).2 j).1 v = 0) (h : WkS w0 W A m c Ai ki ki' (inn ++ [(i : Int)]) (v + 1)) (hI : InD SS n i (inn ++ [(i : Int)]) w0.heap.size bw db R bd j v W (Value.slice Ai ki ki').ownBlock) :
    Calls Try.prog 38 #[pAg (C.qp (sh SS i).2 j), .pointer (some ⟨bw, 0, none⟩), .pointer (some ⟨db, 0, none⟩)] W (EaP bd w0 A m c (inn ++ [(i : Int)]) (Value.slice Ai ki ki').ownBlock (fun v' W' ob' => InD SS n i (inn ++ [(i : Int)]) w0.heap.size bw db R bd (j + 1) v' W' ob') (fun E => R.1 = E) W) := by
  obtain ⟨d, hD, hd, hv, hbw, hdb, hwb, hG⟩ := hI
  obtain ⟨pg0, pg1⟩ := hpm j hj
  have hen := enE_zero he
  have hn8 : n ≤ 8 := by omega
  rw [List.length_append] at hen
  have hn1 : 1 ≤ n := by have := hen.2.1; simp at this; omega
  rw [drop_qp _ j hj] at hG
  obtain ⟨p, hp⟩ : ∃ p, p = C.qp (sh SS i).2 j := ⟨_, rfl⟩
  rw [← hp] at he hG pg0 pg1 ⊢
  obtain ⟨pg, px, py, pa, pb, pc, pd⟩ := p
  dsimp only at he pg0 pg1
  obtain ⟨g, rfl⟩ : ∃ g : Nat, pg = (g : Int) := ⟨pg.toNat, by omega⟩
  have h1 := goL_deep1 hG hv he rfl
  have hdp := goP_deep SS true n (g : Int) (inn ++ [(i : Int)]) (v + 1)
  have CI := Lib.hid (fun W Ai ki ki' h => IH g (by omega) (v + 1) W Ai ki ki' hn1 h)
  obtain ⟨S, hS⟩ : ∃ S, S = goP SS true n (g : Int) (inn ++ [(i : Int)]) (v + 1) := ⟨_, rfl⟩
  dsimp only at h1
  rw [← hS] at h1 hdp CI
  obtain ⟨E, SL, d1, v1⟩ := S
  dsimp only at h1 hdp
  have hB1 : Below W.heap.size W (W.alloc (.cells #[.int .i64 (g : Int), .int .i64 px, .int .i64 py, .int .i64 pa, .int .i64 pb, .int .i64 pc, .int .i64 pd] 54)) := (Below.refl _ _).alloc (Nat.le_refl _) _
  have HBp := Lib.hid (C.Bp.new W (g : Int) px py pa pb pc pd)
  have HW1 := Lib.hid (h.next hB1)
  have HD1 := Lib.hid (hD.next (Frm.of (Nat.le_refl _) hB1) (Nx.refl _ _))
  have HD0 := Lib.hid hD
  have HB1 := Lib.hid hB1
  have HH := Lib.hid h1
  have HBd := Lib.hid (show bd ≤ W.heap.size from Nat.le_trans hdb (Nat.le_of_lt hD.lt.2))
  have HBs := Lib.hid (And.intro hbw (And.intro hdb hwb))
  unfold pAg
  dsimp only
  clear h hpm IH hen hp hS hG hB1 hbw hdb hwb hv h1 he hin hj hD
  go_enter Try.func38, Try.ntmps38
  go_upto_region 1 with fail
  obtain ⟨W1, hW1⟩ : ∃ W1, W1 = W.alloc (.cells #[.int .i64 (g : Int), .int .i64 px, .int .i64 py, .int .i64 pa, .int .i64 pb, .int .i64 pc, .int .i64 pd] 54) := ⟨_, rfl⟩
  obtain ⟨nb, hnb⟩ : ∃ b, b = W.heap.size := ⟨_, rfl⟩
  rw [← hnb] at HBp ⊢
  rw [← hW1] at HBp HW1 HD1 HB1 ⊢
  obtain ⟨y0, y1, y2⟩ := HD1.out.cells
  have z0 := HBp.out.cells.1
  dsimp only at z0
  have CI := Lib.hid (CI.out W1 Ai ki ki' HW1.out)
  clear hW1 hnb
  by_cases hE : E = 0
  · subst hE
    have HX := Lib.hid (HH.out.2 rfl)
    go_upto_region 2 with (go_at_call 21; (with_reducible refine CI.out.mono ?_); rintro e w2 ⟨d2, rfl, hf, hy, hn⟩; obtain ⟨h2, A2, k2, k2', hw, hx⟩ := hy rfl; have HF2 := Lib.hid hf; have HW2 := Lib.hid hw; have HX2 := Lib.hid hx; dsimp only at h2; clear hf hy hn hw hx)
    subst h2
    clear y0 y1 y2 z0
    have HD2 := Lib.hid (HD1.out.next HF2.out HX2.out)
    obtain ⟨y0, y1, y2⟩ := HD2.out.cells
    have w9 : IntKind.i64.wrap (d2 + 1) = d2 + 1 := i64_in _ (by omega)
    obtain ⟨dm, hdm⟩ : ∃ d3, d3 = max d (d2 + 1) := ⟨_, rfl⟩
    have hmax : 0 ≤ dm ∧ dm ≤ (n : Int) + 1 := by omega
    have hdi : (if d < d2 + 1 then d2 + 1 else d) = dm := by rw [hdm]; split <;> omega
    rw [← hdm] at HX
    clear hdm
    go_wp2_with fail
    go_ret
    have hb1 : bd ≤ W1.heap.size := Nat.le_trans HBd.out HB1.out.size
    have hb2 : bd ≤ w2.heap.size := Nat.le_trans hb1 HF2.out.size
    have hf3 : Frm bd w0.heap.size (Value.slice Ai ki ki').ownBlock W (w2.setCell ⟨db, 0, none⟩ (.int .i64 dm)) := ((Frm.of HBd.out HB1.out).trans (Nx.refl _ _) (HF2.out.le hb1)).trans (Nx.refl _ _) (Frm.far hb2 (Onl.set db _ _ _) HBs.out.2.1)
    exact ⟨0, rfl, hf3, fun _ => ⟨A2, k2, k2', v1, HW2.out.onl (Onl.set db _ _ _) (Nat.lt_of_lt_of_le HBs.out.2.2 HBs.out.2.1) HD2.out.nd.2, HX2.out.le hb1, dm, HD2.out.set dm, hmax, HW2.out.vb.2, HBs.out.1, HBs.out.2.1, HBs.out.2.2, HX.out⟩, fun h => absurd rfl h⟩
  · have HX := Lib.hid (HH.out.1 hE)
    have w9 : IntKind.i64.wrap (0 + 1) = 1 := rfl
    go_upto_region 2 with (go_at_call 21; (with_reducible refine CI.out.mono ?_); rintro e w2 ⟨d2, rfl, hf, hy, hn⟩; have h2 := hn hE; have HF2 := Lib.hid hf; clear hf hy hn)
    subst h2
    clear y0 y1 y2 z0
    have HD2 := Lib.hid (HD1.out.next HF2.out (Nx.refl _ _))
    obtain ⟨y0, y1, y2⟩ := HD2.out.cells
    go_wp2_with fail
    all_goals
      go_ret
      have hb1 : bd ≤ W1.heap.size := Nat.le_trans HBd.out HB1.out.size
      have hb2 : bd ≤ w2.heap.size := Nat.le_trans hb1 HF2.out.size
      exact ⟨E, rfl, ((Frm.of HBd.out HB1.out).trans (Nx.refl _ _) (HF2.out.le hb1)).trans (Nx.refl _ _) (Frm.far hb2 (Onl.set db _ _ _) HBs.out.2.1), fun h => absurd h hE, fun _ => HX.out⟩
end Go.Proofs.Ytlfnagfcggmeaaa
namespace Go.Proofs.Ytlfnagfcggmeaaa
open Go.RowKit

set_option maxHeartbeats 8000000 in
set_option maxRecDepth 100000 in
theorem depth_one (SS : List Shp) (hM : MayS SS) (w0 : World) (A : Option Addr) (m c : Nat) (hS : Shl w0 A m SS) (n i : Nat) (inn : List Int) (v : Int) (W : World) (Ai : Option Addr) (ki ki' : Nat) (hi : i < m) (hin : inn.length + n = 8) (h : WkS w0 W A m c Ai ki ki' inn v)
    (IH : ∀ g : Nat, g < m → ∀ v W Ai ki ki', 1 ≤ n → WkS w0 W A m c Ai ki ki' (inn ++ [(i : Int)]) v → Calls Try.prog 21 #[.pointer (some ⟨w0.heap.size, 0, none⟩), .int .i64 (g : Int)] W (DeP w0 A m c (inn ++ [(i : Int)]) (Value.slice Ai ki ki').ownBlock (goP SS true n (g : Int) (inn ++ [(i : Int)]) v) W)) :
    Calls Try.prog 21 #[.pointer (some ⟨w0.heap.size, 0, none⟩), .int .i64 (i : Int)] W (DeP w0 A m c inn (Value.slice Ai ki ki').ownBlock (goP SS true (n + 1) (i : Int) inn v) W) := by
  have hlen := hS.len
  have hok := hM.2 i (by omega)
  have hpm : ∀ j, j < (sh SS i).2.length → 0 ≤ (C.qp (sh SS i).2 j).1 ∧ (C.qp (sh SS i).2 j).1 < (m : Int) := fun j hj => by
    have h2 := hok.2.2 (by omega)
    have h3 := (h2.2.2 j hj).1
    rw [hlen] at h3
    exact h3
  have hpl : (sh SS i).2.length ≤ 1000 := by
    by_cases h0 : 0 < (sh SS i).2.length
    · have h2 := (hok.2.2 h0).2.1
      omega
    · omega
  have hR := goP_all hM true n i inn v (by omega)
  have HDP := Lib.hid (goP_deep SS true (n + 1) (i : Int) inn v)
  have HNL := Lib.hid (goP_nil SS true n (i : Int) inn v)
  obtain ⟨R, hRR⟩ : ∃ R, R = goP SS true (n + 1) (i : Int) inn v := ⟨_, rfl⟩
  rw [← hRR] at hR HDP HNL ⊢
  have hB1 : Below W.heap.size W (W.alloc (.cells #[.pointer (some ⟨w0.heap.size, 0, none⟩)] 76)) := (Below.refl _ _).alloc (Nat.le_refl _) _
  have hB2 : Below W.heap.size W ((W.alloc (.cells #[.pointer (some ⟨w0.heap.size, 0, none⟩)] 76)).alloc (.cells #[.int .i64 0] 3)) := hB1.alloc (by simp) _
  have hwlt := h.lt
  have hob := h.ob
  have HD := Lib.hid (show DbS ((W.alloc (.cells #[.pointer (some ⟨w0.heap.size, 0, none⟩)] 76)).alloc (.cells #[.int .i64 0] 3)) w0.heap.size W.heap.size (W.heap.size + 1) (Value.slice Ai ki ki').ownBlock 0 from by
    refine ⟨?_, ?_, ⟨by omega, fun e => by have := (hob _ e.symm).2; omega⟩, ⟨by omega, fun e => by have := (hob _ e.symm).2; omega⟩⟩
    · rw [Below.heap_alloc _ _ _ (by simp)]; exact heap_alloc_new W _
    · have := heap_alloc_new (W.alloc (.cells #[.pointer (some ⟨w0.heap.size, 0, none⟩)] 76)) (.cells #[.int .i64 0] 3)
      simpa using this)
  have HW2 := Lib.hid (h.next hB2)
  have HB2 := Lib.hid hB2
  have hs2 : W.heap.size ≤ ((W.alloc (.cells #[.pointer (some ⟨w0.heap.size, 0, none⟩)] 76)).alloc (.cells #[.int .i64 0] 3)).heap.size := hB2.size
  have CE := Lib.hid (fun W2 bw db (hd : DbS W2 w0.heap.size bw db (Value.slice Ai ki ki').ownBlock 0) (hw : WkS w0 W2 A m c Ai ki ki' inn v) (hbw : W.heap.size ≤ bw) (hdb : W.heap.size ≤ db) (hs : W.heap.size ≤ W2.heap.size) =>
    each38_any (.pointer (some ⟨bw, 0, none⟩)) (.pointer (some ⟨db, 0, none⟩)) W.heap.size w0 SS A m c hS i hi hpl inn (by omega) (InD SS n i (inn ++ [(i : Int)]) w0.heap.size bw db R W.heap.size) (fun E => R.1 = E)
      (fun j v W W' ob' Ai ki ki' now v' hI hw hf hx => by
        obtain ⟨d, hD, hrest⟩ := hI
        exact ⟨d, hD.next hf hx, hrest⟩)
      (fun j v W Ai ki ki' hj he hw hI => clo38_any SS w0 A m c n i inn hin bw db _ R IH hpm j v W Ai ki ki' hj he hw hI)
      (fun j v W ob hj hI he => by
        obtain ⟨d, hD, hd, hv, hbw, hdb, hwb, hG⟩ := hI
        rw [drop_qp _ j hj] at hG
        exact (goL_en hG hv).1 he)
      Ai ki ki' v W2 hs hw ⟨0, hd, ⟨by omega, by omega⟩, hw.vb.2, hbw, hdb, hwlt, by rw [List.drop_zero]; exact hR.symm⟩)
  have hwb : w0.heap.size < W.heap.size := hwlt
  clear h IH hpm hpl hlen hok hR hRR hB1 hB2 hob hs2
  go_enter Try.func21, Try.ntmps21
  go_upto_region 2 with fail
  obtain ⟨bw, hbw⟩ : ∃ b, b = W.heap.size := ⟨_, rfl⟩
  obtain ⟨db, hdb⟩ : ∃ b, b = W.heap.size + 1 := ⟨_, rfl⟩
  obtain ⟨W2, hW2⟩ : ∃ W2, W2 = (W.alloc (.cells #[.pointer (some ⟨w0.heap.size, 0, none⟩)] 76)).alloc (.cells #[.int .i64 0] 3) := ⟨_, rfl⟩
  rw [← hW2] at HD HW2 HB2 ⊢
  rw [← hdb] at HD ⊢
  have CE := Lib.hid (CE.out W2 bw db (by rw [hbw]; exact HD.out) HW2.out (by omega) (by omega) HB2.out.size)
  rw [← hbw] at HD ⊢
  obtain ⟨y0, _, _⟩ := HD.out.cells
  clear hW2 hbw hdb
  go_upto_region 3 with (go_at_call 32; (with_reducible refine CE.out.mono ?_); rintro e w3 ⟨E, rfl, hf, hy, hn⟩; have HF3 := Lib.hid hf; have HY := Lib.hid hy; have HN := Lib.hid hn; clear hf hy hn)
  clear y0 CE HD
  have HF := Lib.hid (show Frm W.heap.size w0.heap.size (Value.slice Ai ki ki').ownBlock W w3 from (Frm.of (Nat.le_refl _) HB2.out).trans (Nx.refl _ _) HF3.out)
  by_cases hE : E = 0
  · subst hE
    obtain ⟨A4, k4, k4', v4, hw4, hx4, d, hD, _, _, _, _, _, hG⟩ := HY.out rfl
    have hRf : R = (0, (sh SS i).1, d, v4) := by
      rw [List.drop_of_length_le (Nat.le_refl _), goL_nil] at hG
      exact hG.symm
    obtain ⟨_, y1, _⟩ := hD.cells
    have HW4 := Lib.hid hw4
    have HX4 := Lib.hid hx4
    subst hRf
    clear hw4 hx4 hD hG HY HN HNL HDP
    go_wp2_with fail
    go_ret2
    exact ⟨d, rfl, HF.out, fun _ => ⟨rfl, A4, k4, k4', HW4.out, HX4.out⟩, fun h => absurd rfl h⟩
  · have hX := HN.out hE
    have e1 : (E != 0) = true := by simp [hE]
    have HX := Lib.hid hX
    clear hX
    go_wp2_with fail
    go_ret2
    exact ⟨0, by rw [HX.out]; rfl, HF.out, fun h => absurd (HX.out.symm.trans h) hE, fun _ => rfl⟩
set_option maxHeartbeats 8000000 in
set_option maxRecDepth 100000 in
theorem depth_rec (SS : List Shp) (hM : MayS SS) (w0 : World) (A : Option Addr) (m c : Nat) (hS : Shl w0 A m SS) : ∀ (n i : Nat) (inn : List Int) (v : Int) (W : World) (Ai : Option Addr) (ki ki' : Nat), i < m → inn.length + n = 8 → WkS w0 W A m c Ai ki ki' inn v →
    Calls Try.prog 21 #[.pointer (some ⟨w0.heap.size, 0, none⟩), .int .i64 (i : Int)] W (DeP w0 A m c inn (Value.slice Ai ki ki').ownBlock (goP SS true (n + 1) (i : Int) inn v) W) := by
  intro n
  induction n with
  | zero => exact fun i inn v W Ai ki ki' hi hin h => depth_one SS hM w0 A m c hS 0 i inn v W Ai ki ki' hi hin h (fun g hg v W Ai ki ki' h0 => absurd h0 (by omega))
  | succ n ih => exact fun i inn v W Ai ki ki' hi hin h => depth_one SS hM w0 A m c hS (n + 1) i inn v W Ai ki ki' hi hin h (fun g hg v W Ai ki ki' _ hw => ih g (inn ++ [(i : Int)]) v W Ai ki ki' hg (by rw [List.length_append]; simp; omega) hw)
end Go.Proofs.Ytlfnagfcggmeaaa
