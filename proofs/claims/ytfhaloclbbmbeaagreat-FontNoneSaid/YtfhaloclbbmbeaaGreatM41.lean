/- Proved here: which places shapes may have (mayPlaces), and a shape's bytes parsed (parseShape). Condition: lists that lie in memory; a text of at most a billion bytes · what stands in memory while shapes are parsed into a row that is made ahead. No condition · what the program's Parse of shapes answers. Condition: a text of at most a billion bytes; at most 100000 places · awake answers true · what P16 and P32 answer, and the document's Put. No condition. -/
import Derived.Test.YtfhaloclbbmbeaaGreatM36
import Derived.Test.YtfhaloclbbmbeaaGreatM40
import Derived.Test.YtfhaloclbbmbeaaGreatM34
import Derived.Test.YtfhaloclbbmbeaaGreatM30
import Derived.Test.YtfhaloclbbmbeaaGreatM35
import Derived.WalkKit
import Derived.WalkSpells
import Derived.WalkLawsBesides
import Derived.Deep.DeepFit
import Derived.Deep.QuietTactic
import Derived.BigQuiet
import Derived.Lib.Hide
import Derived.StillTailTactics
import Derived.Deep.RegionHeld3
import Derived.ChangeAlike
import Derived.RegionTactic
import Derived.IntWalk
import Derived.Laws.BitsAllLaws
import Derived.Laws.Bits64b
import Derived.Laws.IdiomStrings
import Derived.Deep.CutBlock
import Derived.Deep.CutRange
import Derived.Deep.DeepCutAuto
namespace Go.Proofs.YtfhaloclbbmbeaaGreat
open Go.RowKit
namespace N15
structure Zr (W W' : World) : Prop where
  size : W.heap.size ≤ W'.heap.size
  cell : ∀ (a : Addr) (v : Value), W.cell? a = some v → v ≠ .slice none 0 0 → W'.cell? a = some v
theorem Zr.of {W W' : World} (hb : Below W.heap.size W W') : Zr W W' := ⟨hb.size, fun _ _ h _ => (hb.cell (cell_lt h)).trans h⟩
theorem Zr.trans {W W1 W2 : World} (h : Zr W W1) (k : Zr W1 W2) : Zr W W2 := ⟨Nat.le_trans h.size k.size, fun a v h1 h2 => k.cell a v (h.cell a v h1 h2) h2⟩
end N15
theorem cell_other (W : World) {a b : Addr} (u : Value) (h : ¬ a = b) : (W.setCell a u).cell? b = W.cell? b := by
  rw [World.cell?_setCell_other]
  exact h
namespace N15
theorem Zr.set {W : World} {b j : Nat} (h : W.cell? ⟨b, j, none⟩ = some (.slice none 0 0)) (u : Value) : Zr W (W.setCell ⟨b, j, none⟩ u) :=
  ⟨(Onl.set b W j u).size, fun a v h1 h2 => by
    by_cases e : (⟨b, j, none⟩ : Addr) = a
    · rw [← e, h] at h1; injection h1 with h1; exact absurd h1.symm h2
    · exact (cell_other W u e).trans h1⟩
theorem Ptl.zr {W W' : World} (z : Zr W W') {A : Option Addr} {m : Nat} {L : List Pt} (h : Ptl W A m L) : Ptl W' A m L := ⟨h.len, fun i hi => by
  obtain ⟨ad, h1, h2, h3, h4, h5⟩ := h.get i hi
  exact ⟨ad, h1, Nat.lt_of_lt_of_le h2 z.size, z.cell _ _ h3 (by simp), z.cell _ _ h4 (by simp), z.cell _ _ h5 (by simp)⟩⟩
theorem Ctl.zr {W W' : World} (z : Zr W W') {A : Option Addr} {m : Nat} {LL : List (List Pt)} (h : Ctl W A m LL) (h1 : ∀ i, i < LL.length → 1 ≤ (ct LL i).length) : Ctl W' A m LL := ⟨h.len, fun i hi => by
  obtain ⟨ad, B, c, e1, e2, e3, e4⟩ := h.get i hi
  have := h1 i (by rw [h.len]; exact hi)
  exact ⟨ad, B, c, e1, Nat.lt_of_lt_of_le e2 z.size, z.cell _ _ e3 (fun hh => by injection hh with _ e5 _; omega), e4.zr z⟩⟩
theorem Prl.zr {W W' : World} (z : Zr W W') {A : Option Addr} {m : Nat} {L : List C.Prt} (h : C.Prl W A m L) : C.Prl W' A m L := ⟨h.len, fun i hi => by
  obtain ⟨ad, h1, h2, h3⟩ := h.get i hi
  exact ⟨ad, h1, Nat.lt_of_lt_of_le h2 z.size, fun j u hu => z.cell _ _ (h3 j u hu) (by
    have hm := List.mem_of_getElem? hu
    unfold C.prC at hm
    simp at hm
    rcases hm with rfl | rfl | rfl | rfl | rfl | rfl | rfl <;> simp)⟩⟩
set_option maxHeartbeats 4000000 in
set_option maxRecDepth 100000 in
theorem mayPlaces_any (A : Option Addr) (m c : Nat) (ps : List Int) (l : List UInt8) (N : Int) (hN : N = (l.length : Int)) (w : World) (hP : Il .i64 w A m ps) (hm : m ≤ 100000) :
    Calls Tryz.prog 148 #[.slice A m c, .int .i64 N] w fun e w' => e = .returned (.bool (decide (okPl l ps))) ∧ Below w.heap.size w w' := by
  have hlen := hP.len
  by_cases h0 : m < 2
  · rw [decide_eq_false (show ¬ okPl l ps from fun h => by have := h.1.1; omega)]
    have e0 : decide ((m : Int) < 2) = true := decide_eq_true (by omega)
    clear hlen hP
    go_enter Tryz.func148, Tryz.ntmps148
    go_wp2_with fail
    go_ret
    exact ⟨rfl, Below.refl _ _⟩
  have e0 : decide ((m : Int) < 2) = false := decide_eq_false (by omega)
  by_cases h1 : 1025 < m
  · rw [decide_eq_false (show ¬ okPl l ps from fun h => by have := h.1.2; omega)]
    have e1 : decide (1025 < (m : Int)) = true := decide_eq_true (by omega)
    clear hlen hP
    go_enter Tryz.func148, Tryz.ntmps148
    go_wp2_with fail
    go_ret
    exact ⟨rfl, Below.refl _ _⟩
  have e1 : decide (1025 < (m : Int)) = false := decide_eq_false (by omega)
  have HNo := Lib.hid (show ∀ k, k < m → ¬ (pv ps k ≤ co ps k ∧ co ps k ≤ N) → decide (okPl l ps) = false from fun k hk h => decide_eq_false (fun h2 => h (by rw [hN]; exact h2.2 k (by omega))))
  have HYes := Lib.hid (show (∀ k, k < m → pv ps k ≤ co ps k ∧ co ps k ≤ N) → decide (okPl l ps) = true from fun h => decide_eq_true ⟨by omega, fun i hi => by rw [← hN]; exact h i (by omega)⟩)
  have HI := Lib.hid hP
  clear hlen hP hN
  go_enter Tryz.func148, Tryz.ntmps148
  go_wp2_with fail
  go_loopw [5, 18] (fun p i wr => ∃ k : Nat, i = .int .i64 (k : Int) ∧ k ≤ m ∧ p = .int .i64 (pv ps k) ∧ (∀ j, j < k → pv ps j ≤ co ps j ∧ co ps j ≤ N) ∧ Below w.heap.size w wr) (fun _ i _ => m - (intOf i).toNat)
  case atStart => exact ⟨0, rfl, Nat.zero_le _, rfl, fun j hj => by omega, Below.refl _ _⟩
  case round =>
    obtain ⟨k, rfl, hk, rfl, hok, hb⟩ := hrel
    have HB := Lib.hid hb
    by_cases hgo : k < m
    · obtain ⟨ad, rfl, hc⟩ := HI.out.at_ hb hgo
      have HNk := Lib.hid (HNo.out k hgo)
      have HSk := Lib.hid (show _ → ∀ j, j < k + 1 → pv ps j ≤ co ps j ∧ co ps j ≤ N from all_succ hok)
      have HPv := Lib.hid (show pv ps (k + 1) = co ps k from rfl)
      obtain ⟨x, hx⟩ : ∃ x, x = co ps k := ⟨_, rfl⟩
      obtain ⟨p, hp⟩ : ∃ x, x = pv ps k := ⟨_, rfl⟩
      rw [← hx] at hc HPv
      rw [← hx, ← hp] at HNk HSk
      rw [← hp]
      clear hx hp hok hb
      by_cases c1 : x < p
      · have HX := Lib.hid (HNk.out (by omega))
        have e2 : decide (x < p) = true := decide_eq_true c1
        go_wp2_with fail
        go_ret
        exact ⟨by rw [HX.out]; rfl, HB.out⟩
      · have e2 : decide (x < p) = false := decide_eq_false c1
        by_cases c2 : N < x
        · have HX := Lib.hid (HNk.out (by omega))
          have e3 : decide (N < x) = true := decide_eq_true c2
          go_wp2_with fail
          go_ret
          exact ⟨by rw [HX.out]; rfl, HB.out⟩
        · have HX := Lib.hid (HSk.out (by omega))
          have e3 : decide (N < x) = false := decide_eq_false c2
          go_wp2_with fail
          exact ⟨⟨k + 1, by simp, by omega, by rw [HPv.out], HX.out, HB.out⟩, by simp [intOf]; omega⟩
    · obtain rfl : k = m := by omega
      have HX := Lib.hid (HYes.out hok)
      clear hok hb
      go_wp2_with fail
      go_ret
      exact ⟨by rw [HX.out]; rfl, HB.out⟩
theorem ret_shp {fn : Func} {p u : Tmp} {tmps : Array Value} {W : World} {g n c n' c' : Nat} {B B' : Option Addr} {v : Value} (h : fn.results = #[.cell p 73, .tmp u]) (hp : tmps.getD p undef = .pointer (some ⟨g, 0, none⟩)) (hv : tmps.getD u undef = v) (hb : Bs W g B n c B' n' c') :
    (results fn tmps).run Tryz.prog W = .ok (.tuple #[.agg #[.slice B n c, .slice B' n' c'], v]) W := by
  obtain ⟨hc0, hc1⟩ := hb.cells
  rw [Array.getD_eq_getD_getElem?] at hp hv
  simp [results, h, hp, hv, go_sem, hc0, hc1]
def ShP (R : Int × Shp) (w : World) (e : Ending) (w' : World) : Prop :=
  ∃ B n c B' n' c', e = .returned (.tuple #[.agg #[.slice B n c, .slice B' n' c'], .int .i64 R.1]) ∧ Ctl w' B n R.2.1 ∧ C.Prl w' B' n' R.2.2 ∧ Below w.heap.size w w'
set_option maxHeartbeats 4000000 in
set_option maxRecDepth 100000 in
theorem parseShape_any (s : ByteArray) (G : Int) (w : World) (hs : s.size ≤ 1000000000) : Calls Tryz.prog 149 #[.string s, .int .i64 G] w (ShP (one s.data.toList G) w) := by
  have hA : Below w.heap.size w (w.alloc (.cells #[.slice none 0 0, .slice none 0 0] 73)) := (Below.refl _ _).alloc (Nat.le_refl _) _
  have HBx := Lib.hid (Bs.new w none 0 0 none 0 0)
  have CI := Lib.hid (fun W => C.is_any s W hs)
  have CP := Lib.hid (fun W => C.parse_any s G W hs)
  have CG := Lib.hid (fun W => parse_any s W hs)
  have HM := Lib.hid (prs_may s.data.toList)
  have HA := Lib.hid hA
  unfold one
  by_cases hi : C.isN s.data.toList
  · rw [decide_eq_true hi] at CI
    rw [if_pos hi]
    clear hi hA CG HM
    go_enter Tryz.func149, Tryz.ntmps149
    go_upto_region 3 with (first
      | (go_at_call 205; (with_reducible refine (CI.out _).mono ?_); rintro e w1 ⟨rfl, rfl⟩)
      | (go_at_call 206; (with_reducible refine (CP.out _).mono ?_); rintro e w2 ⟨⟨A2, k2, c2, rfl, hp⟩, hb⟩; have HP2 := Lib.hid hp; have HB2 := Lib.hid hb; clear hp hb))
    have HX2 := Lib.hid (HBx.out.bel HB2.out)
    obtain ⟨x0, x1⟩ := HX2.out.cells
    have f0 := HX2.out.fr 0
    have f1 := HX2.out.fr 1
    have z1 := Zr.set x0 (.slice none 0 0)
    have x1' : (w2.setCell ⟨w.heap.size, 0, none⟩ (.slice none 0 0)).cell? ⟨w.heap.size, 1, none⟩ = some (.slice none 0 0) := by rw [cell_other _ _ (by simp)]; exact x1
    have HZ := Lib.hid (z1.trans (Zr.set x1' (.slice A2 k2 c2)))
    have hx3 := (HX2.out.set0 none 0 0).set1 A2 k2 c2
    have HX3 := Lib.hid hx3
    clear z1 x1' hx3
    go_wp2_with fail
    have hb3 : Below w.heap.size w ((w2.setCell ⟨w.heap.size, 0, none⟩ (.slice none 0 0)).setCell ⟨w.heap.size, 1, none⟩ (.slice A2 k2 c2)) := below_st (below_st (HA.out.trans (HB2.out.mono HA.out.size)) (Nat.le_refl _)) (Nat.le_refl _)
    exact bodyPost_ret (ret_shp rfl rfl rfl HX3.out) rfl ⟨none, 0, 0, A2, k2, c2, rfl, Ctl.nil _, Prl.zr HZ.out HP2.out, hb3⟩
  · rw [decide_eq_false hi] at CI
    rw [if_neg hi]
    clear hi hA CP
    go_enter Tryz.func149, Tryz.ntmps149
    go_upto_region 5 with (first
      | (go_at_call 205; (with_reducible refine (CI.out _).mono ?_); rintro e w1 ⟨rfl, rfl⟩)
      | (go_at_call 207; (with_reducible refine (CG.out _).mono ?_); rintro e w2 ⟨A2, k2, c2, rfl, hp, hb⟩; have HP2 := Lib.hid hp; have HB2 := Lib.hid hb; clear hp hb))
    have HX2 := Lib.hid (HBx.out.bel HB2.out)
    obtain ⟨x0, x1⟩ := HX2.out.cells
    have f0 := HX2.out.fr 0
    have f1 := HX2.out.fr 1
    have z1 := Zr.set x0 (.slice A2 k2 c2)
    have x1' : (w2.setCell ⟨w.heap.size, 0, none⟩ (.slice A2 k2 c2)).cell? ⟨w.heap.size, 1, none⟩ = some (.slice none 0 0) := by rw [cell_other _ _ (by simp)]; exact x1
    have HZ := Lib.hid (z1.trans (Zr.set x1' (.slice none 0 0)))
    have hx3 := (HX2.out.set0 A2 k2 c2).set1 none 0 0
    have HX3 := Lib.hid hx3
    clear z1 x1' hx3
    go_wp2_with fail
    have hb3 : Below w.heap.size w ((w2.setCell ⟨w.heap.size, 0, none⟩ (.slice A2 k2 c2)).setCell ⟨w.heap.size, 1, none⟩ (.slice none 0 0)) := below_st (below_st (HA.out.trans (HB2.out.mono HA.out.size)) (Nat.le_refl _)) (Nat.le_refl _)
    exact bodyPost_ret (ret_shp rfl rfl rfl HX3.out) rfl ⟨A2, k2, c2, none, 0, 0, rfl, Ctl.zr HZ.out HP2.out (fun i hi => (HM.out.2 i hi).1.1), C.Prl.nil _, hb3⟩
end N15
end Go.Proofs.YtfhaloclbbmbeaaGreat
namespace Go.Proofs.YtfhaloclbbmbeaaGreat
open Go.RowKit
namespace N15
structure PqS (w W : World) (ob N k : Nat) (SS : List Shp) (cs : List Value) : Prop where
  bel : Below w.heap.size w W
  ge : w.heap.size ≤ ob
  rv : Rv W ob 73 cs
  lc : cs.length = N * 2
  ln : SS.length = k
  zero : ∀ j, k * 2 ≤ j → j < N * 2 → cs[j]? = some (.slice none 0 0)
  get : ∀ j, j < k → ∃ B c B' c', cs[j * 2]? = some (.slice B (sh SS j).1.length c) ∧ cs[j * 2 + 1]? = some (.slice B' (sh SS j).2.length c') ∧ Ctl W B (sh SS j).1.length (sh SS j).1 ∧ C.Prl W B' (sh SS j).2.length (sh SS j).2 ∧ ∀ q, q < (sh SS j).1.length → 1 ≤ (ct (sh SS j).1 q).length
theorem sh_old {SS : List Shp} {x : Shp} {j : Nat} (h : j < SS.length) : sh (SS ++ [x]) j = sh SS j := by
  unfold sh; rw [List.getD_eq_getElem?_getD, List.getD_eq_getElem?_getD, List.getElem?_append_left h]
theorem sh_new {SS : List Shp} {x : Shp} : sh (SS ++ [x]) SS.length = x := by
  unfold sh; rw [List.getD_eq_getElem?_getD, List.getElem?_append_right (Nat.le_refl _), Nat.sub_self]; rfl
section
variable {w W W' : World} {ob N k : Nat} {SS : List Shp} {cs : List Value}
theorem PqS.start (hb : Below w.heap.size w W) (N : Nat) : PqS w (W.alloc (.cells (madeCells #[.slice none 0 0, .slice none 0 0] (N * 2)) 73)) W.heap.size N 0 [] (madeCells #[.slice none 0 0, .slice none 0 0] (N * 2)).toList :=
  ⟨hb.alloc hb.size _, hb.size, Rv.new W _ 73, by rw [Array.length_toList, size_madeCells], rfl, fun j _ h => by
    rcases Nat.mod_two_eq_zero_or_one j with e | e <;> simp [madeCells, h, e], fun j hj => by omega⟩
theorem PqS.next (h : PqS w W ob N k SS cs) (hb : Below W.heap.size W W') : PqS w W' ob N k SS cs :=
  ⟨h.bel.trans (hb.mono h.bel.size), h.ge, h.rv.bel hb, h.lc, h.ln, h.zero, fun j hj => by
    obtain ⟨B, c, B', c', e1, e2, e3, e4, e5⟩ := h.get j hj
    exact ⟨B, c, B', c', e1, e2, e3.bel hb, e4.bel hb, e5⟩⟩
theorem PqS.cells (h : PqS w W ob N k SS cs) (hk : k < N) : W.cell? ⟨ob, k * 2, none⟩ = some (.slice none 0 0) ∧ W.cell? ⟨ob, k * 2 + 1, none⟩ = some (.slice none 0 0) ∧ W.frozen? ⟨ob, k * 2, none⟩ = false ∧ W.frozen? ⟨ob, k * 2 + 1, none⟩ = false :=
  ⟨h.rv.get (h.zero _ (by omega) (by omega)), h.rv.get (h.zero _ (by omega) (by omega)), h.rv.fr _, h.rv.fr _⟩
theorem PqS.put (h : PqS w W ob N k SS cs) (hk : k < N) {B B' : Option Addr} {n c n' c' : Nat} {CC : List (List Pt)} {PP : List C.Prt} (hC : Ctl W B n CC) (hP : C.Prl W B' n' PP) (h1 : ∀ q, q < CC.length → 1 ≤ (ct CC q).length) :
    PqS w ((W.setCell ⟨ob, k * 2, none⟩ (.slice B n c)).setCell ⟨ob, k * 2 + 1, none⟩ (.slice B' n' c')) ob N (k + 1) (SS ++ [(CC, PP)]) ((cs.set (k * 2) (.slice B n c)).set (k * 2 + 1) (.slice B' n' c')) := by
  obtain ⟨c0, c1, _, _⟩ := h.cells hk
  have z1 := Zr.set c0 (.slice B n c)
  have c1' : (W.setCell ⟨ob, k * 2, none⟩ (.slice B n c)).cell? ⟨ob, k * 2 + 1, none⟩ = some (.slice none 0 0) := by rw [cell_other _ _ (by simp)]; exact c1
  have z := z1.trans (Zr.set c1' (.slice B' n' c'))
  have hl := h.ln
  have hlc := h.lc
  have hn := hC.len
  have hn' := hP.len
  subst hn hn'
  refine ⟨below_st (below_st h.bel h.ge) h.ge, h.ge, (h.rv.set _ _).set _ _, by simp [h.lc], by simp [hl], fun j h2 h3 => ?_, fun j hj => ?_⟩
  · rw [List.getElem?_set_ne (by omega), List.getElem?_set_ne (by omega)]
    exact h.zero j (by omega) h3
  · rcases Nat.lt_or_ge j k with h2 | h2
    · rw [sh_old (by omega)]
      obtain ⟨B1, c1, B1', c1', e1, e2, e3, e4, e5⟩ := h.get j h2
      exact ⟨B1, c1, B1', c1', by rw [List.getElem?_set_ne (by omega), List.getElem?_set_ne (by omega)]; exact e1, by rw [List.getElem?_set_ne (by omega), List.getElem?_set_ne (by omega)]; exact e2, Ctl.zr z e3 e5, Prl.zr z e4, e5⟩
    · obtain rfl : j = SS.length := by omega
      subst hl
      rw [sh_new]
      exact ⟨B, c, B', c', by rw [List.getElem?_set_ne (by omega), List.getElem?_set_self (by omega)], by rw [List.getElem?_set_self (by rw [List.length_set]; omega)], Ctl.zr z hC h1, Prl.zr z hP, h1⟩
theorem PqS.shl (h : PqS w W ob N N SS cs) : Shl W (some ⟨ob, 0, none⟩) N SS := ⟨h.ln, fun i hi => by
  obtain ⟨B, c, B', c', e1, e2, e3, e4, _⟩ := h.get i hi
  exact ⟨_, B, c, B', c', rfl, h.rv.lt, by rw [add_at]; exact h.rv.get e1, by rw [add_at]; exact h.rv.get e2, e3, e4⟩⟩
end
theorem one_pts (d : List UInt8) (G : Int) : ∀ q, q < (one d G).2.1.length → 1 ≤ (ct (one d G).2.1 q).length := by
  unfold one
  by_cases h : C.isN d
  · rw [if_pos h]; exact fun q hq => absurd hq (by simp)
  · rw [if_neg h]; exact fun q hq => ((prs_may d).2 q hq).1.1
end N15
theorem mkShps (n : Nat) (hn : n ≤ 100000) (W : World) : (Instr.makeSlice 41 (.int .i64 (n : Int)) (.int .i64 (n : Int))).run Tryz.prog W = .ok (.slice (some ⟨W.heap.size, 0, none⟩) n n) (W.alloc (.cells (madeCells #[.slice none 0 0, .slice none 0 0] (n * 2)) 73)) := by
  obtain ⟨i0, hi0, hz0, hz1, hz2⟩ := info_parts Tryz.info26z
  have := run_makeSlice (P := Tryz.prog) W 41 73 i0 (.agg #[.slice none 0 0, .slice none 0 0]) Tryz.underlying41 hi0 hz0 .i64 .i64 (n : Int) (n : Int) (by omega) (Int.le_refl _) (by rw [hz1]; omega) (by rw [hz2]; omega) (by omega)
  rw [this, hz1, Int.toNat_natCast]
  rfl
end Go.Proofs.YtfhaloclbbmbeaaGreat
namespace Go.Proofs.YtfhaloclbbmbeaaGreat
open Go.RowKit
theorem add_up (a : Addr) (k : Nat) : (⟨a.block, a.off + (k + 1), none⟩ : Addr) = a.add (k + 1) := by
  unfold Addr.add
  rw [if_neg (by omega)]
namespace N15
set_option maxHeartbeats 8000000 in
set_option maxRecDepth 100000 in
theorem parseShapes_any (s : ByteArray) (A : Option Addr) (m c : Nat) (ps : List Int) (w : World) (hs : s.size ≤ 1000000000) (hP : Il .i64 w A m ps) (hm : m ≤ 100000) :
    Calls Tryz.prog 75 #[.string s, .slice A m c] w (PlP (PF s.data.toList ps) w) := by
  have hlen := hP.len
  have hsz := size_list s
  have CM := Lib.hid (mayPlaces_any A m c ps s.data.toList (s.size : Int) (by rw [hsz]) w hP hm)
  have HE := Lib.hid (show ∀ x w', PF s.data.toList ps = (x, []) → Below w.heap.size w w' → PlP (PF s.data.toList ps) w (.returned (.tuple #[.slice none 0 0, .int .i64 x])) w' from fun x w' h1 h2 => plP_err h1 h2)
  by_cases hok : okPl s.data.toList ps
  rotate_left
  · rw [decide_eq_false hok] at CM
    have HX := Lib.hid (show PF s.data.toList ps = (1, []) from by unfold PF; rw [if_neg hok])
    clear hlen hsz hP hok
    go_enter Tryz.func75, Tryz.ntmps75
    go_wp2_with (go_at_call 148; (with_reducible refine CM.out.mono ?_); rintro e w1 ⟨rfl, hb⟩; have HB := Lib.hid hb; clear hb)
    go_ret2
    exact HE.out _ _ HX.out HB.out
  rw [decide_eq_true hok] at CM
  have h2 := hok.1.1
  have h25 := hok.1.2
  obtain ⟨N, hN⟩ : ∃ N, m = N + 1 := ⟨m - 1, by omega⟩
  have hR : PF s.data.toList ps = pfL s.data.toList ps (N : Int) N 0 [] := by
    unfold PF
    rw [if_pos hok, hlen, hN, show ((N + 1 : Nat) : Int) - 1 = (N : Int) by omega, Nat.add_sub_cancel]
  have HOk := Lib.hid (show ∀ i, i < m → pv ps i ≤ co ps i ∧ co ps i ≤ (s.size : Int) from fun i hi => by rw [← hsz]; exact hok.2 i (by omega))
  obtain ⟨R, hRR⟩ : ∃ R, R = PF s.data.toList ps := ⟨_, rfl⟩
  rw [← hRR] at HE hR ⊢
  have HR0 := Lib.hid hR.symm
  have HI := Lib.hid hP
  have HSz := Lib.hid hs
  have HMk := Lib.hid (mkShps N (by omega))
  have hw2 : IntKind.i64.wrap ((m : Int) - 1) = (N : Int) := by rw [i64_in _ (by omega)]; omega
  have hN2 : N ≤ 1024 := by omega
  have HNm := Lib.hid hN
  clear hlen hP hok hR hRR hsz h2 h25 hN
  go_enter Tryz.func75, Tryz.ntmps75
  have hmk := HMk.out
  go_upto_region 5 with (go_at_call 148; (with_reducible refine CM.out.mono ?_); rintro e w1 ⟨rfl, hb⟩; have HB := Lib.hid hb; clear hb)
  have HQ0 := Lib.hid (PqS.start HB.out N)
  obtain ⟨ob, hob⟩ : ∃ b, b = w1.heap.size := ⟨_, rfl⟩
  obtain ⟨W0, hW0⟩ : ∃ W, W = w1.alloc (.cells (madeCells #[.slice none 0 0, .slice none 0 0] (N * 2)) 73) := ⟨_, rfl⟩
  rw [← hW0] at HQ0 ⊢
  rw [← hob] at HQ0 ⊢
  clear hmk hob hW0
  go_wp2_with fail
  go_loopw [23] (fun i wr => ∃ (k : Nat) (SS : List Shp) (cs : List Value), i = .int .i64 (k : Int) ∧ k ≤ N ∧ pfL s.data.toList ps (N : Int) (N - k) k SS = R ∧ PqS w wr ob N k SS cs) (fun i _ => N - (intOf i).toNat)
  case atStart => exact ⟨0, [], _, rfl, Nat.zero_le _, HR0.out, HQ0.out⟩
  case round =>
    obtain ⟨k, SS, cs, rfl, hk, hpf, hQ⟩ := hrel
    have HQ := Lib.hid hQ
    by_cases hgo : k < N
    · obtain ⟨ad, hA, hc⟩ := HI.out.at_ hQ.bel (show k < m by have := HNm.out; omega)
      subst hA
      obtain ⟨ad2, e1, hd⟩ := HI.out.at_ hQ.bel (show k + 1 < m by have := HNm.out; omega)
      injection e1 with e1
      subst e1
      have hkm : k + 1 < m := by have := HNm.out; omega
      have ho1 := HOk.out k (by omega)
      have ho2 := HOk.out (k + 1) hkm
      obtain ⟨x, hx⟩ : ∃ x, x = co ps k := ⟨_, rfl⟩
      obtain ⟨y, hy⟩ : ∃ y, y = co ps (k + 1) := ⟨_, rfl⟩
      have hx0 : 0 ≤ x := by
        rw [hx]
        have : ∀ j, j < m → 0 ≤ co ps j := fun j => by
          induction j with
          | zero => intro hj; have := (HOk.out 0 hj).1; exact this
          | succ j ih => intro hj; have h1 := (HOk.out (j + 1) hj).1; have h2 := ih (by omega); show 0 ≤ co ps (j + 1); exact Int.le_trans h2 h1
        exact this k (by omega)
      have hxy : x ≤ y := by rw [hx, hy]; exact ho2.1
      have hyN : y ≤ (s.size : Int) := by rw [hy]; exact ho2.2
      have hsub := fun W => sub_run s x y hx0 hxy hyN W
      have hseg : seg s.data.toList ps k = piece s.data.toList x.toNat (y - x).toNat := by rw [hx, hy]; rfl
      obtain ⟨q, hq⟩ : ∃ q : ByteArray, q = ⟨(piece s.data.toList x.toNat (y - x).toNat).toArray⟩ := ⟨_, rfl⟩
      rw [← hq] at hsub
      have hql : q.data.toList = seg s.data.toList ps k := by rw [hq, hseg]
      have hqs : q.size ≤ 1000000000 := by
        have h1 := size_list q
        rw [hql, hseg] at h1
        have h2 := piece_len_le s.data.toList x.toNat (y - x).toNat
        have := HSz.out
        omega
      rw [← hx] at hc
      rw [← hy] at hd
      have hpf2 : (if (one q.data.toList (N : Int)).1 ≠ 0 then ((one q.data.toList (N : Int)).1, []) else pfL s.data.toList ps (N : Int) (N - (k + 1)) (k + 1) (SS ++ [(one q.data.toList (N : Int)).2])) = R := by
        rw [← hpf, show N - k = (N - (k + 1)) + 1 by omega, hql]
        rfl
      have CS := Lib.hid (fun W => parseShape_any q (N : Int) W hqs)
      have HP1 := Lib.hid (one_pts q.data.toList (N : Int))
      obtain ⟨S, hS⟩ : ∃ S, S = one q.data.toList (N : Int) := ⟨_, rfl⟩
      rw [← hS] at hpf2 CS HP1
      clear hS
      obtain ⟨E, CC, PP⟩ := S
      dsimp only at hpf2 HP1
      have HPF := Lib.hid hpf2
      have HF := Lib.hid (show ∀ W, Below wr.heap.size wr W → W.cell? (ad.add k) = some (.int .i64 x) ∧ W.cell? ⟨ad.block, ad.off + (k + 1), none⟩ = some (.int .i64 y) from fun W hb => ⟨(hb.cell (cell_lt hc)).trans hc, by rw [add_up]; exact (hb.cell (cell_lt hd)).trans hd⟩)
      have hk1 : ((k : Int) + 1) = ((k + 1 : Nat) : Int) := by simp
      have hob : ob < wr.heap.size := hQ.rv.lt
      have HOb := Lib.hid hob
      have g0 : (0 : Int) ≤ (k : Int) := by omega
      have g1 : (k : Int) < (m : Int) := by omega
      have g2 : (0 : Int) ≤ (k : Int) + 1 := by omega
      have g3 : (k : Int) + 1 < (m : Int) := by omega
      have g4 : IntKind.i64.wrap ((k : Int) + 1) = (k : Int) + 1 := i64_in _ (by omega)
      rw [← add_up] at hd
      clear hpf hQ ho1 ho2 hx hy hseg hq hql hqs hpf2 hxy hyN hx0 hkm hob hk1
      have H := Lib.hid (Below.refl wr.heap.size wr)
      go_upto_region 8 with fail
      go_cut [9, 10] from 26 to 41 (fun p Ev wx => ∃ b, p = .pointer (some ⟨b, 0, none⟩) ∧ Ev = .int .i64 E ∧ b ≠ ob ∧ Below wr.heap.size wr wx ∧ ∃ B n c B' n' c', Bs wx b B n c B' n' c' ∧ Ctl wx B n CC ∧ C.Prl wx B' n' PP)
      case first =>
        go_region_held3 (fun w' => w'.cell? (ad.add k) = some (.int .i64 x) ∧ w'.cell? ⟨ad.block, ad.off + (k + 1), none⟩ = some (.int .i64 y))
          (first | with_reducible exact HF.out _ H.out | with_reducible exact HF.out _ (Below.drew H.out) | exact HF.out _ (H.out.alloc H.out.size _) | exact HF.out _ (Below.drew (H.out.alloc H.out.size _)) | exact HF.out _ ((Below.drew H.out).alloc H.out.size _) | exact HF.out _ (below_st (below_st H.out (Nat.le_refl _)) (Nat.le_refl _)) | exact HF.out _ (Below.drew (below_st (below_st H.out (Nat.le_refl _)) (Nat.le_refl _))) | go_keep)
          (first
            | (go_at_call 149; (with_reducible refine (CS.out _).mono ?_); rintro e w4 ⟨B, n, c, B', n', c', rfl, hC, hP, hb⟩; (first | have H := Lib.hid (H.out.trans (hb.mono H.out.size)) | have H := Lib.hid ((Below.drew H.out).trans (hb.mono H.out.size)) | (have X4 := (Bs.new wr none 0 0 none 0 0).bel hb; have HX4 := Lib.hid X4; obtain ⟨x0, x1⟩ := X4.cells; have f0 := X4.fr 0; have f1 := X4.fr 1; clear X4; have H := Lib.hid ((H.out.alloc H.out.size _).trans (hb.mono (by simp)))) | (have X4 := (Bs.new wr none 0 0 none 0 0).bel ((Below.drew (Below.refl _ _)).trans hb); have HX4 := Lib.hid X4; obtain ⟨x0, x1⟩ := X4.cells; have f0 := X4.fr 0; have f1 := X4.fr 1; clear X4; have H := Lib.hid ((Below.drew (H.out.alloc H.out.size _)).trans (hb.mono (by simp [World.drew])))) | (have X4 := (Bs.new wr.drew none 0 0 none 0 0).bel hb; have HX4 := Lib.hid X4; obtain ⟨x0, x1⟩ := X4.cells; have f0 := X4.fr 0; have f1 := X4.fr 1; clear X4; have H := Lib.hid (((Below.drew H.out).alloc H.out.size _).trans (hb.mono (by simp [World.drew]))))); have HC := Lib.hid hC; have HP := Lib.hid hP; clear hb hC hP))
        all_goals go_wp2_with fail
        · go_meet
          have hA : Below w4.heap.size w4 (w4.alloc (.cells #[.slice B n c, .slice B' n' c'] 73)) := (Below.refl _ _).alloc (Nat.le_refl _) _
          exact ⟨_, rfl, rfl, by have := H.out.size; have := HOb.out; omega, H.out.alloc H.out.size _, B, n, c, B', n', c', Bs.new w4 B n c B' n' c', HC.out.bel hA, HP.out.bel hA⟩
        · go_meet
          have x1' : (w4.setCell ⟨wr.heap.size, 0, none⟩ (.slice B n c)).cell? ⟨wr.heap.size, 1, none⟩ = some (.slice none 0 0) := by rw [cell_other _ _ (by simp)]; exact x1
          have z := (Zr.set x0 (.slice B n c)).trans (Zr.set x1' (.slice B' n' c'))
          exact ⟨_, rfl, rfl, by have := HOb.out; omega, below_st (below_st H.out (Nat.le_refl _)) (Nat.le_refl _), B, n, c, B', n', c', (HX4.out.set0 B n c).set1 B' n' c', Ctl.zr z HC.out HP1.out, Prl.zr z HP.out⟩
      case rest =>
        obtain ⟨b, rfl, rfl, hbo, hbel, B, n, c, B', n', c', hX, hC, hP⟩ := hcut
        have HB9 := Lib.hid hbel
        have HC9 := Lib.hid hC
        have HP9 := Lib.hid hP
        have HQ9 := Lib.hid (HQ.out.next hbel)
        obtain ⟨y0, y1⟩ := hX.cells
        obtain ⟨o0, o1, f0, f1⟩ := HQ9.out.cells hgo
        clear hbo hbel hX hC hP H
        by_cases hE : E = 0
        · have hp := HPF.out
          rw [if_neg (fun h => h hE)] at hp
          have HX := Lib.hid hp
          subst hE
          clear hp
          go_wp2_with fail
          exact ⟨⟨k + 1, SS ++ [(CC, PP)], _, by simp, by omega, HX.out, HQ9.out.put hgo HC9.out HP9.out HP1.out⟩, by simp [intOf]; omega⟩
        · have hp := HPF.out
          rw [if_pos hE] at hp
          have HX := Lib.hid hp.symm
          have e1 : (E != 0) = true := by simp [hE]
          clear hp
          go_wp2_with fail
          go_ret2
          exact HE.out E _ HX.out (HQ.out.bel.trans (HB9.out.mono HQ.out.bel.size))
    · obtain rfl : k = N := by omega
      have HX := Lib.hid (show R = (0, SS) from by rw [← hpf, Nat.sub_self]; rfl)
      clear hQ hpf
      go_wp2_with fail
      go_ret2
      rw [HX.out]
      exact ⟨some ⟨ob, 0, none⟩, k, k, rfl, HQ.out.shl, HQ.out.bel⟩
end N15
end Go.Proofs.YtfhaloclbbmbeaaGreat
namespace Go.Proofs.YtfhaloclbbmbeaaGreat
open Go.RowKit
theorem add_zero_ (a : Addr) : a.add 0 = a := by unfold Addr.add; simp
namespace N15
theorem Ctl.zero {w : World} {A : Option Addr} {x y : Int} {o : Bool} (h : Ctl w A 1 [[(x, y, o)]]) : ∃ ad bd c, A = some ad ∧ w.cell? ad = some (.slice (some bd) 1 c) ∧ w.cell? bd = some (.int .i64 x) ∧ w.cell? { block := bd.block, off := bd.off + 1 } = some (.int .i64 y) ∧ w.cell? { block := bd.block, off := bd.off + 2 } = some (.bool o) := by
  obtain ⟨ad, B, c, h1, h2, h3⟩ := h.at_ (Below.refl _ _) (i := 0) (by omega)
  obtain ⟨bd, h4, h5, h6, h7⟩ := h3.at_ (Below.refl _ _) (i := 0) (by show 0 < 1; omega)
  subst h4
  have z0 : bd.add (0 * 3) = bd := by rw [Nat.zero_mul]; exact add_zero_ bd
  rw [z0] at h5 h6 h7
  rw [add_zero_] at h2
  exact ⟨ad, bd, c, h1, h2, h5, h6, h7⟩
end N15
end Go.Proofs.YtfhaloclbbmbeaaGreat
namespace Go.Proofs.YtfhaloclbbmbeaaGreat
open Go.RowKit
theorem one_u8 (a : Nat) (ha : a < 256) : #[Value.int .u8 (a : Int)] = (([UInt8.ofNat a]).map fun c => Value.int .u8 (c.toNat : Int)).toArray := by
  simp only [List.map_cons, List.map_nil, UInt8.toNat_ofNat']
  rw [Nat.mod_eq_of_lt ha]
end Go.Proofs.YtfhaloclbbmbeaaGreat
