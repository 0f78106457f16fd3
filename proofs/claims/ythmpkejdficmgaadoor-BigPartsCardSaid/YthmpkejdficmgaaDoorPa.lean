/- Proved here: what the statements of this seat share: the library's table as the row's condition lays it, a start that meets the condition, and the end of a call that leaves memory as it was. No condition of our own. -/
import Derived.Test.YthmpkejdficmgaaDoorSa
import Derived.ReadAgain
import Derived.ChangeSlices
import Derived.Test.YthmpkejdficmgaaDoorCards
import Derived.Test.YthmpkejdficmgaaDoorTie
import Derived.ProofKit
import Derived.LaidMore
import Derived.OpenShut
import Derived.Stop.Joined
import Derived.Lib.SmallJoins
import Derived.Lib.LaidTab
import Derived.SevenTiedAt
namespace Go.Proofs.YthmpkejdficmgaaDoor
open Go.ChangeShapes Go.WideShapes Go.ChangeAt Go.RowKit Go.Joins

theorem own : ownKnob Tryd.prog.godebug = none := by kernel_rfl
theorem cells60 : Tryd.prog.cellsOf 60 = 1 := by kernel_rfl
theorem cells24 : Tryd.prog.cellsOf 24 = 2 := by kernel_rfl
theorem cells119 : Tryd.prog.cellsOf 119 = 20 := by kernel_rfl
theorem gPow : Tryd.prog.globalNamed "internal/strconv.uint64pow10" = some 2 := by kernel_rfl
theorem tPow : (Tryd.prog.globals[2]?).map (·.type) = some 119 := by kernel_rfl
theorem dPow : (Rows.laid_internal_strconv_uint64pow10 : DataW Unit) = Lib.tabData .u64 Lib.pow10Tab := by rfl
def laid3 : List (String × DataW Unit) := [("math/bits.deBruijn32tab", Rows.laid_math_bits_deBruijn32tab), ("math/bits.deBruijn64tab", Rows.laid_math_bits_deBruijn64tab), ("internal/strconv.uint64pow10", Rows.laid_internal_strconv_uint64pow10)]
theorem door_met (os : Os) (args : Array Value) : laidMetH Tryd.prog laid3 ((World.doorLaid Tryd.prog 400 os).forCall (fun _ _ => 0) ⟨#[], args, []⟩).memory :=
  laidMetH_of_parts3 (fuel := 8) (laidMet_of_run' 8 (by kernel_rfl) (by kernel_rfl)) (by kernel_rfl) (by kernel_rfl)
theorem tab_of_laid {W : World} (h : laidMetH Tryd.prog laid3 W) : Tab W := by
  rw [MakeChecks.laidMetH_plain _ _ _ (by kernel_rfl)] at h
  obtain ⟨ps, ⟨_, _, _, _, _, _, _, _, _, _, ⟨_, _, _, _, _, _, _, _, _, _, ⟨g, t, cs, fuel, p, q, hg, ht, hvar, hd, _, _⟩, _⟩, _⟩, _⟩ := h
  obtain rfl := Option.some.inj (gPow.symm.trans hg)
  obtain rfl := Option.some.inj (tPow.symm.trans ht)
  rw [dPow] at hd
  show Lib.TabIs _ _ _ _ _
  unfold Lib.TabIs
  rw [hvar, ← Lib.cells_of_tab Tryd.underlying119 Tryd.underlying60 cells60 cells119 hd]
theorem cells61 : Tryd.prog.cellsOf 61 = 1 := by kernel_rfl
theorem types24 : Tryd.prog.cellTypes Tryd.prog.depth 24 = some [4, 22] := by kernel_rfl
/-- The end of a call that returns true and turns nothing that was there. -/
theorem post_true {H : Type} {enc : TypeId × Value → H} {f : Func} {s : ChangeSpec} {W W' : World} {args : Array Value} {ds : List (DataW H)} {before : List MemPlace} (hs : s.vars = [])
    (hW : DataW.Whole enc Tryd.prog f.params.toList s.vars false W args.toList ds [] before) (hr : f.resultTypes = #[4]) (hres : (s.fn H (ds ++ [])).results = [.lit (.bool true)]) (hargs0 : (s.fn H (ds ++ [])).args = ds) (hvars0 : (s.fn H (ds ++ [])).vars = [])
    (hargs : ∃ pa, DataW.TrodAll enc Tryd.prog W' 0 (fun b => decide (b < W.heap.size)) true f.params.toList args.toList ds pa) (hb : Below W.heap.size W W') :
    s.post enc Tryd.prog f false true false false W args (.bool true) W' := by
  obtain ⟨pa, hargs⟩ := hargs
  refine ⟨ds, [], before, [], pa, [], hW, ?_, ?_, ?_, hb.frame _, fun h => by cases h⟩
  · rw [hr, hres]
    exact trodAll_mk1 (shut_bool Tryd.underlying4 true)
  · rw [hargs0]
    exact hargs
  · rw [hs, hvars0]
    rfl
theorem has_lt {P : Program} {W : World} {r : Reach} {b0 n : Nat} {a : Addr} {e : TypeId} (h : W.has P r b0 a e n) : a.block < W.heap.size := by
  rcases Nat.lt_or_ge a.block W.heap.size with hl | hl
  · exact hl
  · obtain ⟨_, _, row, cells, hs, _⟩ := h
    simp [World.shape?, Array.getElem?_eq_none hl] at hs
set_option maxRecDepth 100000 in
theorem ok_cell1 {W : World} {r : Reach} {b0 : Nat} {v0 v1 : Value} (h : Value.okWide Tryd.prog W r b0 24 (.agg #[v0, v1])) : Cell.okWide Tryd.prog W r b0 22 v1 := by
  simp only [Value.okWide, Tryd.underlying24] at h
  obtain ⟨cs, hc, hs, ts, ht, _, hi⟩ := h
  injection hc with hc
  subst hc
  rw [types24] at ht
  injection ht with ht
  subst ht
  obtain ⟨u, hu, hk⟩ := hi 1 v1 rfl
  have : u = 22 := by simpa using hu.symm
  rw [this] at hk
  exact hk
set_option maxRecDepth 100000 in
theorem open_digits {H : Type} {enc : TypeId × Value → H} {W : World} {r : Reach} {b0 n : Nat} {v : Value} {y : DataW H × List MemPlace} (hok : Cell.okWide Tryd.prog W r b0 22 v)
    (h : DataW.trod enc Tryd.prog W 0 (fun _ => true) true n 22 [v] = some y) :
    ∃ xs : List Nat, Arr W .u32 v xs ∧ Eg xs ∧ ∀ W', Below W.heap.size W W' → ∃ m, DataW.trod enc Tryd.prog W' 0 (fun b => decide (b < W.heap.size)) true m 22 [v] = some y := by
  rcases open_ints Tryd.underlying22 Tryd.underlying61 cells61 h with ⟨h1, rfl⟩ | ⟨a, len, cap, zs, h1, hb, hl, hm, hlen, rfl, hcell, hwf⟩
  · injection h1 with h1 _
    subst h1
    refine ⟨[], Arr.nil _ _, fun j => by simp, fun W' _ => ?_⟩
    obtain ⟨m, hm⟩ := shut_slice_nil (enc := enc) (P := Tryd.prog) (w := W') (base := 0) (spare := fun b => decide (b < W.heap.size)) (held := true) Tryd.underlying22
    exact ⟨m, by simpa [Value.cells] using hm⟩
  · injection h1 with h1 _
    subst h1
    simp at hlen
    have hlt : a.block < W.heap.size := by
      simp only [Cell.okWide, Cell.ok, Tryd.underlying22] at hok
      obtain ⟨_, _, hh⟩ := hok
      exact has_lt hh
    have hz : ∀ j, j < zs.length → 0 ≤ zs.getD j 0 ∧ zs.getD j 0 ≤ 4294967295 := fun j hj => bounds_u32 (hwf _ (by
      have : zs.getD j 0 = zs[j] := by simp [List.getD, hj]
      rw [this]
      exact List.getElem_mem hj))
    have hlz : len ≤ zs.length := by omega
    refine ⟨(zs.take len).map Int.toNat, ⟨some a, cap, ?_, ?_, hm, (fun h => nomatch h), fun ad ha => ?_⟩, fun j => ?_, fun W' hbel => ⟨2, ?_⟩⟩
    · congr 1
      simp; omega
    · simp; omega
    · injection ha with ha
      subst ha
      refine ⟨hlt, fun j hj => ?_⟩
      have hj : j < len := by simp at hj; omega
      rw [hcell j (by omega)]
      have := hz j (by omega)
      have e1 : (dat ((zs.take len).map Int.toNat) j : Int) = zs.getD j 0 := by
        have hjz : j < zs.length := by omega
        simp only [dat, List.getD_eq_getElem?_getD, List.getElem?_map, List.getElem?_take, hj, if_true, List.getElem?_eq_getElem hjz, Option.map_some, Option.getD_some]
        have h0 := this.1
        simp only [List.getD_eq_getElem?_getD, List.getElem?_eq_getElem hjz, Option.getD_some] at h0
        omega
      rw [e1]
    · rcases Nat.lt_or_ge j len with hj | hj
      · have hjz : j < zs.length := by omega
        have := hz j hjz
        simp only [List.getD_eq_getElem?_getD, List.getElem?_eq_getElem hjz, Option.getD_some] at this
        simp only [List.getD_eq_getElem?_getD, List.getElem?_map, List.getElem?_take, hj, if_true, List.getElem?_eq_getElem hjz, Option.map_some, Option.getD_some]
        omega
      · rw [List.getD_eq_getElem?_getD, List.getElem?_eq_none (by simp; omega)]
        decide
    · refine shut_ints 0 Tryd.underlying22 Tryd.underlying61 cells61 hb hl hm (by simp [hlt, hlen]) (fun i hi => ?_) hwf
      rw [hbel.cell (by rw [block_of_add]; exact hlt)]
      exact hcell i hi
end Go.Proofs.YthmpkejdficmgaaDoor
