/- Proved here: CmapBack and CmapKinds as given: a table that is made of any pairs that may be is parsed to them, by the law and by the document's own; tables of the kinds that the law turns are refused or read as the document says. No condition of our own. -/
import Derived.Test.YtbmpdpajnmjfpaaYb
import Derived.Test.YtbmpdpajnmjfpaaYc
import Derived.Test.YtbmpdpajnmjfpaaRows
import Derived.ProofKit
import Derived.OpenShut
import Derived.ReadAgain
import Derived.ChangeSlices
import Derived.ChangeMaps5
import Derived.Lib.SmallJoins
import Derived.Deep.Slices
import Derived.Carry
namespace Go.Proofs.Ytbmpdpajnmjfpaa
open Go.ChangeShapes Go.WideShapes Go.ChangeAt Go.RowKit Go.Joins

theorem own : ownKnob Try.prog.godebug = none := by kernel_rfl
/-- The end of a call that returns true and turns nothing that was there. -/
theorem post_true {H : Type} {enc : TypeId × Value → H} {f : Func} {s : ChangeSpec} {W W' : World} {args : Array Value} {ds : List (DataW H)} {before : List MemPlace} (hs : s.vars = [])
    (hW : DataW.Whole enc Try.prog f.params.toList s.vars false W args.toList ds [] before) (hr : f.resultTypes = #[4]) (hres : (s.fn H (ds ++ [])).results = [.lit (.bool true)]) (hargs0 : (s.fn H (ds ++ [])).args = ds) (hvars0 : (s.fn H (ds ++ [])).vars = [])
    (hargs : ∃ pa, DataW.TrodAll enc Try.prog W' 0 (fun b => decide (b < W.heap.size)) true f.params.toList args.toList ds pa) (hb : Below W.heap.size W W') :
    s.post enc Try.prog f false true false false W args (.bool true) W' := by
  obtain ⟨pa, hargs⟩ := hargs
  refine ⟨ds, [], before, [], pa, [], hW, ?_, ?_, ?_, hb.frame _, fun h => by cases h⟩
  · rw [hr, hres]
    exact trodAll_mk1 (shut_bool Try.underlying4 true)
  · rw [hargs0]
    exact hargs
  · rw [hs, hvars0]
    rfl
theorem has_lt {P : Program} {W : World} {r : Reach} {b0 n : Nat} {a : Addr} {e : TypeId} (h : W.has P r b0 a e n) : a.block < W.heap.size := by
  rcases Nat.lt_or_ge a.block W.heap.size with hl | hl
  · exact hl
  · obtain ⟨_, _, row, cells, hs, _⟩ := h
    simp [World.shape?, Array.getElem?_eq_none hl] at hs
theorem cells37 : Try.prog.cellsOf 37 = 2 := by kernel_rfl
theorem cells23 : Try.prog.cellsOf 23 = 2 := by kernel_rfl
theorem cells3 : Try.prog.cellsOf 3 = 1 := by kernel_rfl
theorem rec22 : Try.prog.readableRec 22 = true := by kernel_rfl
theorem row22 : (22 : TypeId) < Try.prog.types.size := of_decide_eq_true (by kernel_rfl)
theorem rec23 : Try.prog.readableRec 23 = true := by kernel_rfl
theorem row23 : (23 : TypeId) < Try.prog.types.size := of_decide_eq_true (by kernel_rfl)
theorem int_open {H : Type} {enc : TypeId × Value → H} {W : World} {sp : Nat → Bool} {n : Nat} {v : Value} {x : DataW H × List MemPlace} (h : DataW.trod enc Try.prog W 0 sp true n 3 [v] = some x) : ∃ z : Int, v = .int .i64 z ∧ x.2 = [] := by
  obtain ⟨z, e0, e1, _⟩ := DataW.trod_int Try.underlying3 h
  injection e0 with e0 _
  subst e0 e1
  exact ⟨z, rfl, rfl⟩
/-- A pair, opened. -/
theorem pair_open {H : Type} {enc : TypeId × Value → H} {W : World} {sp : Nat → Bool} {n : Nat} {cs : List Value} {x : DataW H × List MemPlace} (h : DataW.trod enc Try.prog W 0 sp true n 37 cs = some x) :
    ∃ a b : Int, cs = [.int .i64 a, .int .i64 b] ∧ x.2 = [] := by
  obtain ⟨y0, y1, k, rfl, hl, h0, h1⟩ := trod_struct2 Try.underlying37 h
  rw [cells37] at hl
  rw [cells3] at h0
  rw [cells3] at h1
  match cs, hl with
  | [v0, v1], _ =>
    simp at h0 h1
    obtain ⟨a, rfl, w0⟩ := int_open h0
    obtain ⟨b, rfl, w1⟩ := int_open h1
    exact ⟨a, b, rfl, by simp [w0, w1]⟩
set_option maxRecDepth 100000 in
/-- A list of pairs, opened, and read again. -/
theorem open_pairs {H : Type} {enc : TypeId × Value → H} {W : World} {b0 : Nat} {v : Value} {d : DataW H} {p : List MemPlace} (hok : Value.okWide Try.prog W .any b0 22 v)
    (h : DataW.Trod enc Try.prog W 0 (fun _ => true) true 22 v d p) :
    ∃ A m c L, v = .slice A m c ∧ Pl W A m L ∧ ∀ W', Below W.heap.size W W' → DataW.Trod enc Try.prog W' 0 (fun b => decide (b < W.heap.size)) true 22 v d p := by
  have h0 := h
  obtain ⟨n, h⟩ := h
  rcases Deep.open_slice Try.underlying22 h with ⟨h1, h2⟩ | ⟨a, len, cap, m, n', D, Pq, h1, hb, hl, hm, hmm, hx, hall⟩
  · have hv : v = .slice none 0 0 := by
      cases v <;> simp [Value.cells] at h1 ⊢
      all_goals first | exact h1 | (simp [Value.okWide, Cell.okWide, Cell.ok, Try.underlying22] at hok)
    subst hv
    injection h2 with h2 h3
    subst h2 h3
    exact ⟨none, 0, 0, [], rfl, Pl.nil _, fun W' hbel => Below.trod laidK rec22 row22 h0 hbel (fun x hx => by simp at hx)⟩
  · have hv : v = .slice (some a) len cap := by
      cases v <;> simp [Value.cells] at h1 ⊢
      all_goals first | exact h1 | (simp [Value.okWide, Cell.okWide, Cell.ok, Try.underlying22] at hok)
    subst hv
    have hhas : W.has Try.prog .any b0 a 37 cap := by
      simp only [Value.okWide, Cell.okWide, Cell.ok, Try.underlying22] at hok
      exact hok.2.2
    have hlt := has_lt hhas
    have hmc : m = cap := by simpa using hmm
    subst hmc
    have each : ∀ i, i < m → ∃ q : Int × Int, W.cell? (a.add (i * 2)) = some (.int .i64 q.1) ∧ W.cell? (a.add (i * 2 + 1)) = some (.int .i64 q.2) ∧ Pq i = [] := by
      intro i hi
      obtain ⟨cs', g1, g2⟩ := hall i hi
      rw [cells37] at g1
      obtain ⟨x, y, rfl, hp⟩ := pair_open g2
      obtain ⟨_, _, hc⟩ := World.cells?_some g1
      have c0 := hc 0 (by omega)
      have c1 := hc 1 (by omega)
      rw [Deep.add_add] at c0 c1
      exact ⟨(x, y), by simpa using c0, by simpa using c1, hp⟩
    obtain ⟨q, hq⟩ := Deep.choose_lt each
    have hget : ∀ i, i < len → ((List.range len).map q).getD i (0, 0) = q i := fun i hi => by simp [List.getD, hi]
    refine ⟨some a, len, m, (List.range len).map q, rfl, ⟨by simp, fun i hi => ⟨a, rfl, hlt, ?_, ?_⟩⟩, fun W' hbel => Below.trod laidK rec22 row22 h0 hbel fun x hxp => ?_⟩
    · unfold cd; rw [hget i hi]; exact (hq i (by omega)).1
    · unfold gy; rw [hget i hi]; exact (hq i (by omega)).2.1
    · injection hx with _ hx
      rw [hx] at hxp
      rcases List.mem_append.mp hxp with hr | hr
      · obtain ⟨i, _, rfl⟩ := List.mem_map.mp hr
        exact hlt
      · obtain ⟨i, hi, hr⟩ := List.mem_flatMap.mp hr
        rw [(hq i (List.mem_range.mp hi)).2.2] at hr
        simp at hr
theorem two_open {H : Type} {enc : TypeId × Value → H} {W : World} {sp : Nat → Bool} {n : Nat} {cs : List Value} {x : DataW H × List MemPlace} (h : DataW.trod enc Try.prog W 0 sp true n 23 cs = some x) :
    ∃ a b : Int, cs = [.int .i64 a, .int .i64 b] ∧ x.2 = [] := by
  obtain ⟨xs, m, _, rfl, hl, hx, hi⟩ := DataW.trod_array Try.underlying23 h
  rw [cells23] at hl
  rw [cells3] at hi
  match cs, hl, xs, hx with
  | [v0, v1], _, [y0, y1], _ =>
    have h0 := hi 0 (by omega)
    have h1 := hi 1 (by omega)
    simp at h0 h1
    obtain ⟨a, e0, e1, w0⟩ := DataW.trod_int Try.underlying3 h0
    obtain ⟨b, f0, f1, w1⟩ := DataW.trod_int Try.underlying3 h1
    injection e0 with e0 _
    injection f0 with f0 _
    subst e0 f0 e1 f1
    exact ⟨a, b, rfl, rfl⟩
set_option maxRecDepth 100000 in
/-- An argument of two numbers: opened, and read again. -/
theorem open_two {H : Type} {enc : TypeId × Value → H} {W : World} {b0 : Nat} {v : Value} {d : DataW H} {p : List MemPlace} (hok : Value.okWide Try.prog W .any b0 23 v)
    (h : DataW.Trod enc Try.prog W 0 (fun _ => true) true 23 v d p) :
    ∃ a b : Int, v = .agg #[.int .i64 a, .int .i64 b] ∧ ∀ W', Below W.heap.size W W' → DataW.Trod enc Try.prog W' 0 (fun b => decide (b < W.heap.size)) true 23 v d p := by
  have hok2 : ∃ cs, v = .agg cs ∧ cs.size = Try.prog.cellsOf 23 ∧ Row.okWide Try.prog W .any b0 23 cs := by
    unfold Value.okWide at hok
    rw [Try.underlying23] at hok
    exact hok
  obtain ⟨cs, rfl, hsz, _⟩ := hok2
  have h0 := h
  obtain ⟨n, hn⟩ := h
  rw [cells23] at hsz
  obtain ⟨c0, c1, rfl⟩ := array2 hsz
  obtain ⟨a, b, he, hp⟩ := two_open hn
  have he2 : [c0, c1] = [Value.int .i64 a, .int .i64 b] := by simpa [Value.cells] using he
  injection he2 with e0 e1
  injection e1 with e1 _
  subst e0 e1
  exact ⟨a, b, rfl, fun W' hbel => Below.trod laidK rec23 row23 h0 hbel (fun x hx => by
    have hp2 : p = [] := hp
    rw [hp2] at hx
    simp at hx)⟩
set_option maxRecDepth 100000 in
theorem lifted_back (os : Os) (started : os.Started) (H : Type) (enc : TypeId × Value → H) :
    ReturnsInHanded {} Try.checked os 3 .any (Rows.cmapBackSpec.pre6 enc Try.prog Try.f3 Rows.cmapBackRow.domain false) (Rows.cmapBackSpec.post enc Try.prog Try.f3 false true false false) := by
  refine returnsInHanded_of_change (C := Try.checked) own started (by kernel_rfl) Try.func3
    (ChangeSpec.witness6 (enc := enc) (C := Try.checked) false ⟨#[], #[.slice none 0 0, .bool false, .agg #[.int .i64 0, .int .i64 0]], []⟩ 8 (by kernel_rfl) (by kernel_rfl) (by kernel_rfl) (by kernel_rfl)) ?_
  intro W base args ds gs before hval0 hW hcnd _
  have hval : ∀ (j : Nat) t v, Try.f3.params[j]? = some t → args[j]? = some v → Value.okWide Try.prog W .any base t v := hval0
  have hW' := hW
  obtain ⟨p, q, hA0, hV, rfl, hfz, hnd⟩ := hW
  have hA : DataW.TrodAll enc Try.prog W 0 (fun _ => true) true Try.f3.params.toList args.toList ds p := hA0
  rw [Try.params3] at hA hval
  obtain ⟨v1, v2, v3, d1, d2, d3, p1, p2, p3, rfl, rfl, rfl, h1, h2, h3⟩ := trodAll_three hA
  obtain ⟨rfl, rfl⟩ := trodVars_none hV
  obtain ⟨A, m, c, L, rfl, hP, hr1⟩ := open_pairs (hval 0 22 v1 rfl rfl) h1
  obtain ⟨long, rfl, rfl, rfl⟩ := open_bool Try.underlying4 (hval 1 4 v2 rfl rfl) h2
  obtain ⟨x, y, rfl, hr3⟩ := open_two (hval 2 23 v3 rfl rfl) h3
  clear hA0 hval0
  simp only [List.append_nil] at hW'
  refine (law_back A m c long x y L W hP).mono fun e W' ⟨he2, hw⟩ => ?_
  subst he2
  exact ⟨_, rfl, post_true (ds := [_, _, _]) rfl hW' (by kernel_rfl) rfl rfl rfl ⟨_, trodAll_mk3 (hr1 W' hw) (shut_bool Try.underlying4 long) (hr3 W' hw)⟩ hw⟩
theorem cmapBack_holds : Rows.CmapBackSaid :=
  OpenClaim.holds_of_wide 3 Try.f3 rfl rfl rfl rfl rfl rfl rfl ⟨rfl, rfl, rfl, rfl, rfl⟩ rfl rfl rfl rfl rfl (by kernel_rfl) Try.func3 (by kernel_rfl)
    (of_decide_eq_true (by kernel_rfl)) (by unfold Func.isWrapper; first | (rw [if_pos (by decide +kernel)]; kernel_rfl) | (rw [if_neg (by decide +kernel)]; exact ⟨rfl, rfl⟩))
    (fun os started H enc _ => lifted_back os started H enc)
#print axioms cmapBack_holds
set_option maxRecDepth 100000 in
theorem lifted_kinds (os : Os) (started : os.Started) (H : Type) (enc : TypeId × Value → H) :
    ReturnsInHanded {} Try.checked os 4 .any (Rows.cmapKindsSpec.pre6 enc Try.prog Try.f4 Rows.cmapKindsRow.domain false) (Rows.cmapKindsSpec.post enc Try.prog Try.f4 false true false false) := by
  refine returnsInHanded_of_change (C := Try.checked) own started (by kernel_rfl) Try.func4
    (ChangeSpec.witness6 (enc := enc) (C := Try.checked) false ⟨#[], #[.slice none 0 0], []⟩ 8 (by kernel_rfl) (by kernel_rfl) (by kernel_rfl) (by kernel_rfl)) ?_
  intro W base args ds gs before hval0 hW hcnd _
  have hval : ∀ (j : Nat) t v, Try.f4.params[j]? = some t → args[j]? = some v → Value.okWide Try.prog W .any base t v := hval0
  have hW' := hW
  obtain ⟨p, q, hA0, hV, rfl, hfz, hnd⟩ := hW
  have hA : DataW.TrodAll enc Try.prog W 0 (fun _ => true) true Try.f4.params.toList args.toList ds p := hA0
  rw [Try.params4] at hA hval
  obtain ⟨v1, d1, rfl, rfl, h1⟩ := trodAll_one hA
  obtain ⟨rfl, rfl⟩ := trodVars_none hV
  obtain ⟨A, m, c, L, rfl, hP, hr1⟩ := open_pairs (hval 0 22 v1 rfl rfl) h1
  clear hA0 hval0
  simp only [List.append_nil] at hW'
  refine (law_kinds A m c L W hP).mono fun e W' ⟨he2, hw⟩ => ?_
  subst he2
  exact ⟨_, rfl, post_true (ds := [_]) rfl hW' (by kernel_rfl) rfl rfl rfl ⟨_, trodAll_mk1 (hr1 W' hw)⟩ hw⟩
theorem cmapKinds_holds : Rows.CmapKindsSaid :=
  OpenClaim.holds_of_wide 4 Try.f4 rfl rfl rfl rfl rfl rfl rfl ⟨rfl, rfl, rfl, rfl, rfl⟩ rfl rfl rfl rfl rfl (by kernel_rfl) Try.func4 (by kernel_rfl)
    (of_decide_eq_true (by kernel_rfl)) (by unfold Func.isWrapper; first | (rw [if_pos (by decide +kernel)]; kernel_rfl) | (rw [if_neg (by decide +kernel)]; exact ⟨rfl, rfl⟩))
    (fun os started H enc _ => lifted_kinds os started H enc)
#print axioms cmapKinds_holds
end Go.Proofs.Ytbmpdpajnmjfpaa
