/- Proved here: CompBack, CompAny and CompMoves as given: parts that may be make the document's bytes and are parsed again; what any bytes tell, and what becomes of any point of any part, is the document's. No condition of our own. -/
import Derived.Test.YtbmeamhpmahlgaaXb
import Derived.Test.YtbmeamhpmahlgaaRows
import Derived.ProofKit
import Derived.OpenShut
import Derived.ReadAgain
import Derived.ChangeSlices
import Derived.ChangeMaps5
import Derived.Lib.SmallJoins
import Derived.Deep.Slices
import Derived.Carry
namespace Go.Proofs.Ytbmeamhpmahlgaa
open Go.ChangeShapes Go.WideShapes Go.ChangeAt Go.RowKit Go.Joins

theorem own : ownKnob Try.prog.godebug = none := by kernel_rfl
/-- The end of a call that returns true and turns nothing that was there. -/
theorem post_true {H : Type} {enc : TypeId × Value → H} {f : Func} {s : ChangeSpec} {W W' : World} {args : Array Value} {ds : List (DataW H)} {before : List MemPlace} (hs : s.vars = [])
    (hW : DataW.Whole enc Try.prog f.params.toList s.vars false W args.toList ds [] before) (hr : f.resultTypes = #[4]) (hres : (s.fn H (ds ++ [])).results = [.lit (.bool true)]) (hargs0 : (s.fn H (ds ++ [])).args = ds) (hvars0 : (s.fn H (ds ++ [])).vars = [])
    (hargs : ∃ pa, DataW.TrodAll enc Try.prog W' 0 (fun b => decide (b < W.heap.size)) true f.params.toList args.toList ds pa) (hb : Below W.heap.size W W') :
    s.post enc Try.prog f false true false false W args (.bool true) W' := by
  obtain ⟨pa, hargs⟩ := hargs
  refine ⟨ds, [], before, [], pa, [], hW, ?_, ?_, ?_, hb.frame _, fun h => by cases h⟩
  · rw [hr, hres]
    exact trodAll_mk1 (shut_bool Try.underlying4 true)
  · rw [hargs0]
    exact hargs
  · rw [hs, hvars0]
    rfl
theorem has_lt {P : Program} {W : World} {r : Reach} {b0 n : Nat} {a : Addr} {e : TypeId} (h : W.has P r b0 a e n) : a.block < W.heap.size := by
  rcases Nat.lt_or_ge a.block W.heap.size with hl | hl
  · exact hl
  · obtain ⟨_, _, row, cells, hs, _⟩ := h
    simp [World.shape?, Array.getElem?_eq_none hl] at hs
theorem laidK : laidOutB Try.prog = true := by kernel_rfl
theorem cells38 : Try.prog.cellsOf 38 = 7 := by kernel_rfl
theorem cells3 : Try.prog.cellsOf 3 = 1 := by kernel_rfl
theorem rec22 : Try.prog.readableRec 22 = true := by kernel_rfl
theorem row22 : (22 : TypeId) < Try.prog.types.size := of_decide_eq_true (by kernel_rfl)
theorem rec38 : Try.prog.readableRec 38 = true := by kernel_rfl
theorem row38 : (38 : TypeId) < Try.prog.types.size := of_decide_eq_true (by kernel_rfl)
theorem array7 {α : Type} {cs : Array α} (h : cs.size = 7) : ∃ c0 c1 c2 c3 c4 c5 c6, cs = #[c0, c1, c2, c3, c4, c5, c6] := by
  obtain ⟨l⟩ := cs
  match l, h with
  | [c0, c1, c2, c3, c4, c5, c6], _ => exact ⟨c0, c1, c2, c3, c4, c5, c6, rfl⟩
theorem list7 {α : Type} {l : List α} (h : l.length = 7) : ∃ c0 c1 c2 c3 c4 c5 c6, l = [c0, c1, c2, c3, c4, c5, c6] := by
  match l, h with
  | [c0, c1, c2, c3, c4, c5, c6], _ => exact ⟨c0, c1, c2, c3, c4, c5, c6, rfl⟩
theorem int_open {H : Type} {enc : TypeId × Value → H} {W : World} {sp : Nat → Bool} {n : Nat} {v : Value} {x : DataW H × List MemPlace} (h : DataW.trod enc Try.prog W 0 sp true n 3 [v] = some x) : ∃ z : Int, v = .int .i64 z ∧ x.2 = [] := by
  obtain ⟨z, e0, e1, _⟩ := DataW.trod_int Try.underlying3 h
  injection e0 with e0 _
  subst e0 e1
  exact ⟨z, rfl, rfl⟩
/-- An argument that is a number of 64 bits: opened, and read again. -/
theorem open_int {H : Type} {enc : TypeId × Value → H} {W : World} {b0 : Nat} {v : Value} {d : DataW H} {p : List MemPlace} (hok : Value.okWide Try.prog W .any b0 3 v)
    (h : DataW.Trod enc Try.prog W 0 (fun _ => true) true 3 v d p) :
    ∃ x : Int, v = .int .i64 x ∧ -9223372036854775808 ≤ x ∧ x ≤ 9223372036854775807 ∧ ∀ (W' : World) (sp : Nat → Bool), DataW.Trod enc Try.prog W' 0 sp true 3 v d p := by
  obtain ⟨k, hk⟩ := h
  obtain ⟨x, e0, e1, wx⟩ := DataW.trod_int Try.underlying3 hk
  have hv2 : v = .int .i64 x := by
    cases v <;> simp [Value.cells] at e0 ⊢
    all_goals first | exact e0 | (simp [Value.okWide, Cell.okWide, Cell.ok, Try.underlying3] at hok)
  subst hv2
  injection e1 with e1 e2
  subst e1 e2
  have hb := bounds_i64 wx
  exact ⟨x, rfl, hb.1, hb.2, fun W' sp => ⟨1, by simp [Value.cells, DataW.trod, Try.underlying3, wx]⟩⟩
/-- A part, opened. -/
theorem part_open {H : Type} {enc : TypeId × Value → H} {W : World} {sp : Nat → Bool} {n : Nat} {cs : List Value} {x : DataW H × List MemPlace} (h : DataW.trod enc Try.prog W 0 sp true n 38 cs = some x) :
    ∃ q : Prt, cs = prC q ∧ x.2 = [] := by
  obtain ⟨xs, n, _, hx, hcl, hlen, hg⟩ := DataW.trod_struct Try.underlying38 h
  rw [cells38] at hcl
  obtain ⟨c0, c1, c2, c3, c4, c5, c6, rfl⟩ := list7 hcl
  obtain ⟨y0, y1, y2, y3, y4, y5, y6, rfl⟩ := list7 (hlen.trans rfl)
  have g0 := hg 0 _ rfl
  have g1 := hg 1 _ rfl
  have g2 := hg 2 _ rfl
  have g3 := hg 3 _ rfl
  have g4 := hg 4 _ rfl
  have g5 := hg 5 _ rfl
  have g6 := hg 6 _ rfl
  simp [cells3] at g0 g1 g2 g3 g4 g5 g6
  obtain ⟨z0, rfl, p0⟩ := int_open g0
  obtain ⟨z1, rfl, p1⟩ := int_open g1
  obtain ⟨z2, rfl, p2⟩ := int_open g2
  obtain ⟨z3, rfl, p3⟩ := int_open g3
  obtain ⟨z4, rfl, p4⟩ := int_open g4
  obtain ⟨z5, rfl, p5⟩ := int_open g5
  obtain ⟨z6, rfl, p6⟩ := int_open g6
  exact ⟨(z0, z1, z2, z3, z4, z5, z6), rfl, by rw [hx]; simp [p0, p1, p2, p3, p4, p5, p6]⟩
set_option maxRecDepth 100000 in
/-- A part as an argument: opened, and read again. -/
theorem open_part {H : Type} {enc : TypeId × Value → H} {W : World} {b0 : Nat} {v : Value} {d : DataW H} {p : List MemPlace} (hok : Value.okWide Try.prog W .any b0 38 v)
    (h : DataW.Trod enc Try.prog W 0 (fun _ => true) true 38 v d p) :
    ∃ g x y a b c e : Int, v = .agg #[.int .i64 g, .int .i64 x, .int .i64 y, .int .i64 a, .int .i64 b, .int .i64 c, .int .i64 e] ∧ ∀ W', Below W.heap.size W W' → DataW.Trod enc Try.prog W' 0 (fun b => decide (b < W.heap.size)) true 38 v d p := by
  have h0 := h
  obtain ⟨cs, rfl, hsz⟩ := okWide_struct Try.underlying38 hok
  obtain ⟨c0, c1, c2, c3, c4, c5, c6, rfl⟩ := array7 (hsz.trans cells38)
  obtain ⟨fuel, hf⟩ := h
  obtain ⟨q, hq, hp⟩ := part_open hf
  have hq : [c0, c1, c2, c3, c4, c5, c6] = prC q := by simpa [Value.cells] using hq
  unfold prC at hq
  injection hq with e0 hq
  injection hq with e1 hq
  injection hq with e2 hq
  injection hq with e3 hq
  injection hq with e4 hq
  injection hq with e5 hq
  injection hq with e6 hq
  subst e0 e1 e2 e3 e4 e5 e6
  have hp : p = [] := hp
  exact ⟨_, _, _, _, _, _, _, rfl, fun W' hbel => Below.trod laidK rec38 row38 h0 hbel (fun x hx => by rw [hp] at hx; simp at hx)⟩
set_option maxRecDepth 100000 in
/-- A list of parts, opened, and read again. -/
theorem open_parts {H : Type} {enc : TypeId × Value → H} {W : World} {b0 : Nat} {v : Value} {d : DataW H} {p : List MemPlace} (hok : Value.okWide Try.prog W .any b0 22 v)
    (h : DataW.Trod enc Try.prog W 0 (fun _ => true) true 22 v d p) :
    ∃ A m c L, v = .slice A m c ∧ Prl W A m L ∧ ∀ W', Below W.heap.size W W' → DataW.Trod enc Try.prog W' 0 (fun b => decide (b < W.heap.size)) true 22 v d p := by
  have h0 := h
  obtain ⟨n, h⟩ := h
  rcases Deep.open_slice Try.underlying22 h with ⟨h1, h2⟩ | ⟨a, len, cap, m, n', D, Pq, h1, hb, hl, hm, hmm, hx, hall⟩
  · have hv : v = .slice none 0 0 := by
      cases v <;> simp [Value.cells] at h1 ⊢
      all_goals first | exact h1 | (simp [Value.okWide, Cell.okWide, Cell.ok, Try.underlying22] at hok)
    subst hv
    injection h2 with h2 h3
    subst h2 h3
    exact ⟨none, 0, 0, [], rfl, Prl.nil _, fun W' hbel => Below.trod laidK rec22 row22 h0 hbel (fun x hx => by simp at hx)⟩
  · have hv : v = .slice (some a) len cap := by
      cases v <;> simp [Value.cells] at h1 ⊢
      all_goals first | exact h1 | (simp [Value.okWide, Cell.okWide, Cell.ok, Try.underlying22] at hok)
    subst hv
    have hhas : W.has Try.prog .any b0 a 38 cap := by
      simp only [Value.okWide, Cell.okWide, Cell.ok, Try.underlying22] at hok
      exact hok.2.2
    have hlt := has_lt hhas
    have hmc : m = cap := by simpa using hmm
    subst hmc
    have each : ∀ i, i < m → ∃ q : Prt, (∀ j u, (prC q)[j]? = some u → W.cell? (a.add (i * 7 + j)) = some u) ∧ Pq i = [] := by
      intro i hi
      obtain ⟨cs', g1, g2⟩ := hall i hi
      rw [cells38] at g1
      obtain ⟨q, rfl, hp⟩ := part_open g2
      obtain ⟨_, _, hc⟩ := World.cells?_some g1
      refine ⟨q, fun j u hu => ?_, hp⟩
      have hj : j < 7 := by
        rcases Nat.lt_or_ge j 7 with hl | hl
        · exact hl
        · rw [List.getElem?_eq_none (by show 7 ≤ j; omega)] at hu; cases hu
      have c0 := hc j hj
      rw [Deep.add_add] at c0
      rw [c0]
      exact hu
    obtain ⟨q, hq⟩ := Deep.choose_lt each
    have hget : ∀ i, i < len → qp ((List.range len).map q) i = q i := fun i hi => by simp [qp, List.getD, hi]
    refine ⟨some a, len, m, (List.range len).map q, rfl, ⟨by simp, fun i hi => ⟨a, rfl, hlt, fun j u hu => ?_⟩⟩, fun W' hbel => Below.trod laidK rec22 row22 h0 hbel fun x hxp => ?_⟩
    · rw [hget i hi] at hu
      exact (hq i (by omega)).1 j u hu
    · injection hx with _ hx
      rw [hx] at hxp
      rcases List.mem_append.mp hxp with hr | hr
      · obtain ⟨i, _, rfl⟩ := List.mem_map.mp hr
        exact hlt
      · obtain ⟨i, hi, hr⟩ := List.mem_flatMap.mp hr
        rw [(hq i (List.mem_range.mp hi)).2] at hr
        simp at hr
set_option maxRecDepth 100000 in
theorem lifted_back (os : Os) (started : os.Started) (H : Type) (enc : TypeId × Value → H) :
    ReturnsInHanded {} Try.checked os 3 .any (Rows.compBackSpec.pre6 enc Try.prog Try.f3 Rows.compBackRow.domain false) (Rows.compBackSpec.post enc Try.prog Try.f3 false true false false) := by
  refine returnsInHanded_of_change (C := Try.checked) own started (by kernel_rfl) Try.func3
    (ChangeSpec.witness6 (enc := enc) (C := Try.checked) false ⟨#[], #[.slice none 0 0, .int .i64 0], []⟩ 8 (by kernel_rfl) (by kernel_rfl) (by kernel_rfl) (by kernel_rfl)) ?_
  intro W base args ds gs before hval0 hW hcnd _
  have hval : ∀ (j : Nat) t v, Try.f3.params[j]? = some t → args[j]? = some v → Value.okWide Try.prog W .any base t v := hval0
  have hW' := hW
  obtain ⟨p, q, hA0, hV, rfl, hfz, hnd⟩ := hW
  have hA : DataW.TrodAll enc Try.prog W 0 (fun _ => true) true Try.f3.params.toList args.toList ds p := hA0
  rw [Try.params3] at hA hval
  obtain ⟨v1, v2, d1, d2, p1, p2, rfl, rfl, rfl, h1, h2⟩ := trodAll_two hA
  obtain ⟨rfl, rfl⟩ := trodVars_none hV
  obtain ⟨A, m, c, L, rfl, hP, hr1⟩ := open_parts (hval 0 22 v1 rfl rfl) h1
  obtain ⟨G, rfl, _, _, hr2⟩ := open_int (hval 1 3 v2 rfl rfl) h2
  clear hA0 hval0
  simp only [List.append_nil] at hW'
  refine (law_back A m c L G W hP).mono fun e W' ⟨he2, hw⟩ => ?_
  subst he2
  exact ⟨_, rfl, post_true (ds := [_, _]) rfl hW' (by kernel_rfl) rfl rfl rfl ⟨_, trodAll_mk2 (hr1 W' hw) (hr2 W' _)⟩ hw⟩
theorem compBack_holds : Rows.CompBackSaid :=
  OpenClaim.holds_of_wide 3 Try.f3 rfl rfl rfl rfl rfl rfl rfl ⟨rfl, rfl, rfl, rfl, rfl⟩ rfl rfl rfl rfl rfl (by kernel_rfl) Try.func3 (by kernel_rfl)
    (of_decide_eq_true (by kernel_rfl)) (by unfold Func.isWrapper; first | (rw [if_pos (by decide +kernel)]; kernel_rfl) | (rw [if_neg (by decide +kernel)]; exact ⟨rfl, rfl⟩))
    (fun os started H enc _ => lifted_back os started H enc)
#print axioms compBack_holds
set_option maxRecDepth 100000 in
theorem lifted_any (os : Os) (started : os.Started) (H : Type) (enc : TypeId × Value → H) :
    ReturnsInHanded {} Try.checked os 4 .any (Rows.compAnySpec.pre6 enc Try.prog Try.f4 Rows.compAnyRow.domain false) (Rows.compAnySpec.post enc Try.prog Try.f4 false true false false) := by
  refine returnsInHanded_of_change (C := Try.checked) own started (by kernel_rfl) Try.func4
    (ChangeSpec.witness6 (enc := enc) (C := Try.checked) false ⟨#[], #[.string ⟨#[]⟩, .int .i64 0], []⟩ 8 (by kernel_rfl) (by kernel_rfl) (by kernel_rfl) (by kernel_rfl)) ?_
  intro W base args ds gs before hval0 hW hcnd _
  have hval : ∀ (j : Nat) t v, Try.f4.params[j]? = some t → args[j]? = some v → Value.okWide Try.prog W .any base t v := hval0
  have hW' := hW
  obtain ⟨p, q, hA0, hV, rfl, hfz, hnd⟩ := hW
  have hA : DataW.TrodAll enc Try.prog W 0 (fun _ => true) true Try.f4.params.toList args.toList ds p := hA0
  rw [Try.params4] at hA hval
  obtain ⟨v1, v2, d1, d2, p1, p2, rfl, rfl, rfl, h1, h2⟩ := trodAll_two hA
  obtain ⟨rfl, rfl⟩ := trodVars_none hV
  obtain ⟨s, rfl, rfl, rfl, hs⟩ := Go.ChangeMaps.open_string Try.underlying9 (hval 0 9 v1 rfl rfl) h1
  obtain ⟨G, rfl, _, _, hr2⟩ := open_int (hval 1 3 v2 rfl rfl) h2
  clear hA0 hval0
  simp only [List.append_nil] at hW'
  refine (law_any s G W).mono fun e W' ⟨he2, hw⟩ => ?_
  subst he2
  exact ⟨_, rfl, post_true (ds := [_, _]) rfl hW' (by kernel_rfl) rfl rfl rfl ⟨_, trodAll_mk2 (Go.ChangeMaps.shut_string Try.underlying9 hs) (hr2 W' _)⟩ hw⟩
theorem compAny_holds : Rows.CompAnySaid :=
  OpenClaim.holds_of_wide 4 Try.f4 rfl rfl rfl rfl rfl rfl rfl ⟨rfl, rfl, rfl, rfl, rfl⟩ rfl rfl rfl rfl rfl (by kernel_rfl) Try.func4 (by kernel_rfl)
    (of_decide_eq_true (by kernel_rfl)) (by unfold Func.isWrapper; first | (rw [if_pos (by decide +kernel)]; kernel_rfl) | (rw [if_neg (by decide +kernel)]; exact ⟨rfl, rfl⟩))
    (fun os started H enc _ => lifted_any os started H enc)
#print axioms compAny_holds
set_option maxRecDepth 100000 in
theorem lifted_moves (os : Os) (started : os.Started) (H : Type) (enc : TypeId × Value → H) :
    ReturnsInHanded {} Try.checked os 5 .any (Rows.compMovesSpec.pre6 enc Try.prog Try.f5 Rows.compMovesRow.domain false) (Rows.compMovesSpec.post enc Try.prog Try.f5 false true false false) := by
  refine returnsInHanded_of_change (C := Try.checked) own started (by kernel_rfl) Try.func5
    (ChangeSpec.witness6 (enc := enc) (C := Try.checked) false ⟨#[], #[.agg #[.int .i64 0, .int .i64 0, .int .i64 0, .int .i64 0, .int .i64 0, .int .i64 0, .int .i64 0], .int .i64 0, .int .i64 0], []⟩ 8 (by kernel_rfl) (by kernel_rfl) (by kernel_rfl) (by kernel_rfl)) ?_
  intro W base args ds gs before hval0 hW hcnd _
  have hval : ∀ (j : Nat) t v, Try.f5.params[j]? = some t → args[j]? = some v → Value.okWide Try.prog W .any base t v := hval0
  have hW' := hW
  obtain ⟨p, q, hA0, hV, rfl, hfz, hnd⟩ := hW
  have hA : DataW.TrodAll enc Try.prog W 0 (fun _ => true) true Try.f5.params.toList args.toList ds p := hA0
  rw [Try.params5] at hA hval
  obtain ⟨v1, v2, v3, d1, d2, d3, p1, p2, p3, rfl, rfl, rfl, h1, h2, h3⟩ := trodAll_three hA
  obtain ⟨rfl, rfl⟩ := trodVars_none hV
  obtain ⟨g, dx, dy, a, b, c, e, rfl, hr1⟩ := open_part (hval 0 38 v1 rfl rfl) h1
  obtain ⟨x, rfl, _, _, hr2⟩ := open_int (hval 1 3 v2 rfl rfl) h2
  obtain ⟨y, rfl, _, _, hr3⟩ := open_int (hval 2 3 v3 rfl rfl) h3
  clear hA0 hval0
  simp only [List.append_nil] at hW'
  refine (law_moves g dx dy a b c e x y W).mono fun e W' ⟨he2, hw⟩ => ?_
  subst he2
  exact ⟨_, rfl, post_true (ds := [_, _, _]) rfl hW' (by kernel_rfl) rfl rfl rfl ⟨_, trodAll_mk3 (hr1 W' hw) (hr2 W' _) (hr3 W' _)⟩ hw⟩
theorem compMoves_holds : Rows.CompMovesSaid :=
  OpenClaim.holds_of_wide 5 Try.f5 rfl rfl rfl rfl rfl rfl rfl ⟨rfl, rfl, rfl, rfl, rfl⟩ rfl rfl rfl rfl rfl (by kernel_rfl) Try.func5 (by kernel_rfl)
    (of_decide_eq_true (by kernel_rfl)) (by unfold Func.isWrapper; first | (rw [if_pos (by decide +kernel)]; kernel_rfl) | (rw [if_neg (by decide +kernel)]; exact ⟨rfl, rfl⟩))
    (fun os started H enc _ => lifted_moves os started H enc)
#print axioms compMoves_holds
end Go.Proofs.Ytbmeamhpmahlgaa
