/- Proved here: GlyfBack, GlyfAny and GlyfBounds as given: contours that may be make the document's bytes, and are parsed again, others make none; of any bytes the contours, or the error that is met first, are the document's, and what is parsed may be; which contours may be is the document's answer. No condition of our own. -/
import Derived.Test.YtcpphbogadjgfaaWc
import Derived.Test.YtcpphbogadjgfaaRows
import Derived.ProofKit
import Derived.OpenShut
import Derived.ReadAgain
import Derived.ChangeSlices
import Derived.ChangeMaps5
import Derived.Lib.SmallJoins
import Derived.Deep.Slices
import Derived.Deep.Strs
import Derived.ChangeOld
import Derived.Carry
namespace Go.Proofs.Ytcpphbogadjgfaa
open Go.ChangeShapes Go.WideShapes Go.ChangeAt Go.RowKit Go.Joins

theorem laidK : laidOutB Try.prog = true := by kernel_rfl
theorem own : ownKnob Try.prog.godebug = none := by kernel_rfl
/-- The end of a call that returns true and turns nothing that was there. -/
theorem post_true {H : Type} {enc : TypeId × Value → H} {f : Func} {s : ChangeSpec} {W W' : World} {args : Array Value} {ds : List (DataW H)} {before : List MemPlace} (hs : s.vars = [])
    (hW : DataW.Whole enc Try.prog f.params.toList s.vars false W args.toList ds [] before) (hr : f.resultTypes = #[4]) (hres : (s.fn H (ds ++ [])).results = [.lit (.bool true)]) (hargs0 : (s.fn H (ds ++ [])).args = ds) (hvars0 : (s.fn H (ds ++ [])).vars = [])
    (hargs : ∃ pa, DataW.TrodAll enc Try.prog W' 0 (fun b => decide (b < W.heap.size)) true f.params.toList args.toList ds pa) (hb : Below W.heap.size W W') :
    s.post enc Try.prog f false true false false W args (.bool true) W' := by
  obtain ⟨pa, hargs⟩ := hargs
  refine ⟨ds, [], before, [], pa, [], hW, ?_, ?_, ?_, hb.frame _, fun h => by cases h⟩
  · rw [hr, hres]
    exact trodAll_mk1 (shut_bool Try.underlying4 true)
  · rw [hargs0]
    exact hargs
  · rw [hs, hvars0]
    rfl
theorem cells36 : Try.prog.cellsOf 36 = 1 := by kernel_rfl
theorem cells39 : Try.prog.cellsOf 39 = 3 := by kernel_rfl
theorem cells3 : Try.prog.cellsOf 3 = 1 := by kernel_rfl
theorem cells4 : Try.prog.cellsOf 4 = 1 := by kernel_rfl
theorem rec22 : Try.prog.readableRec 22 = true := by kernel_rfl
theorem row22 : (22 : TypeId) < Try.prog.types.size := of_decide_eq_true (by kernel_rfl)
theorem rec36 : Try.prog.readableRec 36 = true := by kernel_rfl
theorem row36 : (36 : TypeId) < Try.prog.types.size := of_decide_eq_true (by kernel_rfl)
theorem rec39 : Try.prog.readableRec 39 = true := by kernel_rfl
theorem row39 : (39 : TypeId) < Try.prog.types.size := of_decide_eq_true (by kernel_rfl)
theorem int_open {H : Type} {enc : TypeId × Value → H} {W : World} {sp : Nat → Bool} {n : Nat} {v : Value} {x : DataW H × List MemPlace} (h : DataW.trod enc Try.prog W 0 sp true n 3 [v] = some x) : ∃ z : Int, v = .int .i64 z := by
  obtain ⟨z, e0, e1, _⟩ := DataW.trod_int Try.underlying3 h
  injection e0 with e0 _
  exact ⟨z, e0⟩
theorem bool_open {H : Type} {enc : TypeId × Value → H} {W : World} {sp : Nat → Bool} {n : Nat} {v : Value} {x : DataW H × List MemPlace} (h : DataW.trod enc Try.prog W 0 sp true n 4 [v] = some x) : ∃ z : Bool, v = .bool z := by
  obtain ⟨z, e0, e1⟩ := DataW.trod_bool Try.underlying4 h
  injection e0 with e0 _
  exact ⟨z, e0⟩
/-- A point, opened. -/
theorem pt_open {H : Type} {enc : TypeId × Value → H} {W : World} {sp : Nat → Bool} {n : Nat} {cs : List Value} {x : DataW H × List MemPlace} (h : DataW.trod enc Try.prog W 0 sp true n 39 cs = some x) :
    ∃ (a b : Int) (o : Bool), cs = [.int .i64 a, .int .i64 b, .bool o] := by
  obtain ⟨y0, y1, y2, k, _, hl, h0, h1, h2⟩ := Deep.trod_struct3 Try.underlying39 h
  rw [cells39] at hl
  rw [cells3] at h0 h1
  rw [cells4] at h2
  match cs, hl with
  | [v0, v1, v2], _ =>
    simp at h0 h1 h2
    obtain ⟨a, rfl⟩ := int_open h0
    obtain ⟨b, rfl⟩ := int_open h1
    obtain ⟨o, rfl⟩ := bool_open h2
    exact ⟨a, b, o, rfl⟩
/-- A list of points, read. -/
theorem pts_read {H : Type} {enc : TypeId × Value → H} {W : World} {sp : Nat → Bool} {n : Nat} {cs : List Value} {x : DataW H × List MemPlace} (h : DataW.trod enc Try.prog W 0 sp true n 36 cs = some x) :
    ∃ A m c L, cs = [.slice A m c] ∧ Ptl W A m L ∧ m ≤ 9223372036854775807 := by
  rcases Deep.open_slice Try.underlying36 h with ⟨h1, _⟩ | ⟨a, len, cap, m, n', D, Pq, h1, hb, hl, hm, hmm, _, hall⟩
  · exact ⟨none, 0, 0, [], h1, Ptl.nil _, by omega⟩
  · have hml : len ≤ m := by rw [hmm]; split <;> omega
    have each : ∀ i, i < m → ∃ q : Pt, W.cell? (a.add (i * 3)) = some (.int .i64 q.1) ∧ W.cell? (a.add (i * 3 + 1)) = some (.int .i64 q.2.1) ∧ W.cell? (a.add (i * 3 + 2)) = some (.bool q.2.2) := by
      intro i hi
      obtain ⟨cs', g1, g2⟩ := hall i hi
      rw [cells39] at g1
      obtain ⟨x, y, o, rfl⟩ := pt_open g2
      obtain ⟨_, _, hc⟩ := World.cells?_some g1
      have c0 := hc 0 (by omega)
      have c1 := hc 1 (by omega)
      have c2 := hc 2 (by omega)
      rw [Deep.add_add] at c0 c1 c2
      exact ⟨(x, y, o), by simpa using c0, by simpa using c1, by simpa using c2⟩
    obtain ⟨q, hq⟩ := Deep.choose_lt each
    refine ⟨some a, len, cap, (List.range len).map q, h1, ⟨by simp, fun i hi => ?_⟩, by unfold maxLen at hm; omega⟩
    obtain ⟨q1, q2, q3⟩ := hq i (by omega)
    obtain ⟨e1, e2, e3⟩ := px_gen (P := q) hi
    have hlt := World.block_lt_of_cell? _ _ q1
    rw [block_of_add] at hlt
    exact ⟨a, rfl, hlt, by rw [e1]; exact q1, by rw [e2]; exact q2, by rw [e3]; exact q3⟩
set_option maxRecDepth 100000 in
/-- A list of contours, opened, and read again. -/
theorem open_cts {H : Type} {enc : TypeId × Value → H} {W : World} {b0 : Nat} {v : Value} {d : DataW H} {p : List MemPlace} (hok : Value.okWide Try.prog W .any b0 22 v)
    (h : DataW.Trod enc Try.prog W 0 (fun _ => true) true 22 v d p) :
    ∃ A m c LL, v = .slice A m c ∧ Ctl W A m LL ∧ m < 9223372036854775808 ∧ ∀ W', Below W.heap.size W W' → DataW.Trod enc Try.prog W' 0 (fun b => decide (b < W.heap.size)) true 22 v d p := by
  have h0 := h
  obtain ⟨n, h⟩ := h
  have hagain : ∀ W', Below W.heap.size W W' → DataW.Trod enc Try.prog W' 0 (fun b => decide (b < W.heap.size)) true 22 v d p := fun W' hbel =>
    Below.trod laidK rec22 row22 h0 hbel (fun x hx => DataW.trod_lt _ _ _ _ h x hx)
  rcases Deep.open_slice1 Try.underlying22 cells36 h with ⟨h1, _⟩ | ⟨a, len, cap, m, n', V, D, Pq, h1, hb, hl, hm, hmm, _, hall⟩
  · have hv : v = .slice none 0 0 := by
      cases v <;> simp [Value.cells] at h1 ⊢
      all_goals first | exact h1 | (simp [Value.okWide, Cell.okWide, Cell.ok, Try.underlying22] at hok)
    subst hv
    exact ⟨none, 0, 0, [], rfl, Ctl.nil _, by omega, hagain⟩
  · have hv : v = .slice (some a) len cap := by
      cases v <;> simp [Value.cells] at h1 ⊢
      all_goals first | exact h1 | (simp [Value.okWide, Cell.okWide, Cell.ok, Try.underlying22] at hok)
    subst hv
    have hml : len ≤ m := by rw [hmm]; split <;> omega
    have each : ∀ i, i < m → ∃ L : List Pt, ∃ B c, W.cell? (a.add i) = some (.slice B L.length c) ∧ Ptl W B L.length L := by
      intro i hi
      obtain ⟨g1, g2⟩ := hall i hi
      obtain ⟨B, k, c, L, e, hp, _⟩ := pts_read g2
      injection e with e _
      rw [e] at g1
      have hk := hp.len
      exact ⟨L, B, c, by rw [hk]; exact g1, by rw [hk]; exact hp⟩
    obtain ⟨q, hq⟩ := Deep.choose_lt each
    refine ⟨some a, len, cap, (List.range len).map q, rfl, ⟨by simp, fun i hi => ?_⟩, by unfold maxLen at hm; omega, hagain⟩
    obtain ⟨B, c, q1, q2⟩ := hq i (by omega)
    have hlt := World.block_lt_of_cell? _ _ q1
    rw [block_of_add] at hlt
    rw [ct_gen hi]
    exact ⟨a, B, c, rfl, hlt, q1, q2⟩
set_option maxRecDepth 100000 in
/-- A contour, opened, and read again. -/
theorem open_pts {H : Type} {enc : TypeId × Value → H} {W : World} {b0 : Nat} {v : Value} {d : DataW H} {p : List MemPlace} (hok : Value.okWide Try.prog W .any b0 36 v)
    (h : DataW.Trod enc Try.prog W 0 (fun _ => true) true 36 v d p) :
    ∃ A m c L, v = .slice A m c ∧ Ptl W A m L ∧ ∀ W', Below W.heap.size W W' → DataW.Trod enc Try.prog W' 0 (fun b => decide (b < W.heap.size)) true 36 v d p := by
  have h0 := h
  obtain ⟨n, h⟩ := h
  have hagain : ∀ W', Below W.heap.size W W' → DataW.Trod enc Try.prog W' 0 (fun b => decide (b < W.heap.size)) true 36 v d p := fun W' hbel =>
    Below.trod laidK rec36 row36 h0 hbel (fun x hx => DataW.trod_lt _ _ _ _ h x hx)
  obtain ⟨A, m, c, L, h1, hp, _⟩ := pts_read h
  have hv : v = .slice A m c := by
    cases v <;> simp [Value.cells] at h1 ⊢
    all_goals first | exact h1 | (simp [Value.okWide, Cell.okWide, Cell.ok, Try.underlying36] at hok)
  subst hv
  exact ⟨A, m, c, L, rfl, hp, hagain⟩
theorem array3 {α : Type} {cs : Array α} (h : cs.size = 3) : ∃ c0 c1 c2, cs = #[c0, c1, c2] := by
  obtain ⟨l⟩ := cs
  match l, h with
  | [c0, c1, c2], _ => exact ⟨c0, c1, c2, rfl⟩
set_option maxRecDepth 100000 in
/-- A point, opened, and read again. -/
theorem open_pt {H : Type} {enc : TypeId × Value → H} {W : World} {b0 : Nat} {v : Value} {d : DataW H} {p : List MemPlace} (hok : Value.okWide Try.prog W .any b0 39 v)
    (h : DataW.Trod enc Try.prog W 0 (fun _ => true) true 39 v d p) :
    ∃ (a b : Int) (o : Bool), v = .agg #[.int .i64 a, .int .i64 b, .bool o] ∧ ∀ W', Below W.heap.size W W' → DataW.Trod enc Try.prog W' 0 (fun b => decide (b < W.heap.size)) true 39 v d p := by
  have h0 := h
  obtain ⟨cs, rfl, hsz⟩ := okWide_struct Try.underlying39 hok
  obtain ⟨c0, c1, c2, rfl⟩ := array3 (hsz.trans cells39)
  obtain ⟨n, hn⟩ := h
  have hlt := DataW.trod_lt _ _ _ _ hn
  obtain ⟨a, b, o, he⟩ := pt_open hn
  have he2 : [c0, c1, c2] = [Value.int .i64 a, .int .i64 b, .bool o] := by simpa [Value.cells] using he
  injection he2 with e0 e1
  injection e1 with e1 e2
  injection e2 with e2 _
  subst e0 e1 e2
  exact ⟨a, b, o, rfl, fun W' hbel => Below.trod laidK rec39 row39 h0 hbel (fun x hx => hlt x hx)⟩
theorem open_u16 {H : Type} {enc : TypeId × Value → H} {W : World} {b0 : Nat} {v : Value} {d : DataW H} {p : List MemPlace} (hok : Value.okWide Try.prog W .any b0 37 v)
    (h : DataW.Trod enc Try.prog W 0 (fun _ => true) true 37 v d p) :
    ∃ x : Nat, v = .int .u16 (x : Int) ∧ x < 65536 ∧ ∀ (W' : World) (sp : Nat → Bool), DataW.Trod enc Try.prog W' 0 sp true 37 v d p := by
  obtain ⟨k, hk⟩ := h
  obtain ⟨x, e0, e1, wx⟩ := DataW.trod_int Try.underlying37 hk
  have hv2 : v = .int .u16 x := by
    cases v <;> simp [Value.cells] at e0 ⊢
    all_goals first | exact e0 | (simp [Value.okWide, Cell.okWide, Cell.ok, Try.underlying37] at hok)
  subst hv2
  injection e1 with e1 e2
  subst e1 e2
  have hb := bounds_u16 wx
  obtain ⟨a, rfl⟩ := Int.eq_ofNat_of_zero_le hb.1
  exact ⟨a, rfl, by omega, fun W' sp => ⟨1, by simp [Value.cells, DataW.trod, Try.underlying37, wx]⟩⟩
set_option maxRecDepth 100000 in
theorem lifted_back (os : Os) (started : os.Started) (H : Type) (enc : TypeId × Value → H) :
    ReturnsInHanded {} Try.checked os 3 .any (Rows.glyfBackSpec.pre6 enc Try.prog Try.f3 Rows.glyfBackRow.domain false) (Rows.glyfBackSpec.post enc Try.prog Try.f3 false true false false) := by
  refine returnsInHanded_of_change (C := Try.checked) own started (by kernel_rfl) Try.func3
    (ChangeSpec.witness6 (enc := enc) (C := Try.checked) false ⟨#[], #[.slice none 0 0], []⟩ 8 (by kernel_rfl) (by kernel_rfl) (by kernel_rfl) (by kernel_rfl)) ?_
  intro W base args ds gs before hval0 hW hcnd _
  have hval : ∀ (j : Nat) t v, Try.f3.params[j]? = some t → args[j]? = some v → Value.okWide Try.prog W .any base t v := hval0
  have hW' := hW
  obtain ⟨p, q, hA0, hV, rfl, hfz, hnd⟩ := hW
  have hA : DataW.TrodAll enc Try.prog W 0 (fun _ => true) true Try.f3.params.toList args.toList ds p := hA0
  rw [Try.params3] at hA hval
  obtain ⟨v1, d1, rfl, rfl, h1⟩ := trodAll_one hA
  obtain ⟨rfl, rfl⟩ := trodVars_none hV
  obtain ⟨A, m, c, LL, rfl, hP, hm, hr1⟩ := open_cts (hval 0 22 v1 rfl rfl) h1
  clear hA0 hval0
  simp only [List.append_nil] at hW'
  refine (law_back A m c LL W hP hm).mono fun e W' ⟨he2, hw⟩ => ?_
  subst he2
  exact ⟨_, rfl, post_true (ds := [_]) rfl hW' (by kernel_rfl) rfl rfl rfl ⟨_, trodAll_mk1 (hr1 W' hw)⟩ hw⟩
theorem glyfBack_holds : Rows.GlyfBackSaid :=
  OpenClaim.holds_of_wide 3 Try.f3 rfl rfl rfl rfl rfl rfl rfl ⟨rfl, rfl, rfl, rfl, rfl⟩ rfl rfl rfl rfl rfl (by kernel_rfl) Try.func3 (by kernel_rfl)
    (of_decide_eq_true (by kernel_rfl)) (by unfold Func.isWrapper; first | (rw [if_pos (by decide +kernel)]; kernel_rfl) | (rw [if_neg (by decide +kernel)]; exact ⟨rfl, rfl⟩))
    (fun os started H enc _ => lifted_back os started H enc)
#print axioms glyfBack_holds
set_option maxRecDepth 100000 in
theorem lifted_any (os : Os) (started : os.Started) (H : Type) (enc : TypeId × Value → H) :
    ReturnsInHanded {} Try.checked os 4 .any (Rows.glyfAnySpec.pre6 enc Try.prog Try.f4 Rows.glyfAnyRow.domain false) (Rows.glyfAnySpec.post enc Try.prog Try.f4 false true false false) := by
  refine returnsInHanded_of_change (C := Try.checked) own started (by kernel_rfl) Try.func4
    (ChangeSpec.witness6 (enc := enc) (C := Try.checked) false ⟨#[], #[.string ⟨#[]⟩], []⟩ 8 (by kernel_rfl) (by kernel_rfl) (by kernel_rfl) (by kernel_rfl)) ?_
  intro W base args ds gs before hval0 hW hcnd _
  have hval : ∀ (j : Nat) t v, Try.f4.params[j]? = some t → args[j]? = some v → Value.okWide Try.prog W .any base t v := hval0
  have hW' := hW
  obtain ⟨p, q, hA0, hV, rfl, hfz, hnd⟩ := hW
  have hA : DataW.TrodAll enc Try.prog W 0 (fun _ => true) true Try.f4.params.toList args.toList ds p := hA0
  rw [Try.params4] at hA hval
  obtain ⟨v1, d1, rfl, rfl, h1⟩ := trodAll_one hA
  obtain ⟨rfl, rfl⟩ := trodVars_none hV
  obtain ⟨s, rfl, rfl, rfl, hs⟩ := Go.ChangeMaps.open_string Try.underlying9 (hval 0 9 v1 rfl rfl) h1
  clear hA0 hval0
  simp only [List.append_nil] at hW'
  refine (law_any s W).mono fun e W' ⟨he2, hw⟩ => ?_
  subst he2
  exact ⟨_, rfl, post_true (ds := [_]) rfl hW' (by kernel_rfl) rfl rfl rfl ⟨_, trodAll_mk1 (Go.ChangeMaps.shut_string Try.underlying9 hs)⟩ hw⟩
theorem glyfAny_holds : Rows.GlyfAnySaid :=
  OpenClaim.holds_of_wide 4 Try.f4 rfl rfl rfl rfl rfl rfl rfl ⟨rfl, rfl, rfl, rfl, rfl⟩ rfl rfl rfl rfl rfl (by kernel_rfl) Try.func4 (by kernel_rfl)
    (of_decide_eq_true (by kernel_rfl)) (by unfold Func.isWrapper; first | (rw [if_pos (by decide +kernel)]; kernel_rfl) | (rw [if_neg (by decide +kernel)]; exact ⟨rfl, rfl⟩))
    (fun os started H enc _ => lifted_any os started H enc)
#print axioms glyfAny_holds
set_option maxRecDepth 100000 in
theorem lifted_bounds (os : Os) (started : os.Started) (H : Type) (enc : TypeId × Value → H) :
    ReturnsInHanded {} Try.checked os 5 .any (Rows.glyfBoundsSpec.pre6 enc Try.prog Try.f5 Rows.glyfBoundsRow.domain false) (Rows.glyfBoundsSpec.post enc Try.prog Try.f5 false true false false) := by
  refine returnsInHanded_of_change (C := Try.checked) own started (by kernel_rfl) Try.func5
    (ChangeSpec.witness6 (enc := enc) (C := Try.checked) false ⟨#[], #[.slice none 0 0, .int .u16 0, .agg #[.int .i64 0, .int .i64 0, .bool false]], []⟩ 8 (by kernel_rfl) (by kernel_rfl) (by kernel_rfl) (by kernel_rfl)) ?_
  intro W base args ds gs before hval0 hW hcnd _
  have hval : ∀ (j : Nat) t v, Try.f5.params[j]? = some t → args[j]? = some v → Value.okWide Try.prog W .any base t v := hval0
  have hW' := hW
  obtain ⟨p, q, hA0, hV, rfl, hfz, hnd⟩ := hW
  have hA : DataW.TrodAll enc Try.prog W 0 (fun _ => true) true Try.f5.params.toList args.toList ds p := hA0
  rw [Try.params5] at hA hval
  obtain ⟨v1, v2, v3, d1, d2, d3, p1, p2, p3, rfl, rfl, rfl, h1, h2, h3⟩ := trodAll_three hA
  obtain ⟨rfl, rfl⟩ := trodVars_none hV
  obtain ⟨A, m, c, L, rfl, hP, hr1⟩ := open_pts (hval 0 36 v1 rfl rfl) h1
  obtain ⟨n, rfl, hn, hr2⟩ := open_u16 (hval 1 37 v2 rfl rfl) h2
  obtain ⟨x, y, o, rfl, hr3⟩ := open_pt (hval 2 39 v3 rfl rfl) h3
  clear hA0 hval0
  simp only [List.append_nil] at hW'
  refine (law_bounds A m c n L x y o W hP hn).mono fun e W' ⟨he2, hw⟩ => ?_
  subst he2
  exact ⟨_, rfl, post_true (ds := [_, _, _]) rfl hW' (by kernel_rfl) rfl rfl rfl ⟨_, trodAll_mk3 (hr1 W' hw) (hr2 W' _) (hr3 W' hw)⟩ hw⟩
theorem glyfBounds_holds : Rows.GlyfBoundsSaid :=
  OpenClaim.holds_of_wide 5 Try.f5 rfl rfl rfl rfl rfl rfl rfl ⟨rfl, rfl, rfl, rfl, rfl⟩ rfl rfl rfl rfl rfl (by kernel_rfl) Try.func5 (by kernel_rfl)
    (of_decide_eq_true (by kernel_rfl)) (by unfold Func.isWrapper; first | (rw [if_pos (by decide +kernel)]; kernel_rfl) | (rw [if_neg (by decide +kernel)]; exact ⟨rfl, rfl⟩))
    (fun os started H enc _ => lifted_bounds os started H enc)
#print axioms glyfBounds_holds
end Go.Proofs.Ytcpphbogadjgfaa
