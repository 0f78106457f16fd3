/- Proved here: LineLevels, LineOf and LineOrder as given. -/
import Derived.Test.YtmbpehhbfbmacaaLLr
import Derived.Test.YtmbpehhbfbmacaaLLt
import Derived.Test.YtmbpehhbfbmacaaLPAs
import Derived.Test.YtmbpehhbfbmacaaRows
import Derived.Test.YtmbpehhbfbmacaaChecked
namespace Go.Proofs.Ytmbpehhbfbmacaa
open Go.ChangeShapes Go.WideShapes Go.ChangeAt Go.RowKit Go.Joins

theorem rec45 : Try.prog.readableRec 24 = true := by kernel_rfl
theorem row45 : (24 : TypeId) < Try.prog.types.size := of_decide_eq_true (by kernel_rfl)
theorem rec55 : Try.prog.readableRec 37 = true := by kernel_rfl
theorem row55 : (37 : TypeId) < Try.prog.types.size := of_decide_eq_true (by kernel_rfl)
theorem rec56 : Try.prog.readableRec 38 = true := by kernel_rfl
theorem row56 : (38 : TypeId) < Try.prog.types.size := of_decide_eq_true (by kernel_rfl)
theorem cells45 : Try.prog.cellsOf 24 = 6 := by kernel_rfl
theorem cells55 : Try.prog.cellsOf 37 = 2 := by kernel_rfl
theorem cells56 : Try.prog.cellsOf 38 = 2 := by kernel_rfl
theorem cells53 : Try.prog.cellsOf 35 = 1 := by kernel_rfl
section
variable {H : Type} {enc : TypeId × Value → H} {W : World} {sp : Nat → Bool} {n : Nat} {x : DataW H × List MemPlace}
theorem wide_open {cs : List Value} (h : DataW.trod enc Try.prog W 0 sp true n 37 cs = some x) : ∃ a b : Nat, cs = [.int .u64 (a : Int), .int .u64 (b : Int)] ∧ a < 18446744073709551616 ∧ b < 18446744073709551616 := by
  obtain ⟨xs, n, _, hx, hcl, hlen, hg⟩ := DataW.trod_struct Try.underlying37 h
  rw [cells55] at hcl
  match cs, hcl with
  | [c0, c1], _ =>
    match xs, hlen.trans (show _ = 2 from rfl) with
    | [y0, y1], _ =>
      have g0 := hg 0 _ rfl
      have g1 := hg 1 _ rfl
      simp [cells53] at g0 g1
      obtain ⟨a, e0, e1, wa⟩ := DataW.trod_int Try.underlying35 g0
      obtain ⟨b, f0, f1, wb⟩ := DataW.trod_int Try.underlying35 g1
      injection e0 with e0 _
      injection f0 with f0 _
      subst e0 f0
      have ba := bounds_u64 wa
      have bb := bounds_u64 wb
      obtain ⟨a', rfl⟩ := Int.eq_ofNat_of_zero_le ba.1
      obtain ⟨b', rfl⟩ := Int.eq_ofNat_of_zero_le bb.1
      exact ⟨a', b', rfl, by omega, by omega⟩
theorem ints_open {cs : List Value} (h : DataW.trod enc Try.prog W 0 sp true n 38 cs = some x) : ∃ a b : Int, cs = [.int .i64 a, .int .i64 b] := by
  obtain ⟨xs, m, _, _, hl, hx, hi⟩ := DataW.trod_array Try.underlying38 h
  rw [cells56] at hl
  rw [cells3] at hi
  match cs, hl, xs, hx with
  | [v0, v1], _, [y0, y1], _ =>
    have h0 := hi 0 (by omega)
    have h1 := hi 1 (by omega)
    simp at h0 h1
    obtain ⟨a, rfl⟩ := int_open h0
    obtain ⟨b, rfl⟩ := int_open h1
    exact ⟨a, b, rfl⟩
theorem tri_open {cs : List Value} (h : DataW.trod enc Try.prog W 0 sp true n 24 cs = some x) : ∃ a b c d e f : Int, cs = [.int .i64 a, .int .i64 b, .int .i64 c, .int .i64 d, .int .i64 e, .int .i64 f] := by
  obtain ⟨xs, m, _, _, hl, hx, hi⟩ := DataW.trod_array Try.underlying24 h
  rw [cells45] at hl
  rw [cells23] at hi
  match cs, hl, xs, hx with
  | [v0, v1, v2, v3, v4, v5], _, [y0, y1, y2], _ =>
    have h0 := hi 0 (by omega)
    have h1 := hi 1 (by omega)
    have h2 := hi 2 (by omega)
    simp at h0 h1 h2
    obtain ⟨a, b, e0⟩ := p2_open h0
    obtain ⟨c, d, e1⟩ := p2_open h1
    obtain ⟨e, f, e2⟩ := p2_open h2
    simp at e0 e1 e2
    obtain ⟨rfl, rfl⟩ := e0
    obtain ⟨rfl, rfl⟩ := e1
    obtain ⟨rfl, rfl⟩ := e2
    exact ⟨a, b, c, d, e, f, rfl⟩
end
set_option maxRecDepth 100000 in
theorem open_wide {H : Type} {enc : TypeId × Value → H} {W : World} {b0 : Nat} {v : Value} {d : DataW H} {p : List MemPlace} (hok : Value.okWide Try.prog W .any b0 37 v)
    (h : DataW.Trod enc Try.prog W 0 (fun _ => true) true 37 v d p) :
    ∃ x y : Nat, v = .agg #[.int .u64 (x : Int), .int .u64 (y : Int)] ∧ x < 18446744073709551616 ∧ y < 18446744073709551616 ∧ ∀ W', Below W.heap.size W W' → DataW.Trod enc Try.prog W' 0 (fun b => decide (b < W.heap.size)) true 37 v d p := by
  have h0 := h
  obtain ⟨n, h⟩ := h
  obtain ⟨cs, rfl, _⟩ := okWide_struct Try.underlying37 hok
  obtain ⟨x, y, e, bx, by_⟩ := wide_open h
  exact ⟨x, y, agg_of e, bx, by_, fun W' hbel => Below.trod laidK rec55 row55 h0 hbel (fun x hx => DataW.trod_lt _ _ _ _ h x hx)⟩
set_option maxRecDepth 100000 in
theorem open_ints {H : Type} {enc : TypeId × Value → H} {W : World} {b0 : Nat} {v : Value} {d : DataW H} {p : List MemPlace} (hok : Value.okWide Try.prog W .any b0 38 v)
    (h : DataW.Trod enc Try.prog W 0 (fun _ => true) true 38 v d p) :
    ∃ x y : Int, v = .agg #[.int .i64 x, .int .i64 y] ∧ ∀ W', Below W.heap.size W W' → DataW.Trod enc Try.prog W' 0 (fun b => decide (b < W.heap.size)) true 38 v d p := by
  have h0 := h
  obtain ⟨n, h⟩ := h
  obtain ⟨cs, rfl⟩ := okWide_arr Try.underlying38 hok
  obtain ⟨x, y, e⟩ := ints_open h
  exact ⟨x, y, agg_of e, fun W' hbel => Below.trod laidK rec56 row56 h0 hbel (fun x hx => DataW.trod_lt _ _ _ _ h x hx)⟩
set_option maxRecDepth 100000 in
theorem open_tri {H : Type} {enc : TypeId × Value → H} {W : World} {b0 : Nat} {v : Value} {d : DataW H} {p : List MemPlace} (hok : Value.okWide Try.prog W .any b0 24 v)
    (h : DataW.Trod enc Try.prog W 0 (fun _ => true) true 24 v d p) :
    ∃ a b c f g k : Int, v = .agg #[.int .i64 a, .int .i64 b, .int .i64 c, .int .i64 f, .int .i64 g, .int .i64 k] ∧ ∀ W', Below W.heap.size W W' → DataW.Trod enc Try.prog W' 0 (fun b => decide (b < W.heap.size)) true 24 v d p := by
  have h0 := h
  obtain ⟨n, h⟩ := h
  obtain ⟨cs, rfl⟩ := okWide_arr Try.underlying24 hok
  obtain ⟨a, b, c, f, g, k, e⟩ := tri_open h
  exact ⟨a, b, c, f, g, k, agg_of e, fun W' hbel => Below.trod laidK rec45 row45 h0 hbel (fun x hx => DataW.trod_lt _ _ _ _ h x hx)⟩
theorem open_u32 {H : Type} {enc : TypeId × Value → H} {W : World} {b0 : Nat} {v : Value} {d : DataW H} {p : List MemPlace} (hok : Value.okWide Try.prog W .any b0 45 v)
    (h : DataW.Trod enc Try.prog W 0 (fun _ => true) true 45 v d p) :
    ∃ x : Int, v = .int .u32 x ∧ (0 ≤ x ∧ x ≤ 4294967295) ∧ ∀ (W' : World) (sp : Nat → Bool), DataW.Trod enc Try.prog W' 0 sp true 45 v d p := by
  obtain ⟨k, hk⟩ := h
  obtain ⟨x, e0, e1, wx⟩ := DataW.trod_int Try.underlying45 hk
  have hv2 : v = .int .u32 x := by
    cases v <;> simp [Value.cells] at e0 ⊢
    all_goals first | exact e0 | (simp [Value.okWide, Cell.okWide, Cell.ok, Try.underlying45] at hok)
  subst hv2
  injection e1 with e1 e2
  subst e1 e2
  have hb := bounds_u32 wx
  exact ⟨x, rfl, hb, fun W' sp => ⟨1, by simp [Value.cells, DataW.trod, Try.underlying45, wx]⟩⟩
theorem open_u8 {H : Type} {enc : TypeId × Value → H} {W : World} {b0 : Nat} {v : Value} {d : DataW H} {p : List MemPlace} (hok : Value.okWide Try.prog W .any b0 5 v)
    (h : DataW.Trod enc Try.prog W 0 (fun _ => true) true 5 v d p) :
    ∃ x : Int, v = .int .u8 x ∧ (0 ≤ x ∧ x ≤ 255) ∧ ∀ (W' : World) (sp : Nat → Bool), DataW.Trod enc Try.prog W' 0 sp true 5 v d p := by
  obtain ⟨k, hk⟩ := h
  obtain ⟨x, e0, e1, wx⟩ := DataW.trod_int Try.underlying5 hk
  have hv2 : v = .int .u8 x := by
    cases v <;> simp [Value.cells] at e0 ⊢
    all_goals first | exact e0 | (simp [Value.okWide, Cell.okWide, Cell.ok, Try.underlying5] at hok)
  subst hv2
  injection e1 with e1 e2
  subst e1 e2
  have hb := bounds_u8 wx
  exact ⟨x, rfl, hb, fun W' sp => ⟨1, by simp [Value.cells, DataW.trod, Try.underlying5, wx]⟩⟩
set_option maxRecDepth 100000 in
theorem lifted_levels (os : Os) (started : os.Started) (H : Type) (enc : TypeId × Value → H) :
    ReturnsInHanded {} Try.checked os 3 .any (Rows.lineLevelsSpec.pre6 enc Try.prog Try.f3 Rows.lineLevelsRow.domain false) (Rows.lineLevelsSpec.post enc Try.prog Try.f3 false true false false) := by
  refine returnsInHanded_of_change (C := Try.checked) own started (by kernel_rfl) Try.func3
    (ChangeSpec.witness6 (enc := enc) (C := Try.checked) false ⟨#[], #[.agg #[.int .i64 0, .int .i64 0, .int .i64 0, .int .i64 0, .int .i64 0, .int .i64 0], .int .i64 0, .int .i64 0], []⟩ 8 (by kernel_rfl) (by kernel_rfl) (by kernel_rfl) (by kernel_rfl)) ?_
  intro W base args ds gs before hval0 hW hcnd _
  have hval : ∀ (j : Nat) t v, Try.f3.params[j]? = some t → args[j]? = some v → Value.okWide Try.prog W .any base t v := hval0
  have hW' := hW
  obtain ⟨p, q, hA0, hV, rfl, hfz, hnd⟩ := hW
  have hA : DataW.TrodAll enc Try.prog W 0 (fun _ => true) true Try.f3.params.toList args.toList ds p := hA0
  rw [Try.params3] at hA hval
  obtain ⟨v1, v2, v3, d1, d2, d3, p1, p2, p3, rfl, rfl, rfl, h1, h2, h3⟩ := trodAll_three hA
  obtain ⟨rfl, rfl⟩ := trodVars_none hV
  obtain ⟨px, py, ax, ay, bx, by_, rfl, hr1⟩ := open_tri (hval 0 24 v1 rfl rfl) h1
  obtain ⟨r, rfl, hr2⟩ := open_int (hval 1 3 v2 rfl rfl) h2
  obtain ⟨n, rfl, hr3⟩ := open_int (hval 2 3 v3 rfl rfl) h3
  clear hA0 hval0
  simp only [List.append_nil] at hW'
  refine (law_levels px py ax ay bx by_ r n W).mono fun e W' ⟨he2, hw⟩ => ?_
  subst he2
  exact ⟨_, rfl, post_true (ds := [_, _, _]) rfl hW' (by kernel_rfl) rfl rfl rfl ⟨_, trodAll_mk3 (hr1 W' hw) (hr2 W' _) (hr3 W' _)⟩ hw⟩
theorem lineLevels_holds : Rows.LineLevelsSaid :=
  OpenClaim.holds_of_wide 3 Try.f3 rfl rfl rfl rfl rfl rfl rfl ⟨rfl, rfl, rfl, rfl, rfl⟩ rfl rfl rfl rfl rfl (by kernel_rfl) Try.func3 (by kernel_rfl)
    (of_decide_eq_true (by kernel_rfl)) (by unfold Func.isWrapper; first | (rw [if_pos (by decide +kernel)]; kernel_rfl) | (rw [if_neg (by decide +kernel)]; exact ⟨rfl, rfl⟩))
    (fun os started H enc _ => lifted_levels os started H enc)
set_option maxRecDepth 100000 in
theorem lifted_of (os : Os) (started : os.Started) (H : Type) (enc : TypeId × Value → H) :
    ReturnsInHanded {} Try.checked os 4 .any (Rows.lineOfSpec.pre6 enc Try.prog Try.f4 Rows.lineOfRow.domain false) (Rows.lineOfSpec.post enc Try.prog Try.f4 false true false false) := by
  refine returnsInHanded_of_change (C := Try.checked) own started (by kernel_rfl) Try.func4
    (ChangeSpec.witness6 (enc := enc) (C := Try.checked) false ⟨#[], #[.agg #[.int .u64 0, .int .u64 0], .agg #[.int .u64 0, .int .u64 0], .agg #[.int .i64 0, .int .i64 0]], []⟩ 8 (by kernel_rfl) (by kernel_rfl) (by kernel_rfl) (by kernel_rfl)) ?_
  intro W base args ds gs before hval0 hW hcnd _
  have hval : ∀ (j : Nat) t v, Try.f4.params[j]? = some t → args[j]? = some v → Value.okWide Try.prog W .any base t v := hval0
  have hW' := hW
  obtain ⟨p, q, hA0, hV, rfl, hfz, hnd⟩ := hW
  have hA : DataW.TrodAll enc Try.prog W 0 (fun _ => true) true Try.f4.params.toList args.toList ds p := hA0
  rw [Try.params4] at hA hval
  obtain ⟨v1, v2, v3, d1, d2, d3, p1, p2, p3, rfl, rfl, rfl, h1, h2, h3⟩ := trodAll_three hA
  obtain ⟨rfl, rfl⟩ := trodVars_none hV
  obtain ⟨sh, sl, rfl, b1, b2, hr1⟩ := open_wide (hval 0 37 v1 rfl rfl) h1
  obtain ⟨bh, bl, rfl, b3, b4, hr2⟩ := open_wide (hval 1 37 v2 rfl rfl) h2
  obtain ⟨r, n, rfl, hr3⟩ := open_ints (hval 2 38 v3 rfl rfl) h3
  clear hA0 hval0
  simp only [List.append_nil] at hW'
  refine (law_of sh sl bh bl r n W b1 b2 b3 b4).mono fun e W' ⟨he2, hw⟩ => ?_
  subst he2
  exact ⟨_, rfl, post_true (ds := [_, _, _]) rfl hW' (by kernel_rfl) rfl rfl rfl ⟨_, trodAll_mk3 (hr1 W' hw) (hr2 W' hw) (hr3 W' hw)⟩ hw⟩
theorem lineOf_holds : Rows.LineOfSaid :=
  OpenClaim.holds_of_wide 4 Try.f4 rfl rfl rfl rfl rfl rfl rfl ⟨rfl, rfl, rfl, rfl, rfl⟩ rfl rfl rfl rfl rfl (by kernel_rfl) Try.func4 (by kernel_rfl)
    (of_decide_eq_true (by kernel_rfl)) (by unfold Func.isWrapper; first | (rw [if_pos (by decide +kernel)]; kernel_rfl) | (rw [if_neg (by decide +kernel)]; exact ⟨rfl, rfl⟩))
    (fun os started H enc _ => lifted_of os started H enc)
set_option maxRecDepth 100000 in
theorem lifted_order (os : Os) (started : os.Started) (H : Type) (enc : TypeId × Value → H) :
    ReturnsInHanded {} Try.checked os 5 .any (Rows.lineOrderSpec.pre6 enc Try.prog Try.f5 Rows.lineOrderRow.domain false) (Rows.lineOrderSpec.post enc Try.prog Try.f5 false true false false) := by
  refine returnsInHanded_of_change (C := Try.checked) own started (by kernel_rfl) Try.func5
    (ChangeSpec.witness6 (enc := enc) (C := Try.checked) false ⟨#[], #[.agg #[.int .i32 0, .int .i32 0, .int .i32 0, .int .i32 0, .int .i32 0, .int .i32 0], .int .u32 0, .int .u8 0], []⟩ 8 (by kernel_rfl) (by kernel_rfl) (by kernel_rfl) (by kernel_rfl)) ?_
  intro W base args ds gs before hval0 hW hcnd _
  have hval : ∀ (j : Nat) t v, Try.f5.params[j]? = some t → args[j]? = some v → Value.okWide Try.prog W .any base t v := hval0
  have hW' := hW
  obtain ⟨p, q, hA0, hV, rfl, hfz, hnd⟩ := hW
  have hA : DataW.TrodAll enc Try.prog W 0 (fun _ => true) true Try.f5.params.toList args.toList ds p := hA0
  rw [Try.params5] at hA hval
  obtain ⟨v1, v2, v3, d1, d2, d3, p1, p2, p3, rfl, rfl, rfl, h1, h2, h3⟩ := trodAll_three hA
  obtain ⟨rfl, rfl⟩ := trodVars_none hV
  obtain ⟨a, b, c, d, e, f, rfl, ⟨ba, bb, bc, bd, be, bf⟩, hr1⟩ := open_three (hval 0 44 v1 rfl rfl) h1
  obtain ⟨r, rfl, br, hr2⟩ := open_u32 (hval 1 45 v2 rfl rfl) h2
  obtain ⟨n, rfl, bn, hr3⟩ := open_u8 (hval 2 5 v3 rfl rfl) h3
  clear hA0 hval0
  simp only [List.append_nil] at hW'
  refine (law_order a b c d e f r n W ba bb bc bd be bf br bn).mono fun e W' ⟨he2, hw⟩ => ?_
  subst he2
  exact ⟨_, rfl, post_true (ds := [_, _, _]) rfl hW' (by kernel_rfl) rfl rfl rfl ⟨_, trodAll_mk3 (hr1 W' hw) (hr2 W' _) (hr3 W' _)⟩ hw⟩
theorem lineOrder_holds : Rows.LineOrderSaid :=
  OpenClaim.holds_of_wide 5 Try.f5 rfl rfl rfl rfl rfl rfl rfl ⟨rfl, rfl, rfl, rfl, rfl⟩ rfl rfl rfl rfl rfl (by kernel_rfl) Try.func5 (by kernel_rfl)
    (of_decide_eq_true (by kernel_rfl)) (by unfold Func.isWrapper; first | (rw [if_pos (by decide +kernel)]; kernel_rfl) | (rw [if_neg (by decide +kernel)]; exact ⟨rfl, rfl⟩))
    (fun os started H enc _ => lifted_order os started H enc)
end Go.Proofs.Ytmbpehhbfbmacaa
