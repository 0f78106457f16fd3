/- Proved here: the statement SturmProducts: a product of D x - N, some of them twice, is 0 at just these, and below 0 by how many of them are ahead. No condition of our own. -/
import Derived.Test.YtpobhegllhhdgaaGreatZi
namespace Go.Proofs.YtpobhegllhhdgaaGreat
open Go.ChangeShapes Go.WideShapes Go.ChangeAt Go.RowKit Go.Joins

theorem law_products (A : Option Addr) (m c : Nat) (xs : List (Int × Int)) (x : Int) (w : World) (h : Pr8 w A m xs) :
    Calls Tryz.prog 5 #[.slice A m c, .int .i8 x] w fun e w' => e = .returned (.bool true) ∧ Below w.heap.size w w' := by
  rcases Nat.lt_or_ge 6 m with h6 | h6
  · exact products_long A m c x w h6
  · exact products_main A m c xs x w h h6
set_option maxRecDepth 100000 in
theorem lifted_products (os : Os) (started : os.Started) (H : Type) (enc : TypeId × Value → H) :
    ReturnsInHanded {} Tryz.checked os 5 .any (Rows.sturmProductsSpec.pre6 enc Tryz.prog Tryz.f5 Rows.sturmProductsRow.domain false) (Rows.sturmProductsSpec.post enc Tryz.prog Tryz.f5 false true false false) := by
  refine returnsInHanded_of_change (C := Tryz.checked) own started (by kernel_rfl) Tryz.func5
    (ChangeSpec.witness6 (enc := enc) (C := Tryz.checked) false ⟨#[], #[.slice none 0 0, .int .i8 0], []⟩ 8 (by kernel_rfl) (by kernel_rfl) (by kernel_rfl) (by kernel_rfl)) ?_
  intro W base args ds gs before hval0 hW hcnd _
  have hval : ∀ (j : Nat) t v, Tryz.f5.params[j]? = some t → args[j]? = some v → Value.okWide Tryz.prog W .any base t v := hval0
  have hW' := hW
  obtain ⟨p, q, hA0, hV, rfl, hfz, hnd⟩ := hW
  have hA : DataW.TrodAll enc Tryz.prog W 0 (fun _ => true) true Tryz.f5.params.toList args.toList ds p := hA0
  rw [Tryz.params5] at hA hval
  obtain ⟨v1, v2, d1, d2, p1, p2, rfl, rfl, rfl, h1, h2⟩ := trodAll_two hA
  obtain ⟨rfl, rfl⟩ := trodVars_none hV
  obtain ⟨A, m, c, xs, rfl, hP, _, hr1⟩ := open_pairs8 (hval 0 48 v1 rfl rfl) h1
  obtain ⟨k, hk⟩ := h2
  obtain ⟨x, e0, e1, wx⟩ := DataW.trod_int Tryz.underlying49 hk
  have hv2 : v2 = .int .i8 x := by
    cases v2 <;> simp [Value.cells] at e0 ⊢
    all_goals first | exact e0 | (have hok := hval 1 49 _ rfl rfl; simp [Value.okWide, Cell.okWide, Cell.ok, Tryz.underlying49] at hok)
  subst hv2
  injection e1 with e1 e2
  subst e1 e2
  have law := law_products A m c xs x W hP
  have hx1 : ∀ W' : World, DataW.Trod enc Tryz.prog W' 0 (fun b => decide (b < W.heap.size)) true 49 (.int .i8 x) (.lit (.int .i8 x)) [] := fun W' => ⟨1, by simp [Value.cells, DataW.trod, Tryz.underlying49, wx]⟩
  clear hA0 hval0
  simp only [List.append_nil] at hW'
  refine law.mono fun e W' ⟨he, hw⟩ => ?_
  subst he
  exact ⟨_, rfl, post_true (ds := [_, _]) rfl hW' (by kernel_rfl) rfl rfl rfl ⟨_, trodAll_mk2 (hr1 W' hw) (hx1 W')⟩ hw⟩
theorem sturmProducts_holds : Rows.SturmProductsSaid :=
  OpenClaim.holds_of_wide 5 Tryz.f5 rfl rfl rfl rfl rfl rfl rfl ⟨rfl, rfl, rfl, rfl, rfl⟩ rfl rfl rfl rfl rfl (by kernel_rfl) Tryz.func5 (by kernel_rfl)
    (of_decide_eq_true (by kernel_rfl)) (by unfold Func.isWrapper; first | (rw [if_pos (by decide +kernel)]; kernel_rfl) | (rw [if_neg (by decide +kernel)]; exact ⟨rfl, rfl⟩))
    (fun os started H enc _ => lifted_products os started H enc)
#print axioms sturmProducts_holds
end Go.Proofs.YtpobhegllhhdgaaGreat
