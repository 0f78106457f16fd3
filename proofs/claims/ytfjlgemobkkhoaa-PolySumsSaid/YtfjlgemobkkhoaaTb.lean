/- Proved here: the statement PolySums: sums, differences, products and derivatives of polynomials are the document's. No condition of our own. -/
import Derived.Test.YtfjlgemobkkhoaaSb
import Derived.Test.YtfjlgemobkkhoaaTa
namespace Go.Proofs.Ytfjlgemobkkhoaa
open Go.ChangeShapes Go.WideShapes Go.ChangeAt Go.RowKit Go.Joins

set_option maxRecDepth 100000 in
theorem lifted_sums (os : Os) (started : os.Started) (H : Type) (enc : TypeId × Value → H) :
    ReturnsInHanded {} Try.checked os 3 .any (Rows.polySumsSpec.pre6 enc Try.prog Try.f3 Rows.polySumsRow.domain false) (Rows.polySumsSpec.post enc Try.prog Try.f3 false true false false) := by
  refine returnsInHanded_of_change (C := Try.checked) own started (by kernel_rfl) Try.func3
    (ChangeSpec.witness6 (enc := enc) (C := Try.checked) false ⟨#[], #[.slice none 0 0, .slice none 0 0], []⟩ 8 (by kernel_rfl) (by kernel_rfl) (by kernel_rfl) (by kernel_rfl)) ?_
  intro W base args ds gs before hval0 hW hcnd _
  have hval : ∀ (j : Nat) t v, Try.f3.params[j]? = some t → args[j]? = some v → Value.okWide Try.prog W .any base t v := hval0
  have hW' := hW
  obtain ⟨p, q, hA0, hV, rfl, hfz, hnd⟩ := hW
  have hA : DataW.TrodAll enc Try.prog W 0 (fun _ => true) true Try.f3.params.toList args.toList ds p := hA0
  rw [Try.params3] at hA hval
  obtain ⟨v1, v2, d1, d2, p1, p2, rfl, rfl, rfl, h1, h2⟩ := trodAll_two hA
  obtain ⟨rfl, rfl⟩ := trodVars_none hV
  have hv1 := hval 0 22 v1 rfl rfl
  have hv2 := hval 1 22 v2 rfl rfl
  obtain ⟨A, m, c, L, rfl, hP, hr1⟩ := open_bigs hv1 h1
  obtain ⟨B, m2, c2, M, rfl, hQ, hr2⟩ := open_bigs hv2 h2
  clear hA0 hval0
  simp only [List.append_nil] at hW'
  refine (law_sums A B m c m2 c2 L M maxLen maxLen W hP hQ).mono fun e W' ⟨he, hw⟩ => ?_
  subst he
  exact ⟨_, rfl, post_true (ds := [_, _]) rfl hW' (by kernel_rfl) rfl rfl rfl ⟨_, trodAll_mk2 (hr1 W' hw) (hr2 W' hw)⟩ hw⟩
theorem polySums_holds : Rows.PolySumsSaid :=
  OpenClaim.holds_of_wide 3 Try.f3 rfl rfl rfl rfl rfl rfl rfl ⟨rfl, rfl, rfl, rfl, rfl⟩ rfl rfl rfl rfl rfl (by kernel_rfl) Try.func3 (by kernel_rfl)
    (of_decide_eq_true (by kernel_rfl)) (by unfold Func.isWrapper; first | (rw [if_pos (by decide +kernel)]; kernel_rfl) | (rw [if_neg (by decide +kernel)]; exact ⟨rfl, rfl⟩))
    (fun os started H enc _ => lifted_sums os started H enc)
#print axioms polySums_holds
end Go.Proofs.Ytfjlgemobkkhoaa
