/- Proved here: the statement PolyValues: a polynomial's value at a fraction, and what is left of it without a root, are the document's. No condition of our own. -/
import Derived.Test.YtfjlgemobkkhoaaSc
import Derived.Test.YtfjlgemobkkhoaaSd
import Derived.Test.YtfjlgemobkkhoaaTa
namespace Go.Proofs.Ytfjlgemobkkhoaa
open Go.ChangeShapes Go.WideShapes Go.ChangeAt Go.RowKit Go.Joins

set_option maxRecDepth 100000 in
theorem lifted_values (os : Os) (started : os.Started) (H : Type) (enc : TypeId × Value → H) :
    ReturnsInHanded {} Try.checked os 4 .any (Rows.polyValuesSpec.pre6 enc Try.prog Try.f4 Rows.polyValuesRow.domain false) (Rows.polyValuesSpec.post enc Try.prog Try.f4 false true false false) := by
  refine returnsInHanded_of_change (C := Try.checked) own started (by kernel_rfl) Try.func4
    (ChangeSpec.witness6 (enc := enc) (C := Try.checked) false ⟨#[], #[.slice none 0 0, .agg #[.int .i64 0, .int .i64 0]], []⟩ 8 (by kernel_rfl) (by kernel_rfl) (by kernel_rfl) (by kernel_rfl)) ?_
  intro W base args ds gs before hval0 hW hcnd _
  have hval : ∀ (j : Nat) t v, Try.f4.params[j]? = some t → args[j]? = some v → Value.okWide Try.prog W .any base t v := hval0
  have hW' := hW
  obtain ⟨p, q, hA0, hV, rfl, hfz, hnd⟩ := hW
  have hA : DataW.TrodAll enc Try.prog W 0 (fun _ => true) true Try.f4.params.toList args.toList ds p := hA0
  rw [Try.params4] at hA hval
  obtain ⟨v1, v2, d1, d2, p1, p2, rfl, rfl, rfl, h1, h2⟩ := trodAll_two hA
  obtain ⟨rfl, rfl⟩ := trodVars_none hV
  obtain ⟨A, m, c, L, rfl, hP, hr1⟩ := open_bigs (hval 0 22 v1 rfl rfl) h1
  obtain ⟨c0, c1, y0, y1, k, rfl, rfl, rfl, hy0, hy1⟩ := open_agg2 Try.underlying35 (by kernel_rfl) cells35 (hval 1 35 v2 rfl rfl) h2
  obtain ⟨n, e0, rfl, wn⟩ := DataW.trod_int Try.underlying2 hy0
  obtain ⟨d, e1, rfl, wd⟩ := DataW.trod_int Try.underlying2 hy1
  simp at e0 e1
  subst e0 e1
  have hn : Fit n := bounds_i64 wn
  have hd : Fit d := bounds_i64 wd
  have law : Calls Try.prog 4 #[.slice A m c, .agg #[.int .i64 n, .int .i64 d]] W fun e w' => e = .returned (.bool true) ∧ Below W.heap.size W w' := by
    by_cases hs : SmP W A m
    · by_cases hmb : Maybe n d
      · exact law_values_yes A m c L maxLen n d W hP hn hd hs hmb
      · exact law_values_no A m c L maxLen n d W hP hn hd hs hmb
    · exact law_values_big A m c L maxLen n d W hP hs
  clear hA0 hval0
  simp only [List.append_nil] at hW'
  refine law.mono fun e W' ⟨he, hw⟩ => ?_
  subst he
  exact ⟨_, rfl, post_true (ds := [_, _]) rfl hW' (by kernel_rfl) rfl rfl rfl ⟨_, trodAll_mk2 (hr1 W' hw) (ratio_reads n d wn wd W' _)⟩ hw⟩
theorem polyValues_holds : Rows.PolyValuesSaid :=
  OpenClaim.holds_of_wide 4 Try.f4 rfl rfl rfl rfl rfl rfl rfl ⟨rfl, rfl, rfl, rfl, rfl⟩ rfl rfl rfl rfl rfl (by kernel_rfl) Try.func4 (by kernel_rfl)
    (of_decide_eq_true (by kernel_rfl)) (by unfold Func.isWrapper; first | (rw [if_pos (by decide +kernel)]; kernel_rfl) | (rw [if_neg (by decide +kernel)]; exact ⟨rfl, rfl⟩))
    (fun os started H enc _ => lifted_values os started H enc)
#print axioms polyValues_holds
end Go.Proofs.Ytfjlgemobkkhoaa
