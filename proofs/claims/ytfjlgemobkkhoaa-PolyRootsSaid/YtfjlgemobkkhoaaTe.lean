/- Proved here: the statement PolyRoots: a product with a given root has that root, and loses it as the document says. No condition of our own. -/
import Derived.Test.YtfjlgemobkkhoaaSf
import Derived.Test.YtfjlgemobkkhoaaSg
import Derived.Test.YtfjlgemobkkhoaaTa
namespace Go.Proofs.Ytfjlgemobkkhoaa
open Go.ChangeShapes Go.WideShapes Go.ChangeAt Go.RowKit Go.Joins

set_option maxRecDepth 100000 in
theorem lifted_roots (os : Os) (started : os.Started) (H : Type) (enc : TypeId × Value → H) :
    ReturnsInHanded {} Try.checked os 6 .any (Rows.polyRootsSpec.pre6 enc Try.prog Try.f6 Rows.polyRootsRow.domain false) (Rows.polyRootsSpec.post enc Try.prog Try.f6 false true false false) := by
  refine returnsInHanded_of_change (C := Try.checked) own started (by kernel_rfl) Try.func6
    (ChangeSpec.witness6 (enc := enc) (C := Try.checked) false ⟨#[], #[.slice none 0 0, .agg #[.int .i64 0, .int .i64 0]], []⟩ 8 (by kernel_rfl) (by kernel_rfl) (by kernel_rfl) (by kernel_rfl)) ?_
  intro W base args ds gs before hval0 hW hcnd _
  have hval : ∀ (j : Nat) t v, Try.f6.params[j]? = some t → args[j]? = some v → Value.okWide Try.prog W .any base t v := hval0
  have hW' := hW
  obtain ⟨p, q, hA0, hV, rfl, hfz, hnd⟩ := hW
  have hA : DataW.TrodAll enc Try.prog W 0 (fun _ => true) true Try.f6.params.toList args.toList ds p := hA0
  rw [Try.params6] at hA hval
  obtain ⟨v1, v2, d1, d2, p1, p2, rfl, rfl, rfl, h1, h2⟩ := trodAll_two hA
  obtain ⟨rfl, rfl⟩ := trodVars_none hV
  obtain ⟨A, m, c, xs, rfl, hI, hr1⟩ := open_nums (hval 0 56 v1 rfl rfl) h1
  have hI : Ia W (.slice A m c) xs := hI
  obtain ⟨c0, c1, y0, y1, k, rfl, rfl, rfl, hy0, hy1⟩ := open_agg2 Try.underlying35 (by kernel_rfl) cells35 (hval 1 35 v2 rfl rfl) h2
  obtain ⟨n, e0, rfl, wn⟩ := DataW.trod_int Try.underlying2 hy0
  obtain ⟨d, e1, rfl, wd⟩ := DataW.trod_int Try.underlying2 hy1
  simp at e0 e1
  subst e0 e1
  have hn : Fit n := bounds_i64 wn
  have hd : Fit d := bounds_i64 wd
  have law : Calls Try.prog 6 #[.slice A m c, .agg #[.int .i64 n, .int .i64 d]] W fun e w' => e = .returned (.bool true) ∧ Below W.heap.size W w' := by
    by_cases ho : m ≤ 8 ∧ Maybe n d ∧ n ≠ -9223372036854775808
    · obtain ⟨h8, hmb, hmin⟩ := ho
      by_cases h0 : trz xs = []
      · exact law_roots_zero A m c xs n d W hI hn hd h8 hmb hmin h0
      · exact law_roots_main A m c xs n d W hI hn hd h8 hmb hmin h0
    · exact law_roots_out A m c n d W hn hd ho
  clear hA0 hval0
  simp only [List.append_nil] at hW'
  refine law.mono fun e W' ⟨he, hw⟩ => ?_
  subst he
  exact ⟨_, rfl, post_true (ds := [_, _]) rfl hW' (by kernel_rfl) rfl rfl rfl ⟨_, trodAll_mk2 (hr1 W' hw) (ratio_reads n d wn wd W' _)⟩ hw⟩
theorem polyRoots_holds : Rows.PolyRootsSaid :=
  OpenClaim.holds_of_wide 6 Try.f6 rfl rfl rfl rfl rfl rfl rfl ⟨rfl, rfl, rfl, rfl, rfl⟩ rfl rfl rfl rfl rfl (by kernel_rfl) Try.func6 (by kernel_rfl)
    (of_decide_eq_true (by kernel_rfl)) (by unfold Func.isWrapper; first | (rw [if_pos (by decide +kernel)]; kernel_rfl) | (rw [if_neg (by decide +kernel)]; exact ⟨rfl, rfl⟩))
    (fun os started H enc _ => lifted_roots os started H enc)
#print axioms polyRoots_holds
end Go.Proofs.Ytfjlgemobkkhoaa
