/- Proved here: the statement SturmChains: a polynomial's chain, and how often its signs change at a number, is the document's. No condition of our own. -/
import Derived.Test.YtpobhegllhhdgaaGreatKC
import Derived.Test.YtpobhegllhhdgaaGreatTa
namespace Go.Proofs.YtpobhegllhhdgaaGreat
open Go.ChangeShapes Go.WideShapes Go.ChangeAt Go.RowKit Go.Joins

set_option maxRecDepth 100000 in
theorem lifted_chains (os : Os) (started : os.Started) (H : Type) (enc : TypeId × Value → H) :
    ReturnsInHanded {} Tryz.checked os 3 .any (Rows.sturmChainsSpec.pre6 enc Tryz.prog Tryz.f3 Rows.sturmChainsRow.domain false) (Rows.sturmChainsSpec.post enc Tryz.prog Tryz.f3 false true false false) := by
  refine returnsInHanded_of_change (C := Tryz.checked) own started (by kernel_rfl) Tryz.func3
    (ChangeSpec.witness6 (enc := enc) (C := Tryz.checked) false ⟨#[], #[.slice none 0 0, .agg #[.int .i64 0, .int .i64 0]], []⟩ 8 (by kernel_rfl) (by kernel_rfl) (by kernel_rfl) (by kernel_rfl)) ?_
  intro W base args ds gs before hval0 hW hcnd _
  have hval : ∀ (j : Nat) t v, Tryz.f3.params[j]? = some t → args[j]? = some v → Value.okWide Tryz.prog W .any base t v := hval0
  have hW' := hW
  obtain ⟨p, q, hA0, hV, rfl, hfz, hnd⟩ := hW
  have hA : DataW.TrodAll enc Tryz.prog W 0 (fun _ => true) true Tryz.f3.params.toList args.toList ds p := hA0
  rw [Tryz.params3] at hA hval
  obtain ⟨v1, v2, d1, d2, p1, p2, rfl, rfl, rfl, h1, h2⟩ := trodAll_two hA
  obtain ⟨rfl, rfl⟩ := trodVars_none hV
  obtain ⟨A, m, c, L, rfl, hP, hr1⟩ := open_bigs (hval 0 22 v1 rfl rfl) h1
  obtain ⟨c0, c1, y0, y1, k, rfl, rfl, rfl, hy0, hy1⟩ := open_agg2 Tryz.underlying24 (by kernel_rfl) cells35 (hval 1 24 v2 rfl rfl) h2
  obtain ⟨n, e0, rfl, wn⟩ := DataW.trod_int Tryz.underlying2 hy0
  obtain ⟨d, e1, rfl, wd⟩ := DataW.trod_int Tryz.underlying2 hy1
  simp at e0 e1
  subst e0 e1
  have hn : Fit n := bounds_i64 wn
  have hd : Fit d := bounds_i64 wd
  have law := law_chains A m c L maxLen n d W hP hn hd
  clear hA0 hval0
  simp only [List.append_nil] at hW'
  refine law.mono fun e W' ⟨he, hw⟩ => ?_
  subst he
  exact ⟨_, rfl, post_true (ds := [_, _]) rfl hW' (by kernel_rfl) rfl rfl rfl ⟨_, trodAll_mk2 (hr1 W' hw) (ratio_reads n d wn wd W' _)⟩ hw⟩
theorem sturmChains_holds : Rows.SturmChainsSaid :=
  OpenClaim.holds_of_wide 3 Tryz.f3 rfl rfl rfl rfl rfl rfl rfl ⟨rfl, rfl, rfl, rfl, rfl⟩ rfl rfl rfl rfl rfl (by kernel_rfl) Tryz.func3 (by kernel_rfl)
    (of_decide_eq_true (by kernel_rfl)) (by unfold Func.isWrapper; first | (rw [if_pos (by decide +kernel)]; kernel_rfl) | (rw [if_neg (by decide +kernel)]; exact ⟨rfl, rfl⟩))
    (fun os started H enc _ => lifted_chains os started H enc)
#print axioms sturmChains_holds
end Go.Proofs.YtpobhegllhhdgaaGreat
