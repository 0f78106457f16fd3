/- Proved here: EdgeTurned as given. -/
import Derived.Test.YtnnanlilnlimaaaGe
import Derived.Test.YtnnanlilnlimaaaEs
namespace Go.Proofs.Ytnnanlilnlimaaa
open Go.ChangeShapes Go.WideShapes Go.ChangeAt Go.RowKit Go.Joins

theorem pts_room {H : Type} {enc : TypeId × Value → H} {W : World} {sp : Nat → Bool} {n : Nat} {A : Option Addr} {m c : Nat} {x : DataW H × List MemPlace} (h : DataW.trod enc Try.prog W 0 sp true n 38 [.slice A m c] = some x) : m ≤ c ∧ m ≤ maxLen := by
  rcases Deep.open_slice Try.underlying38 h with ⟨h1, _⟩ | ⟨a, len, cap, _, _, _, _, h1, _, hl, hm, _⟩
  · injection h1 with h1 _
    injection h1 with _ h2 h3
    subst h2 h3
    exact ⟨Nat.le_refl _, Nat.zero_le _⟩
  · injection h1 with h1 _
    injection h1 with _ h2 h3
    subst h2 h3
    exact ⟨hl, Nat.le_trans hl hm⟩
set_option maxRecDepth 100000 in
theorem lifted_turned (os : Os) (started : os.Started) (H : Type) (enc : TypeId × Value → H) :
    ReturnsInHanded {} Try.checked os 5 .any (Rows.edgeTurnedSpec.pre6 enc Try.prog Try.f5 Rows.edgeTurnedRow.domain false) (Rows.edgeTurnedSpec.post enc Try.prog Try.f5 false true false false) := by
  refine returnsInHanded_of_change (C := Try.checked) own started (by kernel_rfl) Try.func5
    (ChangeSpec.witness6 (enc := enc) (C := Try.checked) false ⟨#[], #[.slice none 0 0, .int .i64 0], []⟩ 8 (by kernel_rfl) (by kernel_rfl) (by kernel_rfl) (by kernel_rfl)) ?_
  intro W base args ds gs before hval0 hW hcnd _
  have hval : ∀ (j : Nat) t v, Try.f5.params[j]? = some t → args[j]? = some v → Value.okWide Try.prog W .any base t v := hval0
  have hW' := hW
  obtain ⟨p, q, hA0, hV, rfl, hfz, hnd⟩ := hW
  have hA : DataW.TrodAll enc Try.prog W 0 (fun _ => true) true Try.f5.params.toList args.toList ds p := hA0
  rw [Try.params5] at hA hval
  obtain ⟨v1, v2, d1, d2, p1, p2, rfl, rfl, rfl, h1, h2⟩ := trodAll_two hA
  obtain ⟨rfl, rfl⟩ := trodVars_none hV
  obtain ⟨A, m, c, L, rfl, hP, hr1⟩ := open_pts (hval 0 38 v1 rfl rfl) h1
  obtain ⟨G, rfl, hr2⟩ := open_int (hval 1 3 v2 rfl rfl) h2
  obtain ⟨hmc, hmx⟩ := pts_room h1.choose_spec
  clear hA0 hval0
  simp only [List.append_nil] at hW'
  refine (law_turned A m c L G W hP hmc hmx).mono fun e W' ⟨he2, hw⟩ => ?_
  subst he2
  exact ⟨_, rfl, post_true (ds := [_, _]) rfl hW' (by kernel_rfl) rfl rfl rfl ⟨_, trodAll_mk2 (hr1 W' hw) (hr2 W' _)⟩ hw⟩
theorem edgeTurned_holds : Rows.EdgeTurnedSaid :=
  OpenClaim.holds_of_wide 5 Try.f5 rfl rfl rfl rfl rfl rfl rfl ⟨rfl, rfl, rfl, rfl, rfl⟩ rfl rfl rfl rfl rfl (by kernel_rfl) Try.func5 (by kernel_rfl)
    (of_decide_eq_true (by kernel_rfl)) (by unfold Func.isWrapper; first | (rw [if_pos (by decide +kernel)]; kernel_rfl) | (rw [if_neg (by decide +kernel)]; exact ⟨rfl, rfl⟩))
    (fun os started H enc _ => lifted_turned os started H enc)
end Go.Proofs.Ytnnanlilnlimaaa
