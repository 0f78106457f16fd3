/- Proved here: the statement FlatRows: rows of glyphs, and rings of them, are put together as the law says. No condition of our own. -/
import Derived.Test.YtlfnagfcggmeaaaGz
import Derived.Test.YtlfnagfcggmeaaaGe
import Derived.Test.YtlfnagfcggmeaaaFz
import Derived.Test.YtlfnagfcggmeaaaRows
namespace Go.Proofs.Ytlfnagfcggmeaaa
open Go.ChangeShapes Go.WideShapes Go.ChangeAt Go.RowKit Go.Joins

theorem has_lt {P : Program} {W : World} {r : Reach} {b0 n : Nat} {a : Addr} {e : TypeId} (h : W.has P r b0 a e n) : a.block < W.heap.size := by
  rcases Nat.lt_or_ge a.block W.heap.size with hl | hl
  · exact hl
  · obtain ⟨_, _, row, cells, hs, _⟩ := h
    simp [World.shape?, Array.getElem?_eq_none hl] at hs
theorem cells52 : Try.prog.cellsOf 52 = 2 := by kernel_rfl
theorem cells51 : Try.prog.cellsOf 51 = 1 := by kernel_rfl
theorem rec44 : Try.prog.readableRec 44 = true := by kernel_rfl
theorem row44 : (44 : TypeId) < Try.prog.types.size := of_decide_eq_true (by kernel_rfl)
theorem pair8 {H : Type} {enc : TypeId × Value → H} {W : World} {sp : Nat → Bool} {n : Nat} {cs : List Value} {x : DataW H × List MemPlace} (h : DataW.trod enc Try.prog W 0 sp true n 52 cs = some x) :
    ∃ a b : Int, cs = [.int .i8 a, .int .i8 b] ∧ x.2 = [] ∧ (Lit.int .i8 a).wf = true ∧ (Lit.int .i8 b).wf = true := by
  obtain ⟨xs, m, _, rfl, hl, hx, hi⟩ := DataW.trod_array Try.underlying52 h
  rw [cells52] at hl
  rw [cells51] at hi
  match cs, hl, xs, hx with
  | [v0, v1], _, [y0, y1], _ =>
    have h0 := hi 0 (by omega)
    have h1 := hi 1 (by omega)
    simp at h0 h1
    obtain ⟨a, e0, e1, w0⟩ := DataW.trod_int Try.underlying51 h0
    obtain ⟨b, f0, f1, w1⟩ := DataW.trod_int Try.underlying51 h1
    injection e0 with e0 _
    injection f0 with f0 _
    subst e0 f0 e1 f1
    exact ⟨a, b, rfl, rfl, w0, w1⟩
set_option maxRecDepth 100000 in
theorem open_pairs8 {H : Type} {enc : TypeId × Value → H} {W : World} {b0 : Nat} {v : Value} {d : DataW H} {p : List MemPlace} (hok : Value.okWide Try.prog W .any b0 44 v)
    (h : DataW.Trod enc Try.prog W 0 (fun _ => true) true 44 v d p) :
    ∃ A m c D, v = .slice A m c ∧ Rl W A m D ∧ DOk D ∧ m ≤ maxLen ∧ ∀ W', Below W.heap.size W W' → DataW.Trod enc Try.prog W' 0 (fun b => decide (b < W.heap.size)) true 44 v d p := by
  have h0 := h
  obtain ⟨n, h⟩ := h
  rcases Deep.open_slice Try.underlying44 h with ⟨h1, h2⟩ | ⟨a, len, cap, m, n', D, Pl, h1, hb, hl, hm, hmm, hx, hall⟩
  · have hv : v = .slice none 0 0 := by
      cases v <;> simp [Value.cells] at h1 ⊢
      all_goals first | exact h1 | (simp [Value.okWide, Cell.okWide, Cell.ok, Try.underlying44] at hok)
    subst hv
    injection h2 with h2 h3
    subst h2 h3
    exact ⟨none, 0, 0, fun _ => (0, 0), rfl, ⟨fun i hi => by omega⟩, fun i => ⟨⟨by show (-128 : Int) ≤ 0; decide, by show (0 : Int) ≤ 128; decide⟩, by show (-128 : Int) ≤ 0; decide, by show (0 : Int) ≤ 128; decide⟩, by unfold maxLen; omega, fun W' hbel => Below.trod laidK rec44 row44 h0 hbel (fun x hx => by simp at hx)⟩
  · have hv : v = .slice (some a) len cap := by
      cases v <;> simp [Value.cells] at h1 ⊢
      all_goals first | exact h1 | (simp [Value.okWide, Cell.okWide, Cell.ok, Try.underlying44] at hok)
    subst hv
    have hhas : W.has Try.prog .any b0 a 52 cap := by
      simp only [Value.okWide, Cell.okWide, Cell.ok, Try.underlying44] at hok
      exact hok.2.2
    have hlt := has_lt hhas
    have hmc : m = cap := by simpa using hmm
    subst hmc
    have each : ∀ i, i < m → ∃ q : Int × Int, W.cell? (a.add (i * 2)) = some (.int .i8 q.1) ∧ W.cell? (a.add (i * 2 + 1)) = some (.int .i8 q.2) ∧ Pl i = [] ∧ (Lit.int .i8 q.1).wf = true ∧ (Lit.int .i8 q.2).wf = true := by
      intro i hi
      obtain ⟨cs', g1, g2⟩ := hall i hi
      rw [cells52] at g1
      obtain ⟨x, y, rfl, hp, wx, wy⟩ := pair8 g2
      obtain ⟨_, _, hc⟩ := World.cells?_some g1
      have c0 := hc 0 (by omega)
      have c1 := hc 1 (by omega)
      rw [Deep.add_add] at c0 c1
      exact ⟨(x, y), by simpa using c0, by simpa using c1, hp, wx, wy⟩
    obtain ⟨q, hq⟩ := Deep.choose_lt each
    have hD : ∀ i, i < len → (if i < len then q i else (0, 0)) = q i := fun i hi => if_pos hi
    refine ⟨some a, len, m, fun i => if i < len then q i else (0, 0), rfl, ⟨fun i hi => ⟨a, rfl, hlt, ?_, ?_⟩⟩, fun i => ?_, by omega, fun W' hbel => Below.trod laidK rec44 row44 h0 hbel fun x hxp => ?_⟩
    · show W.cell? (a.add (i * 2)) = some (.int .i8 (if i < len then q i else (0, 0)).1)
      rw [hD i hi]; exact (hq i (by omega)).1
    · show W.cell? (a.add (i * 2 + 1)) = some (.int .i8 (if i < len then q i else (0, 0)).2)
      rw [hD i hi]; exact (hq i (by omega)).2.1
    · show (-128 ≤ (if i < len then q i else (0, 0)).1 ∧ (if i < len then q i else (0, 0)).1 ≤ 128) ∧ (-128 ≤ (if i < len then q i else (0, 0)).2 ∧ (if i < len then q i else (0, 0)).2 ≤ 128)
      by_cases hi : i < len
      · rw [if_pos hi]
        have b1 := bounds_i8 (hq i (by omega)).2.2.2.1
        have b2 := bounds_i8 (hq i (by omega)).2.2.2.2
        omega
      · rw [if_neg hi]; decide
    · injection hx with _ hx
      rw [hx] at hxp
      rcases List.mem_append.mp hxp with hr | hr
      · obtain ⟨i, _, rfl⟩ := List.mem_map.mp hr
        exact hlt
      · obtain ⟨i, hi, hr⟩ := List.mem_flatMap.mp hr
        rw [(hq i (List.mem_range.mp hi)).2.2.1] at hr
        simp at hr
set_option maxRecDepth 100000 in
theorem open_byte {H : Type} {enc : TypeId × Value → H} {W : World} {b0 : Nat} {v : Value} {d : DataW H} {p : List MemPlace} (hok : Value.okWide Try.prog W .any b0 5 v)
    (h : DataW.Trod enc Try.prog W 0 (fun _ => true) true 5 v d p) :
    ∃ x : Nat, v = .int .u8 (x : Int) ∧ x < 256 ∧ ∀ (W' : World) (sp : Nat → Bool), DataW.Trod enc Try.prog W' 0 sp true 5 v d p := by
  obtain ⟨k, hk⟩ := h
  obtain ⟨x, e0, e1, wx⟩ := DataW.trod_int Try.underlying5 hk
  have hv2 : v = .int .u8 x := by
    cases v <;> simp [Value.cells] at e0 ⊢
    all_goals first | exact e0 | (simp [Value.okWide, Cell.okWide, Cell.ok, Try.underlying5] at hok)
  subst hv2
  injection e1 with e1 e2
  subst e1 e2
  have hb := bounds_u8 wx
  obtain ⟨a, rfl⟩ := Int.eq_ofNat_of_zero_le hb.1
  exact ⟨a, rfl, by omega, fun W' sp => ⟨1, by simp [Value.cells, DataW.trod, Try.underlying5, wx]⟩⟩
set_option maxRecDepth 100000 in
theorem lifted_rows (os : Os) (started : os.Started) (H : Type) (enc : TypeId × Value → H) :
    ReturnsInHanded {} Try.checked os 5 .any (Rows.flatRowsSpec.pre6 enc Try.prog Try.f5 Rows.flatRowsRow.domain false) (Rows.flatRowsSpec.post enc Try.prog Try.f5 false true false false) := by
  refine returnsInHanded_of_change (C := Try.checked) own started (by kernel_rfl) Try.func5
    (ChangeSpec.witness6 (enc := enc) (C := Try.checked) false ⟨#[], #[.slice none 0 0, .int .u8 0], []⟩ 8 (by kernel_rfl) (by kernel_rfl) (by kernel_rfl) (by kernel_rfl)) ?_
  intro W base args ds gs before hval0 hW hcnd _
  have hval : ∀ (j : Nat) t v, Try.f5.params[j]? = some t → args[j]? = some v → Value.okWide Try.prog W .any base t v := hval0
  have hW' := hW
  obtain ⟨p, q, hA0, hV, rfl, hfz, hnd⟩ := hW
  have hA : DataW.TrodAll enc Try.prog W 0 (fun _ => true) true Try.f5.params.toList args.toList ds p := hA0
  rw [Try.params5] at hA hval
  obtain ⟨v1, v2, d1, d2, p1, p2, rfl, rfl, rfl, h1, h2⟩ := trodAll_two hA
  obtain ⟨rfl, rfl⟩ := trodVars_none hV
  obtain ⟨A, m, c, D, rfl, hP, hD, _, hr1⟩ := open_pairs8 (hval 0 44 v1 rfl rfl) h1
  obtain ⟨b, rfl, hb, hr2⟩ := open_byte (hval 1 5 v2 rfl rfl) h2
  clear hA0 hval0
  simp only [List.append_nil] at hW'
  refine (law_rows A m c D b W hP hD hb).mono fun e W' ⟨he2, hw⟩ => ?_
  subst he2
  exact ⟨_, rfl, post_true (ds := [_, _]) rfl hW' (by kernel_rfl) rfl rfl rfl ⟨_, trodAll_mk2 (hr1 W' hw) (hr2 W' _)⟩ hw⟩
theorem flatRows_holds : Rows.FlatRowsSaid :=
  OpenClaim.holds_of_wide 5 Try.f5 rfl rfl rfl rfl rfl rfl rfl ⟨rfl, rfl, rfl, rfl, rfl⟩ rfl rfl rfl rfl rfl (by kernel_rfl) Try.func5 (by kernel_rfl)
    (of_decide_eq_true (by kernel_rfl)) (by unfold Func.isWrapper; first | (rw [if_pos (by decide +kernel)]; kernel_rfl) | (rw [if_neg (by decide +kernel)]; exact ⟨rfl, rfl⟩))
    (fun os started H enc _ => lifted_rows os started H enc)
end Go.Proofs.Ytlfnagfcggmeaaa
