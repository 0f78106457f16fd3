/- Proved here: the statement OctetReads: whatever a reader is asked, one by one, it answers as the document says, and stands where it should. No condition of our own. -/
import Derived.Test.YtcmgknbngogokaaOk
import Derived.Test.YtcmgknbngogokaaOl
import Derived.Deep.Slices
import Derived.Carry
namespace Go.Proofs.Ytcmgknbngogokaa
open Go.ChangeShapes Go.WideShapes Go.ChangeAt Go.RowKit Go.Joins

theorem cells49 : Try.prog.cellsOf 49 = 2 := by kernel_rfl
theorem cells5 : Try.prog.cellsOf 5 = 1 := by kernel_rfl
theorem cells3 : Try.prog.cellsOf 3 = 1 := by kernel_rfl
theorem rec42 : Try.prog.readableRec 42 = true := by kernel_rfl
theorem row42 : (42 : TypeId) < Try.prog.types.size := of_decide_eq_true (by kernel_rfl)
theorem laidK : laidOutB Try.prog = true := by kernel_rfl
theorem has_lt {P : Program} {W : World} {r : Reach} {b0 n : Nat} {a : Addr} {e : TypeId} (h : W.has P r b0 a e n) : a.block < W.heap.size := by
  rcases Nat.lt_or_ge a.block W.heap.size with hl | hl
  · exact hl
  · obtain ⟨_, _, row, cells, hs, _⟩ := h
    simp [World.shape?, Array.getElem?_eq_none hl] at hs
/-- A deed, opened. -/
theorem deed8 {H : Type} {enc : TypeId × Value → H} {W : World} {sp : Nat → Bool} {n : Nat} {cs : List Value} {x : DataW H × List MemPlace} (h : DataW.trod enc Try.prog W 0 sp true n 49 cs = some x) :
    ∃ (a : Nat) (b : Int), cs = [.int .u8 (a : Int), .int .i64 b] ∧ x.2 = [] := by
  obtain ⟨y0, y1, k, rfl, hl, h0, h1⟩ := trod_struct2 Try.underlying49 h
  rw [cells49] at hl
  rw [cells5] at h0
  rw [cells3] at h1
  match cs, hl with
  | [v0, v1], _ =>
    simp at h0 h1
    obtain ⟨a, e0, e1, w0⟩ := DataW.trod_int Try.underlying5 h0
    obtain ⟨b, f0, f1, _⟩ := DataW.trod_int Try.underlying3 h1
    injection e0 with e0 _
    injection f0 with f0 _
    subst e0 f0 e1 f1
    have ba := bounds_u8 w0
    obtain ⟨a', rfl⟩ := Int.eq_ofNat_of_zero_le ba.1
    exact ⟨a', b, rfl, rfl⟩
set_option maxRecDepth 100000 in
theorem open_deeds {H : Type} {enc : TypeId × Value → H} {W : World} {b0 : Nat} {v : Value} {d : DataW H} {p : List MemPlace} (hok : Value.okWide Try.prog W .any b0 42 v)
    (h : DataW.Trod enc Try.prog W 0 (fun _ => true) true 42 v d p) :
    ∃ A m c xs, v = .slice A m c ∧ Dds W A m xs ∧ ∀ W', Below W.heap.size W W' → DataW.Trod enc Try.prog W' 0 (fun b => decide (b < W.heap.size)) true 42 v d p := by
  have h0 := h
  obtain ⟨n, h⟩ := h
  rcases Deep.open_slice Try.underlying42 h with ⟨h1, h2⟩ | ⟨a, len, cap, m, n', D, Pl, h1, hb, hl, hm, hmm, hx, hall⟩
  · have hv : v = .slice none 0 0 := by
      cases v <;> simp [Value.cells] at h1 ⊢
      all_goals first | exact h1 | (simp [Value.okWide, Cell.okWide, Cell.ok, Try.underlying42] at hok)
    subst hv
    injection h2 with h2 h3
    subst h2 h3
    exact ⟨none, 0, 0, [], rfl, ⟨fun i hi => by omega⟩, fun W' hbel => Below.trod laidK rec42 row42 h0 hbel (fun x hx => by simp at hx)⟩
  · have hv : v = .slice (some a) len cap := by
      cases v <;> simp [Value.cells] at h1 ⊢
      all_goals first | exact h1 | (simp [Value.okWide, Cell.okWide, Cell.ok, Try.underlying42] at hok)
    subst hv
    have hhas : W.has Try.prog .any b0 a 49 cap := by
      simp only [Value.okWide, Cell.okWide, Cell.ok, Try.underlying42] at hok
      exact hok.2.2
    have hlt := has_lt hhas
    have hmc : m = cap := by simpa using hmm
    subst hmc
    have each : ∀ i, i < m → ∃ q : Nat × Int, W.cell? (a.add (i * 2)) = some (.int .u8 (q.1 : Int)) ∧ W.cell? (a.add (i * 2 + 1)) = some (.int .i64 q.2) ∧ Pl i = [] := by
      intro i hi
      obtain ⟨cs', g1, g2⟩ := hall i hi
      rw [cells49] at g1
      obtain ⟨x, y, rfl, hp⟩ := deed8 g2
      obtain ⟨_, _, hc⟩ := World.cells?_some g1
      have c0 := hc 0 (by omega)
      have c1 := hc 1 (by omega)
      rw [Deep.add_add] at c0 c1
      exact ⟨(x, y), by simpa using c0, by simpa using c1, hp⟩
    obtain ⟨q, hq⟩ := Deep.choose_lt each
    have hget : ∀ i, i < len → ((List.range len).map q).getD i (0, 0) = q i := fun i hi => by simp [List.getD, hi]
    refine ⟨some a, len, m, (List.range len).map q, rfl, ⟨fun i hi => ⟨a, rfl, hlt, ?_, ?_⟩⟩, fun W' hbel => Below.trod laidK rec42 row42 h0 hbel fun x hxp => ?_⟩
    · rw [hget i hi]; exact (hq i (by omega)).1
    · rw [hget i hi]; exact (hq i (by omega)).2.1
    · injection hx with _ hx
      rw [hx] at hxp
      rcases List.mem_append.mp hxp with hr | hr
      · obtain ⟨i, _, rfl⟩ := List.mem_map.mp hr
        exact hlt
      · obtain ⟨i, hi, hr⟩ := List.mem_flatMap.mp hr
        rw [(hq i (List.mem_range.mp hi)).2.2] at hr
        simp at hr
set_option maxRecDepth 100000 in
theorem lifted_reads (os : Os) (started : os.Started) (H : Type) (enc : TypeId × Value → H) :
    ReturnsInHanded {} Try.checked os 4 .any (Rows.octetReadsSpec.pre6 enc Try.prog Try.f4 Rows.octetReadsRow.domain false) (Rows.octetReadsSpec.post enc Try.prog Try.f4 false true false false) := by
  refine returnsInHanded_of_change (C := Try.checked) own started (by kernel_rfl) Try.func4
    (ChangeSpec.witness6 (enc := enc) (C := Try.checked) false ⟨#[], #[.string ⟨#[]⟩, .slice none 0 0], []⟩ 8 (by kernel_rfl) (by kernel_rfl) (by kernel_rfl) (by kernel_rfl)) ?_
  intro W base args ds gs before hval0 hW hcnd _
  have hval : ∀ (j : Nat) t v, Try.f4.params[j]? = some t → args[j]? = some v → Value.okWide Try.prog W .any base t v := hval0
  have hW' := hW
  obtain ⟨p, q, hA0, hV, rfl, hfz, hnd⟩ := hW
  have hA : DataW.TrodAll enc Try.prog W 0 (fun _ => true) true Try.f4.params.toList args.toList ds p := hA0
  rw [Try.params4] at hA hval
  obtain ⟨v1, v2, d1, d2, p1, p2, rfl, rfl, rfl, h1, h2⟩ := trodAll_two hA
  obtain ⟨rfl, rfl⟩ := trodVars_none hV
  obtain ⟨s, rfl, rfl, rfl, hs⟩ := Go.ChangeMaps.open_string Try.underlying9 (hval 0 9 v1 rfl rfl) h1
  obtain ⟨A, m, c, xs, rfl, hP, hr2⟩ := open_deeds (hval 1 42 v2 rfl rfl) h2
  clear hA0 hval0
  simp only [List.append_nil] at hW'
  refine (law_reads s A m c xs W hP).mono fun e W' ⟨he2, hw⟩ => ?_
  subst he2
  exact ⟨_, rfl, post_true (ds := [_, _]) rfl hW' (by kernel_rfl) rfl rfl rfl ⟨_, trodAll_mk2 (Go.ChangeMaps.shut_string Try.underlying9 hs) (hr2 W' hw)⟩ hw⟩
theorem octetReads_holds : Rows.OctetReadsSaid :=
  OpenClaim.holds_of_wide 4 Try.f4 rfl rfl rfl rfl rfl rfl rfl ⟨rfl, rfl, rfl, rfl, rfl⟩ rfl rfl rfl rfl rfl (by kernel_rfl) Try.func4 (by kernel_rfl)
    (of_decide_eq_true (by kernel_rfl)) (by unfold Func.isWrapper; first | (rw [if_pos (by decide +kernel)]; kernel_rfl) | (rw [if_neg (by decide +kernel)]; exact ⟨rfl, rfl⟩))
    (fun os started H enc _ => lifted_reads os started H enc)
#print axioms octetReads_holds
end Go.Proofs.Ytcmgknbngogokaa
