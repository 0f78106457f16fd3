/- Proved here: a slice of pairs of numbers of 8 bits, opened and read again. No condition. -/
import Derived.Test.YtpobhegllhhdgaaGreatZg
import Derived.Test.YtpobhegllhhdgaaGreatTa
import Derived.Deep.Slices
import Derived.Carry
namespace Go.Proofs.YtpobhegllhhdgaaGreat
open Go.ChangeShapes Go.WideShapes Go.ChangeAt Go.RowKit Go.Joins

theorem cells52 : Tryz.prog.cellsOf 52 = 2 := by kernel_rfl
theorem cells49 : Tryz.prog.cellsOf 49 = 1 := by kernel_rfl
theorem rec48 : Tryz.prog.readableRec 48 = true := by kernel_rfl
theorem row48 : (48 : TypeId) < Tryz.prog.types.size := of_decide_eq_true (by kernel_rfl)
theorem pair8 {H : Type} {enc : TypeId × Value → H} {W : World} {sp : Nat → Bool} {n : Nat} {cs : List Value} {x : DataW H × List MemPlace} (h : DataW.trod enc Tryz.prog W 0 sp true n 52 cs = some x) :
    ∃ a b : Int, cs = [.int .i8 a, .int .i8 b] ∧ x.2 = [] ∧ (Lit.int .i8 a).wf = true ∧ (Lit.int .i8 b).wf = true := by
  obtain ⟨xs, m, _, rfl, hl, hx, hi⟩ := DataW.trod_array Tryz.underlying52 h
  rw [cells52] at hl
  rw [cells49] at hi
  match cs, hl, xs, hx with
  | [v0, v1], _, [y0, y1], _ =>
    have h0 := hi 0 (by omega)
    have h1 := hi 1 (by omega)
    simp at h0 h1
    obtain ⟨a, e0, e1, w0⟩ := DataW.trod_int Tryz.underlying49 h0
    obtain ⟨b, f0, f1, w1⟩ := DataW.trod_int Tryz.underlying49 h1
    injection e0 with e0 _
    injection f0 with f0 _
    subst e0 f0 e1 f1
    exact ⟨a, b, rfl, rfl, w0, w1⟩
set_option maxRecDepth 100000 in
theorem open_pairs8 {H : Type} {enc : TypeId × Value → H} {W : World} {b0 : Nat} {v : Value} {d : DataW H} {p : List MemPlace} (hok : Value.okWide Tryz.prog W .any b0 48 v)
    (h : DataW.Trod enc Tryz.prog W 0 (fun _ => true) true 48 v d p) :
    ∃ A m c xs, v = .slice A m c ∧ Pr8 W A m xs ∧ m ≤ maxLen ∧ ∀ W', Below W.heap.size W W' → DataW.Trod enc Tryz.prog W' 0 (fun b => decide (b < W.heap.size)) true 48 v d p := by
  have h0 := h
  obtain ⟨n, h⟩ := h
  rcases Deep.open_slice Tryz.underlying48 h with ⟨h1, h2⟩ | ⟨a, len, cap, m, n', D, Pl, h1, hb, hl, hm, hmm, hx, hall⟩
  · have hv : v = .slice none 0 0 := by
      cases v <;> simp [Value.cells] at h1 ⊢
      all_goals first | exact h1 | (simp [Value.okWide, Cell.okWide, Cell.ok, Tryz.underlying48] at hok)
    subst hv
    injection h2 with h2 h3
    subst h2 h3
    exact ⟨none, 0, 0, [], rfl, ⟨rfl, fun i hi => by omega, fun i hi => by omega⟩, by unfold maxLen; omega, fun W' hbel => Below.trod laidK rec48 row48 h0 hbel (fun x hx => by simp at hx)⟩
  · have hv : v = .slice (some a) len cap := by
      cases v <;> simp [Value.cells] at h1 ⊢
      all_goals first | exact h1 | (simp [Value.okWide, Cell.okWide, Cell.ok, Tryz.underlying48] at hok)
    subst hv
    have hhas : W.has Tryz.prog .any b0 a 52 cap := by
      simp only [Value.okWide, Cell.okWide, Cell.ok, Tryz.underlying48] at hok
      exact hok.2.2
    have hlt := has_lt hhas
    have hmc : m = cap := by simpa using hmm
    subst hmc
    have each : ∀ i, i < m → ∃ q : Int × Int, W.cell? (a.add (i * 2)) = some (.int .i8 q.1) ∧ W.cell? (a.add (i * 2 + 1)) = some (.int .i8 q.2) ∧ Pl i = [] ∧ (Lit.int .i8 q.1).wf = true ∧ (Lit.int .i8 q.2).wf = true := by
      intro i hi
      obtain ⟨cs', g1, g2⟩ := hall i hi
      rw [cells52] at g1
      obtain ⟨x, y, rfl, hp, wx, wy⟩ := pair8 g2
      obtain ⟨_, _, hc⟩ := World.cells?_some g1
      have c0 := hc 0 (by omega)
      have c1 := hc 1 (by omega)
      rw [Deep.add_add] at c0 c1
      exact ⟨(x, y), by simpa using c0, by simpa using c1, hp, wx, wy⟩
    obtain ⟨q, hq⟩ := Deep.choose_lt each
    have hget : ∀ i, i < len → ((List.range len).map q).getD i (0, 0) = q i := fun i hi => by simp [List.getD, hi]
    refine ⟨some a, len, m, (List.range len).map q, rfl, ⟨by simp, fun i hi => ⟨a, rfl, hlt, ?_, ?_⟩, fun i hi => ?_⟩, by omega, fun W' hbel => Below.trod laidK rec48 row48 h0 hbel fun x hxp => ?_⟩
    · rw [hget i hi]; exact (hq i (by omega)).1
    · rw [hget i hi]; exact (hq i (by omega)).2.1
    · rw [hget i hi]
      have b1 := bounds_i8 (hq i (by omega)).2.2.2.1
      have b2 := bounds_i8 (hq i (by omega)).2.2.2.2
      omega
    · injection hx with _ hx
      rw [hx] at hxp
      rcases List.mem_append.mp hxp with hr | hr
      · obtain ⟨i, _, rfl⟩ := List.mem_map.mp hr
        exact hlt
      · obtain ⟨i, hi, hr⟩ := List.mem_flatMap.mp hr
        rw [(hq i (List.mem_range.mp hi)).2.2.1] at hr
        simp at hr
end Go.Proofs.YtpobhegllhhdgaaGreat
