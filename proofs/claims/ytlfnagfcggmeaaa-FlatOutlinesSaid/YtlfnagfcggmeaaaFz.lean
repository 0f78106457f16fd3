/- Proved here: shapes, and places, as arguments: opened, and read again. No condition. -/
import Derived.Test.YtlfnagfcggmeaaaFD
import Derived.ProofKit
import Derived.OpenShut
import Derived.ReadAgain
import Derived.ChangeSlices
import Derived.ChangeMaps5
import Derived.Lib.SmallJoins
import Derived.Deep.Slices
import Derived.Deep.Strs
import Derived.ChangeOld
import Derived.Carry
namespace Go.Proofs.Ytlfnagfcggmeaaa
open Go.ChangeShapes Go.WideShapes Go.ChangeAt Go.RowKit Go.Joins

theorem laidK : laidOutB Try.prog = true := by kernel_rfl
theorem cells46 : Try.prog.cellsOf 46 = 3 := by kernel_rfl
theorem cells55 : Try.prog.cellsOf 54 = 7 := by kernel_rfl
theorem cells27 : Try.prog.cellsOf 47 = 1 := by kernel_rfl
theorem cells26 : Try.prog.cellsOf 50 = 2 := by kernel_rfl
theorem cells23 : Try.prog.cellsOf 25 = 1 := by kernel_rfl
theorem cells24 : Try.prog.cellsOf 48 = 1 := by kernel_rfl
theorem cells3 : Try.prog.cellsOf 3 = 1 := by kernel_rfl
theorem cells4 : Try.prog.cellsOf 4 = 1 := by kernel_rfl
theorem rec22 : Try.prog.readableRec 22 = true := by kernel_rfl
theorem row22 : (22 : TypeId) < Try.prog.types.size := of_decide_eq_true (by kernel_rfl)
theorem rec34 : Try.prog.readableRec 37 = true := by kernel_rfl
theorem row34 : (37 : TypeId) < Try.prog.types.size := of_decide_eq_true (by kernel_rfl)
theorem list7 {α : Type} {l : List α} (h : l.length = 7) : ∃ c0 c1 c2 c3 c4 c5 c6, l = [c0, c1, c2, c3, c4, c5, c6] := by
  match l, h with
  | [c0, c1, c2, c3, c4, c5, c6], _ => exact ⟨c0, c1, c2, c3, c4, c5, c6, rfl⟩
section
variable {H : Type} {enc : TypeId × Value → H} {W : World} {sp : Nat → Bool} {n : Nat} {x : DataW H × List MemPlace}
theorem int_open {v : Value} (h : DataW.trod enc Try.prog W 0 sp true n 3 [v] = some x) : ∃ z : Int, v = .int .i64 z := by
  obtain ⟨z, e0, e1, _⟩ := DataW.trod_int Try.underlying3 h
  injection e0 with e0 _
  exact ⟨z, e0⟩
theorem bool_open {v : Value} (h : DataW.trod enc Try.prog W 0 sp true n 4 [v] = some x) : ∃ z : Bool, v = .bool z := by
  obtain ⟨z, e0, e1⟩ := DataW.trod_bool Try.underlying4 h
  injection e0 with e0 _
  exact ⟨z, e0⟩
/-- A point, opened. -/
theorem pt_open {cs : List Value} (h : DataW.trod enc Try.prog W 0 sp true n 46 cs = some x) :
    ∃ (a b : Int) (o : Bool), cs = [.int .i64 a, .int .i64 b, .bool o] := by
  obtain ⟨y0, y1, y2, k, _, hl, h0, h1, h2⟩ := Deep.trod_struct3 Try.underlying46 h
  rw [cells46] at hl
  rw [cells3] at h0 h1
  rw [cells4] at h2
  match cs, hl with
  | [v0, v1, v2], _ =>
    simp at h0 h1 h2
    obtain ⟨a, rfl⟩ := int_open h0
    obtain ⟨b, rfl⟩ := int_open h1
    obtain ⟨o, rfl⟩ := bool_open h2
    exact ⟨a, b, o, rfl⟩
/-- A list of points, read. -/
theorem pts_read {cs : List Value} (h : DataW.trod enc Try.prog W 0 sp true n 47 cs = some x) :
    ∃ A m c L, cs = [.slice A m c] ∧ Ptl W A m L := by
  rcases Deep.open_slice Try.underlying47 h with ⟨h1, _⟩ | ⟨a, len, cap, m, n', D, Pq, h1, hb, hl, hm, hmm, _, hall⟩
  · exact ⟨none, 0, 0, [], h1, Ptl.nil _⟩
  · have hml : len ≤ m := by rw [hmm]; split <;> omega
    have each : ∀ i, i < m → ∃ q : Pt, W.cell? (a.add (i * 3)) = some (.int .i64 q.1) ∧ W.cell? (a.add (i * 3 + 1)) = some (.int .i64 q.2.1) ∧ W.cell? (a.add (i * 3 + 2)) = some (.bool q.2.2) := by
      intro i hi
      obtain ⟨cs', g1, g2⟩ := hall i hi
      rw [cells46] at g1
      obtain ⟨x, y, o, rfl⟩ := pt_open g2
      obtain ⟨_, _, hc⟩ := World.cells?_some g1
      have c0 := hc 0 (by omega)
      have c1 := hc 1 (by omega)
      have c2 := hc 2 (by omega)
      rw [Deep.add_add] at c0 c1 c2
      exact ⟨(x, y, o), by simpa using c0, by simpa using c1, by simpa using c2⟩
    obtain ⟨q, hq⟩ := Deep.choose_lt each
    refine ⟨some a, len, cap, (List.range len).map q, h1, ⟨by simp, fun i hi => ?_⟩⟩
    obtain ⟨q1, q2, q3⟩ := hq i (by omega)
    have e1 : px ((List.range len).map q) i = (q i).1 := by simp [px, List.getD, hi]
    have e2 : py ((List.range len).map q) i = (q i).2.1 := by simp [py, List.getD, hi]
    have e3 : po ((List.range len).map q) i = (q i).2.2 := by simp [po, List.getD, hi]
    have hlt := World.block_lt_of_cell? _ _ q1
    rw [block_of_add] at hlt
    exact ⟨a, rfl, hlt, by rw [e1]; exact q1, by rw [e2]; exact q2, by rw [e3]; exact q3⟩
/-- A list of contours, read. -/
theorem cts_read {cs : List Value} (h : DataW.trod enc Try.prog W 0 sp true n 25 cs = some x) :
    ∃ A m c LL, cs = [.slice A m c] ∧ Ctl W A m LL := by
  rcases Deep.open_slice1 Try.underlying25 cells27 h with ⟨h1, _⟩ | ⟨a, len, cap, m, n', V, D, Pq, h1, hb, hl, hm, hmm, _, hall⟩
  · exact ⟨none, 0, 0, [], h1, Ctl.nil _⟩
  · have hml : len ≤ m := by rw [hmm]; split <;> omega
    have each : ∀ i, i < m → ∃ L : List Pt, ∃ B c, W.cell? (a.add i) = some (.slice B L.length c) ∧ Ptl W B L.length L := by
      intro i hi
      obtain ⟨g1, g2⟩ := hall i hi
      obtain ⟨B, k, c, L, e, hp⟩ := pts_read g2
      injection e with e _
      rw [e] at g1
      have hk := hp.len
      exact ⟨L, B, c, by rw [hk]; exact g1, by rw [hk]; exact hp⟩
    obtain ⟨q, hq⟩ := Deep.choose_lt each
    refine ⟨some a, len, cap, (List.range len).map q, h1, ⟨by simp, fun i hi => ?_⟩⟩
    obtain ⟨B, c, q1, q2⟩ := hq i (by omega)
    have hlt := World.block_lt_of_cell? _ _ q1
    rw [block_of_add] at hlt
    rw [ct_gen hi]
    exact ⟨a, B, c, rfl, hlt, q1, q2⟩
/-- A part, opened. -/
theorem part_open {cs : List Value} (h : DataW.trod enc Try.prog W 0 sp true n 54 cs = some x) : ∃ q : C.Prt, cs = C.prC q := by
  obtain ⟨xs, n, _, hx, hcl, hlen, hg⟩ := DataW.trod_struct Try.underlying54 h
  rw [cells55] at hcl
  obtain ⟨c0, c1, c2, c3, c4, c5, c6, rfl⟩ := list7 hcl
  obtain ⟨y0, y1, y2, y3, y4, y5, y6, rfl⟩ := list7 (hlen.trans rfl)
  have g0 := hg 0 _ rfl
  have g1 := hg 1 _ rfl
  have g2 := hg 2 _ rfl
  have g3 := hg 3 _ rfl
  have g4 := hg 4 _ rfl
  have g5 := hg 5 _ rfl
  have g6 := hg 6 _ rfl
  simp [cells3] at g0 g1 g2 g3 g4 g5 g6
  obtain ⟨z0, rfl⟩ := int_open g0
  obtain ⟨z1, rfl⟩ := int_open g1
  obtain ⟨z2, rfl⟩ := int_open g2
  obtain ⟨z3, rfl⟩ := int_open g3
  obtain ⟨z4, rfl⟩ := int_open g4
  obtain ⟨z5, rfl⟩ := int_open g5
  obtain ⟨z6, rfl⟩ := int_open g6
  exact ⟨(z0, z1, z2, z3, z4, z5, z6), rfl⟩
/-- A list of parts, read. -/
theorem prts_read {cs : List Value} (h : DataW.trod enc Try.prog W 0 sp true n 48 cs = some x) :
    ∃ A m c L, cs = [.slice A m c] ∧ C.Prl W A m L := by
  rcases Deep.open_slice Try.underlying48 h with ⟨h1, _⟩ | ⟨a, len, cap, m, n', D, Pq, h1, hb, hl, hm, hmm, _, hall⟩
  · exact ⟨none, 0, 0, [], h1, C.Prl.nil _⟩
  · have hml : len ≤ m := by rw [hmm]; split <;> omega
    have each : ∀ i, i < m → ∃ q : C.Prt, ∀ j u, (C.prC q)[j]? = some u → W.cell? (a.add (i * 7 + j)) = some u := by
      intro i hi
      obtain ⟨cs', g1, g2⟩ := hall i hi
      rw [cells55] at g1
      obtain ⟨q, rfl⟩ := part_open g2
      obtain ⟨_, _, hc⟩ := World.cells?_some g1
      refine ⟨q, fun j u hu => ?_⟩
      have hj : j < 7 := by
        rcases Nat.lt_or_ge j 7 with hl | hl
        · exact hl
        · rw [List.getElem?_eq_none (by show 7 ≤ j; omega)] at hu; cases hu
      have c0 := hc j hj
      rw [Deep.add_add] at c0
      rw [c0]
      exact hu
    obtain ⟨q, hq⟩ := Deep.choose_lt each
    have hget : ∀ i, i < len → C.qp ((List.range len).map q) i = q i := fun i hi => by simp [C.qp, List.getD, hi]
    refine ⟨some a, len, cap, (List.range len).map q, h1, ⟨by simp, fun i hi => ?_⟩⟩
    have hlt := World.block_lt_of_cell? _ _ (hq i (by omega) 0 _ rfl)
    rw [block_of_add] at hlt
    exact ⟨a, rfl, hlt, fun j u hu => by rw [hget i hi] at hu; exact hq i (by omega) j u hu⟩
/-- A shape, opened. -/
theorem shp_open {cs : List Value} (h : DataW.trod enc Try.prog W 0 sp true n 50 cs = some x) :
    ∃ (s : Shp) (B : Option Addr) (c : Nat) (B' : Option Addr) (c' : Nat), cs = [.slice B s.1.length c, .slice B' s.2.length c'] ∧ Ctl W B s.1.length s.1 ∧ C.Prl W B' s.2.length s.2 := by
  obtain ⟨y0, y1, k, _, hl, h0, h1⟩ := trod_struct2 Try.underlying50 h
  rw [cells26] at hl
  rw [cells23] at h0
  rw [cells24] at h1
  match cs, hl with
  | [v0, v1], _ =>
    simp at h0 h1
    obtain ⟨B, m, c, LL, e0, hC⟩ := cts_read h0
    obtain ⟨B', m', c', L, e1, hP⟩ := prts_read h1
    injection e0 with e0 _
    injection e1 with e1 _
    have hm := hC.len
    have hm' := hP.len
    subst hm hm'
    exact ⟨(LL, L), B, c, B', c', by rw [e0, e1], hC, hP⟩
end
set_option maxRecDepth 100000 in
/-- A list of shapes, opened, and read again. -/
theorem open_shapes {H : Type} {enc : TypeId × Value → H} {W : World} {b0 : Nat} {v : Value} {d : DataW H} {p : List MemPlace} (hok : Value.okWide Try.prog W .any b0 22 v)
    (h : DataW.Trod enc Try.prog W 0 (fun _ => true) true 22 v d p) :
    ∃ A m c SS, v = .slice A m c ∧ Shl W A m SS ∧ m < 9223372036854775808 ∧ ∀ W', Below W.heap.size W W' → DataW.Trod enc Try.prog W' 0 (fun b => decide (b < W.heap.size)) true 22 v d p := by
  have h0 := h
  obtain ⟨n, h⟩ := h
  have hagain : ∀ W', Below W.heap.size W W' → DataW.Trod enc Try.prog W' 0 (fun b => decide (b < W.heap.size)) true 22 v d p := fun W' hbel =>
    Below.trod laidK rec22 row22 h0 hbel (fun x hx => DataW.trod_lt _ _ _ _ h x hx)
  rcases Deep.open_slice Try.underlying22 h with ⟨h1, _⟩ | ⟨a, len, cap, m, n', D, Pq, h1, hb, hl, hm, hmm, _, hall⟩
  · have hv : v = .slice none 0 0 := by
      cases v <;> simp [Value.cells] at h1 ⊢
      all_goals first | exact h1 | (simp [Value.okWide, Cell.okWide, Cell.ok, Try.underlying22] at hok)
    subst hv
    exact ⟨none, 0, 0, [], rfl, ⟨rfl, fun i hi => by omega⟩, by omega, hagain⟩
  · have hv : v = .slice (some a) len cap := by
      cases v <;> simp [Value.cells] at h1 ⊢
      all_goals first | exact h1 | (simp [Value.okWide, Cell.okWide, Cell.ok, Try.underlying22] at hok)
    subst hv
    have hml : len ≤ m := by rw [hmm]; split <;> omega
    have each : ∀ i, i < m → ∃ s : Shp, ∃ B c B' c', W.cell? (a.add (i * 2)) = some (.slice B s.1.length c) ∧ W.cell? (a.add (i * 2 + 1)) = some (.slice B' s.2.length c') ∧ Ctl W B s.1.length s.1 ∧ C.Prl W B' s.2.length s.2 := by
      intro i hi
      obtain ⟨cs', g1, g2⟩ := hall i hi
      rw [cells26] at g1
      obtain ⟨s, B, c, B', c', rfl, hC, hP⟩ := shp_open g2
      obtain ⟨_, _, hc⟩ := World.cells?_some g1
      have c0 := hc 0 (by omega)
      have c1 := hc 1 (by omega)
      rw [Deep.add_add] at c0 c1
      exact ⟨s, B, c, B', c', by simpa using c0, by simpa using c1, hC, hP⟩
    obtain ⟨q, hq⟩ := Deep.choose_lt each
    refine ⟨some a, len, cap, (List.range len).map q, rfl, ⟨by simp, fun i hi => ?_⟩, by unfold maxLen at hm; omega, hagain⟩
    obtain ⟨B, c, B', c', q1, q2, q3, q4⟩ := hq i (by omega)
    have hlt := World.block_lt_of_cell? _ _ q1
    rw [block_of_add] at hlt
    have e : sh ((List.range len).map q) i = q i := by simp [sh, List.getD, hi]
    rw [e]
    exact ⟨a, B, c, B', c', rfl, hlt, q1, q2, q3, q4⟩
set_option maxRecDepth 100000 in
/-- A list of numbers, opened, and read again. -/
theorem open_ints {H : Type} {enc : TypeId × Value → H} {W : World} {b0 : Nat} {v : Value} {d : DataW H} {p : List MemPlace} (hok : Value.okWide Try.prog W .any b0 37 v)
    (h : DataW.Trod enc Try.prog W 0 (fun _ => true) true 37 v d p) :
    ∃ A m c xs, v = .slice A m c ∧ Il .i64 W A m xs ∧ m < 9223372036854775808 ∧ ∀ W', Below W.heap.size W W' → DataW.Trod enc Try.prog W' 0 (fun b => decide (b < W.heap.size)) true 37 v d p := by
  have h0 := h
  obtain ⟨n, h⟩ := h
  have hagain : ∀ W', Below W.heap.size W W' → DataW.Trod enc Try.prog W' 0 (fun b => decide (b < W.heap.size)) true 37 v d p := fun W' hbel =>
    Below.trod laidK rec34 row34 h0 hbel (fun x hx => DataW.trod_lt _ _ _ _ h x hx)
  rcases Deep.open_slice1 Try.underlying37 cells3 h with ⟨h1, _⟩ | ⟨a, len, cap, m, n', V, D, Pq, h1, hb, hl, hm, hmm, _, hall⟩
  · have hv : v = .slice none 0 0 := by
      cases v <;> simp [Value.cells] at h1 ⊢
      all_goals first | exact h1 | (simp [Value.okWide, Cell.okWide, Cell.ok, Try.underlying37] at hok)
    subst hv
    exact ⟨none, 0, 0, [], rfl, Il.nil _ _, by omega, hagain⟩
  · have hv : v = .slice (some a) len cap := by
      cases v <;> simp [Value.cells] at h1 ⊢
      all_goals first | exact h1 | (simp [Value.okWide, Cell.okWide, Cell.ok, Try.underlying37] at hok)
    subst hv
    have hml : len ≤ m := by rw [hmm]; split <;> omega
    have each : ∀ i, i < m → ∃ z : Int, W.cell? (a.add i) = some (.int .i64 z) := by
      intro i hi
      obtain ⟨g1, g2⟩ := hall i hi
      obtain ⟨z, e⟩ := int_open g2
      rw [e] at g1
      exact ⟨z, g1⟩
    obtain ⟨q, hq⟩ := Deep.choose_lt each
    refine ⟨some a, len, cap, (List.range len).map q, rfl, ⟨by simp, fun i hi => ?_⟩, by unfold maxLen at hm; omega, hagain⟩
    have q1 := hq i (by omega)
    have hlt := World.block_lt_of_cell? _ _ q1
    rw [block_of_add] at hlt
    have e : co ((List.range len).map q) i = q i := by simp [co, List.getD, hi]
    rw [e]
    exact ⟨a, rfl, hlt, q1⟩
end Go.Proofs.Ytlfnagfcggmeaaa
