/- Proved here: contours, points, edges and numbers as arguments, opened and read again. No condition. -/
import Derived.Test.YtnnanlilnlimaaaEr
import Derived.Test.YtnnanlilnlimaaaRows
import Derived.ProofKit
import Derived.OpenShut
import Derived.ReadAgain
import Derived.ChangeSlices
import Derived.ChangeMaps5
import Derived.Lib.SmallJoins
import Derived.Deep.Slices
import Derived.Deep.Strs
import Derived.ChangeOld
import Derived.Carry
namespace Go.Proofs.Ytnnanlilnlimaaa
open Go.ChangeShapes Go.WideShapes Go.ChangeAt Go.RowKit Go.Joins

theorem ct_gen {n : Nat} {C : Nat → List Pt} {i : Nat} (h : i < n) : ct ((List.range n).map C) i = C i := by
  unfold ct
  simp [h]
theorem px_gen {n : Nat} {P : Nat → Pt} {i : Nat} (h : i < n) : px ((List.range n).map P) i = (P i).1 ∧ py ((List.range n).map P) i = (P i).2.1 ∧ po ((List.range n).map P) i = (P i).2.2 := by
  unfold px py po
  have e : ((List.range n).map P).getD i (0, 0, false) = P i := by simp [h]
  rw [e]
  exact ⟨rfl, rfl, rfl⟩
theorem laidK : laidOutB Try.prog = true := by kernel_rfl
theorem own : ownKnob Try.prog.godebug = none := by kernel_rfl
/-- The end of a call that returns true and turns nothing that was there. -/
theorem post_true {H : Type} {enc : TypeId × Value → H} {f : Func} {s : ChangeSpec} {W W' : World} {args : Array Value} {ds : List (DataW H)} {before : List MemPlace} (hs : s.vars = [])
    (hW : DataW.Whole enc Try.prog f.params.toList s.vars false W args.toList ds [] before) (hr : f.resultTypes = #[4]) (hres : (s.fn H (ds ++ [])).results = [.lit (.bool true)]) (hargs0 : (s.fn H (ds ++ [])).args = ds) (hvars0 : (s.fn H (ds ++ [])).vars = [])
    (hargs : ∃ pa, DataW.TrodAll enc Try.prog W' 0 (fun b => decide (b < W.heap.size)) true f.params.toList args.toList ds pa) (hb : Below W.heap.size W W') :
    s.post enc Try.prog f false true false false W args (.bool true) W' := by
  obtain ⟨pa, hargs⟩ := hargs
  refine ⟨ds, [], before, [], pa, [], hW, ?_, ?_, ?_, hb.frame _, fun h => by cases h⟩
  · rw [hr, hres]
    exact trodAll_mk1 (shut_bool Try.underlying4 true)
  · rw [hargs0]
    exact hargs
  · rw [hs, hvars0]
    rfl
theorem cells36 : Try.prog.cellsOf 38 = 1 := by kernel_rfl
theorem cells39 : Try.prog.cellsOf 40 = 3 := by kernel_rfl
theorem cells3 : Try.prog.cellsOf 3 = 1 := by kernel_rfl
theorem cells4 : Try.prog.cellsOf 4 = 1 := by kernel_rfl
theorem rec22 : Try.prog.readableRec 22 = true := by kernel_rfl
theorem row22 : (22 : TypeId) < Try.prog.types.size := of_decide_eq_true (by kernel_rfl)
theorem rec36 : Try.prog.readableRec 38 = true := by kernel_rfl
theorem row36 : (38 : TypeId) < Try.prog.types.size := of_decide_eq_true (by kernel_rfl)
theorem rec39 : Try.prog.readableRec 40 = true := by kernel_rfl
theorem row39 : (40 : TypeId) < Try.prog.types.size := of_decide_eq_true (by kernel_rfl)
theorem int_open {H : Type} {enc : TypeId × Value → H} {W : World} {sp : Nat → Bool} {n : Nat} {v : Value} {x : DataW H × List MemPlace} (h : DataW.trod enc Try.prog W 0 sp true n 3 [v] = some x) : ∃ z : Int, v = .int .i64 z := by
  obtain ⟨z, e0, e1, _⟩ := DataW.trod_int Try.underlying3 h
  injection e0 with e0 _
  exact ⟨z, e0⟩
theorem bool_open {H : Type} {enc : TypeId × Value → H} {W : World} {sp : Nat → Bool} {n : Nat} {v : Value} {x : DataW H × List MemPlace} (h : DataW.trod enc Try.prog W 0 sp true n 4 [v] = some x) : ∃ z : Bool, v = .bool z := by
  obtain ⟨z, e0, e1⟩ := DataW.trod_bool Try.underlying4 h
  injection e0 with e0 _
  exact ⟨z, e0⟩
/-- A point, opened. -/
theorem pt_open {H : Type} {enc : TypeId × Value → H} {W : World} {sp : Nat → Bool} {n : Nat} {cs : List Value} {x : DataW H × List MemPlace} (h : DataW.trod enc Try.prog W 0 sp true n 40 cs = some x) :
    ∃ (a b : Int) (o : Bool), cs = [.int .i64 a, .int .i64 b, .bool o] := by
  obtain ⟨y0, y1, y2, k, _, hl, h0, h1, h2⟩ := Deep.trod_struct3 Try.underlying40 h
  rw [cells39] at hl
  rw [cells3] at h0 h1
  rw [cells4] at h2
  match cs, hl with
  | [v0, v1, v2], _ =>
    simp at h0 h1 h2
    obtain ⟨a, rfl⟩ := int_open h0
    obtain ⟨b, rfl⟩ := int_open h1
    obtain ⟨o, rfl⟩ := bool_open h2
    exact ⟨a, b, o, rfl⟩
/-- A list of points, read. -/
theorem pts_read {H : Type} {enc : TypeId × Value → H} {W : World} {sp : Nat → Bool} {n : Nat} {cs : List Value} {x : DataW H × List MemPlace} (h : DataW.trod enc Try.prog W 0 sp true n 38 cs = some x) :
    ∃ A m c L, cs = [.slice A m c] ∧ Ptl W A m L ∧ m ≤ 9223372036854775807 := by
  rcases Deep.open_slice Try.underlying38 h with ⟨h1, _⟩ | ⟨a, len, cap, m, n', D, Pq, h1, hb, hl, hm, hmm, _, hall⟩
  · exact ⟨none, 0, 0, [], h1, Ptl.nil _, by omega⟩
  · have hml : len ≤ m := by rw [hmm]; split <;> omega
    have each : ∀ i, i < m → ∃ q : Pt, W.cell? (a.add (i * 3)) = some (.int .i64 q.1) ∧ W.cell? (a.add (i * 3 + 1)) = some (.int .i64 q.2.1) ∧ W.cell? (a.add (i * 3 + 2)) = some (.bool q.2.2) := by
      intro i hi
      obtain ⟨cs', g1, g2⟩ := hall i hi
      rw [cells39] at g1
      obtain ⟨x, y, o, rfl⟩ := pt_open g2
      obtain ⟨_, _, hc⟩ := World.cells?_some g1
      have c0 := hc 0 (by omega)
      have c1 := hc 1 (by omega)
      have c2 := hc 2 (by omega)
      rw [Deep.add_add] at c0 c1 c2
      exact ⟨(x, y, o), by simpa using c0, by simpa using c1, by simpa using c2⟩
    obtain ⟨q, hq⟩ := Deep.choose_lt each
    refine ⟨some a, len, cap, (List.range len).map q, h1, ⟨by simp, fun i hi => ?_⟩, by unfold maxLen at hm; omega⟩
    obtain ⟨q1, q2, q3⟩ := hq i (by omega)
    obtain ⟨e1, e2, e3⟩ := px_gen (P := q) hi
    have hlt := World.block_lt_of_cell? _ _ q1
    rw [block_of_add] at hlt
    exact ⟨a, rfl, hlt, by rw [e1]; exact q1, by rw [e2]; exact q2, by rw [e3]; exact q3⟩
set_option maxRecDepth 100000 in
/-- A list of contours, opened, and read again. -/
theorem open_cts {H : Type} {enc : TypeId × Value → H} {W : World} {b0 : Nat} {v : Value} {d : DataW H} {p : List MemPlace} (hok : Value.okWide Try.prog W .any b0 22 v)
    (h : DataW.Trod enc Try.prog W 0 (fun _ => true) true 22 v d p) :
    ∃ A m c LL, v = .slice A m c ∧ Ctl W A m LL ∧ m < 9223372036854775808 ∧ ∀ W', Below W.heap.size W W' → DataW.Trod enc Try.prog W' 0 (fun b => decide (b < W.heap.size)) true 22 v d p := by
  have h0 := h
  obtain ⟨n, h⟩ := h
  have hagain : ∀ W', Below W.heap.size W W' → DataW.Trod enc Try.prog W' 0 (fun b => decide (b < W.heap.size)) true 22 v d p := fun W' hbel =>
    Below.trod laidK rec22 row22 h0 hbel (fun x hx => DataW.trod_lt _ _ _ _ h x hx)
  rcases Deep.open_slice1 Try.underlying22 cells36 h with ⟨h1, _⟩ | ⟨a, len, cap, m, n', V, D, Pq, h1, hb, hl, hm, hmm, _, hall⟩
  · have hv : v = .slice none 0 0 := by
      cases v <;> simp [Value.cells] at h1 ⊢
      all_goals first | exact h1 | (simp [Value.okWide, Cell.okWide, Cell.ok, Try.underlying22] at hok)
    subst hv
    exact ⟨none, 0, 0, [], rfl, Ctl.nil _, by omega, hagain⟩
  · have hv : v = .slice (some a) len cap := by
      cases v <;> simp [Value.cells] at h1 ⊢
      all_goals first | exact h1 | (simp [Value.okWide, Cell.okWide, Cell.ok, Try.underlying22] at hok)
    subst hv
    have hml : len ≤ m := by rw [hmm]; split <;> omega
    have each : ∀ i, i < m → ∃ L : List Pt, ∃ B c, W.cell? (a.add i) = some (.slice B L.length c) ∧ Ptl W B L.length L := by
      intro i hi
      obtain ⟨g1, g2⟩ := hall i hi
      obtain ⟨B, k, c, L, e, hp, _⟩ := pts_read g2
      injection e with e _
      rw [e] at g1
      have hk := hp.len
      exact ⟨L, B, c, by rw [hk]; exact g1, by rw [hk]; exact hp⟩
    obtain ⟨q, hq⟩ := Deep.choose_lt each
    refine ⟨some a, len, cap, (List.range len).map q, rfl, ⟨by simp, fun i hi => ?_⟩, by unfold maxLen at hm; omega, hagain⟩
    obtain ⟨B, c, q1, q2⟩ := hq i (by omega)
    have hlt := World.block_lt_of_cell? _ _ q1
    rw [block_of_add] at hlt
    rw [ct_gen hi]
    exact ⟨a, B, c, rfl, hlt, q1, q2⟩
set_option maxRecDepth 100000 in
/-- A contour, opened, and read again. -/
theorem open_pts {H : Type} {enc : TypeId × Value → H} {W : World} {b0 : Nat} {v : Value} {d : DataW H} {p : List MemPlace} (hok : Value.okWide Try.prog W .any b0 38 v)
    (h : DataW.Trod enc Try.prog W 0 (fun _ => true) true 38 v d p) :
    ∃ A m c L, v = .slice A m c ∧ Ptl W A m L ∧ ∀ W', Below W.heap.size W W' → DataW.Trod enc Try.prog W' 0 (fun b => decide (b < W.heap.size)) true 38 v d p := by
  have h0 := h
  obtain ⟨n, h⟩ := h
  have hagain : ∀ W', Below W.heap.size W W' → DataW.Trod enc Try.prog W' 0 (fun b => decide (b < W.heap.size)) true 38 v d p := fun W' hbel =>
    Below.trod laidK rec36 row36 h0 hbel (fun x hx => DataW.trod_lt _ _ _ _ h x hx)
  obtain ⟨A, m, c, L, h1, hp, _⟩ := pts_read h
  have hv : v = .slice A m c := by
    cases v <;> simp [Value.cells] at h1 ⊢
    all_goals first | exact h1 | (simp [Value.okWide, Cell.okWide, Cell.ok, Try.underlying38] at hok)
  subst hv
  exact ⟨A, m, c, L, rfl, hp, hagain⟩
set_option maxRecDepth 100000 in
theorem open_int {H : Type} {enc : TypeId × Value → H} {W : World} {b0 : Nat} {v : Value} {d : DataW H} {p : List MemPlace} (hok : Value.okWide Try.prog W .any b0 3 v)
    (h : DataW.Trod enc Try.prog W 0 (fun _ => true) true 3 v d p) :
    ∃ x : Int, v = .int .i64 x ∧ ∀ (W' : World) (sp : Nat → Bool), DataW.Trod enc Try.prog W' 0 sp true 3 v d p := by
  obtain ⟨k, hk⟩ := h
  obtain ⟨x, e0, e1, wx⟩ := DataW.trod_int Try.underlying3 hk
  have hv2 : v = .int .i64 x := by
    cases v <;> simp [Value.cells] at e0 ⊢
    all_goals first | exact e0 | (simp [Value.okWide, Cell.okWide, Cell.ok, Try.underlying3] at hok)
  subst hv2
  injection e1 with e1 e2
  subst e1 e2
  exact ⟨x, rfl, fun W' sp => ⟨1, by simp [Value.cells, DataW.trod, Try.underlying3, wx]⟩⟩
theorem cells35 : Try.prog.cellsOf 35 = 2 := by kernel_rfl
theorem cells43 : Try.prog.cellsOf 43 = 8 := by kernel_rfl
theorem rec25 : Try.prog.readableRec 25 = true := by kernel_rfl
theorem row25 : (25 : TypeId) < Try.prog.types.size := of_decide_eq_true (by kernel_rfl)
theorem list5 {α : Type} {l : List α} (h : l.length = 5) : ∃ c0 c1 c2 c3 c4, l = [c0, c1, c2, c3, c4] := by
  match l, h with
  | [c0, c1, c2, c3, c4], _ => exact ⟨c0, c1, c2, c3, c4, rfl⟩
theorem list8 {α : Type} {l : List α} (h : l.length = 8) : ∃ c0 c1 c2 c3 c4 c5 c6 c7, l = [c0, c1, c2, c3, c4, c5, c6, c7] := by
  match l, h with
  | [c0, c1, c2, c3, c4, c5, c6, c7], _ => exact ⟨c0, c1, c2, c3, c4, c5, c6, c7, rfl⟩
section
variable {H : Type} {enc : TypeId × Value → H} {W : World} {sp : Nat → Bool} {n : Nat} {x : DataW H × List MemPlace}
/-- A point of a plane, opened. -/
theorem p2_open {cs : List Value} (h : DataW.trod enc Try.prog W 0 sp true n 35 cs = some x) : ∃ a b : Int, cs = [.int .i64 a, .int .i64 b] := by
  obtain ⟨xs, n, _, hx, hcl, hlen, hg⟩ := DataW.trod_struct Try.underlying35 h
  rw [cells35] at hcl
  match cs, hcl with
  | [c0, c1], _ =>
    match xs, hlen.trans (show _ = 2 from rfl) with
    | [y0, y1], _ =>
      have g0 := hg 0 _ rfl
      have g1 := hg 1 _ rfl
      simp [cells3] at g0 g1
      obtain ⟨z0, rfl⟩ := int_open g0
      obtain ⟨z1, rfl⟩ := int_open g1
      exact ⟨z0, z1, rfl⟩
/-- An edge, opened. -/
theorem edge_open {cs : List Value} (h : DataW.trod enc Try.prog W 0 sp true n 43 cs = some x) : ∃ e : Edg, cs = edC e := by
  obtain ⟨xs, n, _, hx, hcl, hlen, hg⟩ := DataW.trod_struct Try.underlying43 h
  rw [cells43] at hcl
  obtain ⟨c0, c1, c2, c3, c4, c5, c6, c7, rfl⟩ := list8 hcl
  obtain ⟨y0, y1, y2, y3, y4, rfl⟩ := list5 (hlen.trans rfl)
  have g0 := hg 0 _ rfl
  have g1 := hg 1 _ rfl
  have g2 := hg 2 _ rfl
  have g3 := hg 3 _ rfl
  have g4 := hg 4 _ rfl
  simp [cells3, cells4, cells35] at g0 g1 g2 g3 g4
  obtain ⟨z0, rfl⟩ := int_open g0
  obtain ⟨z1, rfl⟩ := bool_open g1
  obtain ⟨ax, ay, e2⟩ := p2_open g2
  obtain ⟨bx, by_, e3⟩ := p2_open g3
  obtain ⟨cx, cy, e4⟩ := p2_open g4
  injection e2 with e21 e22
  injection e22 with e22 _
  injection e3 with e31 e32
  injection e32 with e32 _
  injection e4 with e41 e42
  injection e42 with e42 _
  subst e21 e22 e31 e32 e41 e42
  exact ⟨(z0, z1, (ax, ay), (bx, by_), (cx, cy)), rfl⟩
end
set_option maxRecDepth 100000 in
/-- A list of edges, opened, and read again. -/
theorem open_edges {H : Type} {enc : TypeId × Value → H} {W : World} {b0 : Nat} {v : Value} {d : DataW H} {p : List MemPlace} (hok : Value.okWide Try.prog W .any b0 25 v)
    (h : DataW.Trod enc Try.prog W 0 (fun _ => true) true 25 v d p) :
    ∃ A m c L, v = .slice A m c ∧ Edl W A m L ∧ m ≤ maxLen ∧ ∀ W', Below W.heap.size W W' → DataW.Trod enc Try.prog W' 0 (fun b => decide (b < W.heap.size)) true 25 v d p := by
  have h0 := h
  obtain ⟨n, h⟩ := h
  have hagain : ∀ W', Below W.heap.size W W' → DataW.Trod enc Try.prog W' 0 (fun b => decide (b < W.heap.size)) true 25 v d p := fun W' hbel =>
    Below.trod laidK rec25 row25 h0 hbel (fun x hx => DataW.trod_lt _ _ _ _ h x hx)
  rcases Deep.open_slice Try.underlying25 h with ⟨h1, _⟩ | ⟨a, len, cap, m, n', D, Pq, h1, hb, hl, hm, hmm, _, hall⟩
  · have hv : v = .slice none 0 0 := by
      cases v <;> simp [Value.cells] at h1 ⊢
      all_goals first | exact h1 | (simp [Value.okWide, Cell.okWide, Cell.ok, Try.underlying25] at hok)
    subst hv
    exact ⟨none, 0, 0, [], rfl, Edl.nil _, by unfold maxLen; omega, hagain⟩
  · have hv : v = .slice (some a) len cap := by
      cases v <;> simp [Value.cells] at h1 ⊢
      all_goals first | exact h1 | (simp [Value.okWide, Cell.okWide, Cell.ok, Try.underlying25] at hok)
    subst hv
    have hml : len ≤ m := by rw [hmm]; split <;> omega
    have each : ∀ i, i < m → ∃ q : Edg, ∀ j u, (edC q)[j]? = some u → W.cell? (a.add (i * 8 + j)) = some u := by
      intro i hi
      obtain ⟨cs', g1, g2⟩ := hall i hi
      rw [cells43] at g1
      obtain ⟨q, rfl⟩ := edge_open g2
      obtain ⟨_, _, hc⟩ := World.cells?_some g1
      refine ⟨q, fun j u hu => ?_⟩
      have hj : j < 8 := by
        rcases Nat.lt_or_ge j 8 with hl | hl
        · exact hl
        · rw [List.getElem?_eq_none (by show 8 ≤ j; omega)] at hu; cases hu
      have c0 := hc j hj
      rw [Deep.add_add] at c0
      rw [c0]
      exact hu
    obtain ⟨q, hq⟩ := Deep.choose_lt each
    have hget : ∀ i, i < len → eg ((List.range len).map q) i = q i := fun i hi => by simp [eg, List.getD, hi]
    refine ⟨some a, len, cap, (List.range len).map q, rfl, ⟨by simp, fun i hi => ?_⟩, by omega, hagain⟩
    have hlt := World.block_lt_of_cell? _ _ (hq i (by omega) 0 _ rfl)
    rw [block_of_add] at hlt
    exact ⟨a, rfl, hlt, fun j u hu => by rw [hget i hi] at hu; exact hq i (by omega) j u hu⟩
end Go.Proofs.Ytnnanlilnlimaaa
