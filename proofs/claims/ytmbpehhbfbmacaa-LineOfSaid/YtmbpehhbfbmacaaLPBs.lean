/- Proved here: arguments opened and read again: numbers, points. No condition. -/
import Derived.Test.YtmbpehhbfbmacaaPPBs
import Derived.Test.YtmbpehhbfbmacaaPPPe
import Derived.Test.YtmbpehhbfbmacaaLPBa
import Derived.ProofKit
import Derived.OpenShut
import Derived.ReadAgain
import Derived.ChangeSlices
import Derived.ChangeMaps5
import Derived.Lib.SmallJoins
import Derived.Deep.Slices
import Derived.Deep.Strs
import Derived.ChangeOld
import Derived.Carry
namespace Go.Proofs.Ytmbpehhbfbmacaa
open Go.ChangeShapes Go.WideShapes Go.ChangeAt Go.RowKit Go.Joins

theorem laidK : laidOutB Try.prog = true := by kernel_rfl
/-- The end of a call that returns true and turns nothing that was there. -/
theorem post_true {H : Type} {enc : TypeId × Value → H} {f : Func} {s : ChangeSpec} {W W' : World} {args : Array Value} {ds : List (DataW H)} {before : List MemPlace} (hs : s.vars = [])
    (hW : DataW.Whole enc Try.prog f.params.toList s.vars false W args.toList ds [] before) (hr : f.resultTypes = #[4]) (hres : (s.fn H (ds ++ [])).results = [.lit (.bool true)]) (hargs0 : (s.fn H (ds ++ [])).args = ds) (hvars0 : (s.fn H (ds ++ [])).vars = [])
    (hargs : ∃ pa, DataW.TrodAll enc Try.prog W' 0 (fun b => decide (b < W.heap.size)) true f.params.toList args.toList ds pa) (hb : Below W.heap.size W W') :
    s.post enc Try.prog f false true false false W args (.bool true) W' := by
  obtain ⟨pa, hargs⟩ := hargs
  refine ⟨ds, [], before, [], pa, [], hW, ?_, ?_, ?_, hb.frame _, fun h => by cases h⟩
  · rw [hr, hres]
    exact trodAll_mk1 (shut_bool Try.underlying4 true)
  · rw [hargs0]
    exact hargs
  · rw [hs, hvars0]
    rfl
theorem cells3 : Try.prog.cellsOf 3 = 1 := by kernel_rfl
theorem int_open {H : Type} {enc : TypeId × Value → H} {W : World} {sp : Nat → Bool} {n : Nat} {v : Value} {x : DataW H × List MemPlace} (h : DataW.trod enc Try.prog W 0 sp true n 3 [v] = some x) : ∃ z : Int, v = .int .i64 z := by
  obtain ⟨z, e0, e1, _⟩ := DataW.trod_int Try.underlying3 h
  injection e0 with e0 _
  exact ⟨z, e0⟩
set_option maxRecDepth 100000 in
theorem open_int {H : Type} {enc : TypeId × Value → H} {W : World} {b0 : Nat} {v : Value} {d : DataW H} {p : List MemPlace} (hok : Value.okWide Try.prog W .any b0 3 v)
    (h : DataW.Trod enc Try.prog W 0 (fun _ => true) true 3 v d p) :
    ∃ x : Int, v = .int .i64 x ∧ ∀ (W' : World) (sp : Nat → Bool), DataW.Trod enc Try.prog W' 0 sp true 3 v d p := by
  obtain ⟨k, hk⟩ := h
  obtain ⟨x, e0, e1, wx⟩ := DataW.trod_int Try.underlying3 hk
  have hv2 : v = .int .i64 x := by
    cases v <;> simp [Value.cells] at e0 ⊢
    all_goals first | exact e0 | (simp [Value.okWide, Cell.okWide, Cell.ok, Try.underlying3] at hok)
  subst hv2
  injection e1 with e1 e2
  subst e1 e2
  exact ⟨x, rfl, fun W' sp => ⟨1, by simp [Value.cells, DataW.trod, Try.underlying3, wx]⟩⟩
theorem cells35 : Try.prog.cellsOf 23 = 2 := by kernel_rfl
section
variable {H : Type} {enc : TypeId × Value → H} {W : World} {sp : Nat → Bool} {n : Nat} {x : DataW H × List MemPlace}
/-- A point of a plane, opened. -/
theorem p2_open {cs : List Value} (h : DataW.trod enc Try.prog W 0 sp true n 23 cs = some x) : ∃ a b : Int, cs = [.int .i64 a, .int .i64 b] := by
  obtain ⟨xs, n, _, hx, hcl, hlen, hg⟩ := DataW.trod_struct Try.underlying23 h
  rw [cells35] at hcl
  match cs, hcl with
  | [c0, c1], _ =>
    match xs, hlen.trans (show _ = 2 from rfl) with
    | [y0, y1], _ =>
      have g0 := hg 0 _ rfl
      have g1 := hg 1 _ rfl
      simp [cells3] at g0 g1
      obtain ⟨z0, rfl⟩ := int_open g0
      obtain ⟨z1, rfl⟩ := int_open g1
      exact ⟨z0, z1, rfl⟩
end
end Go.Proofs.Ytmbpehhbfbmacaa
