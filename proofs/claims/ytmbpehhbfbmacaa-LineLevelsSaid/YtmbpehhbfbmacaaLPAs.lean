/- Proved here: points, and arrays of points and of numbers of 32 bits, opened and read again. No condition. -/
import Derived.Test.YtmbpehhbfbmacaaPPBs
import Derived.Test.YtmbpehhbfbmacaaPPPe
import Derived.Test.YtmbpehhbfbmacaaLPBs
namespace Go.Proofs.Ytmbpehhbfbmacaa
open Go.ChangeShapes Go.WideShapes Go.ChangeAt Go.RowKit Go.Joins

theorem rec44 : Try.prog.readableRec 44 = true := by kernel_rfl
theorem row44 : (44 : TypeId) < Try.prog.types.size := of_decide_eq_true (by kernel_rfl)
theorem cells43 : Try.prog.cellsOf 43 = 2 := by kernel_rfl
theorem cells44 : Try.prog.cellsOf 44 = 6 := by kernel_rfl
theorem cells21 : Try.prog.cellsOf 21 = 1 := by kernel_rfl
theorem cells23 : Try.prog.cellsOf 23 = 2 := by kernel_rfl
section
variable {H : Type} {enc : TypeId × Value → H} {W : World} {sp : Nat → Bool} {n : Nat} {x : DataW H × List MemPlace}
theorem pair_open {cs : List Value} (h : DataW.trod enc Try.prog W 0 sp true n 43 cs = some x) : ∃ a b : Int, cs = [.int .i32 a, .int .i32 b] ∧ (-2147483648 ≤ a ∧ a ≤ 2147483647) ∧ (-2147483648 ≤ b ∧ b ≤ 2147483647) := by
  obtain ⟨xs, m, _, _, hl, hx, hi⟩ := DataW.trod_array Try.underlying43 h
  rw [cells43] at hl
  rw [cells21] at hi
  match cs, hl, xs, hx with
  | [v0, v1], _, [y0, y1], _ =>
    have h0 := hi 0 (by omega)
    have h1 := hi 1 (by omega)
    simp at h0 h1
    obtain ⟨a, e0, e1, w0⟩ := DataW.trod_int Try.underlying21 h0
    obtain ⟨b, f0, f1, w1⟩ := DataW.trod_int Try.underlying21 h1
    injection e0 with e0 _
    injection f0 with f0 _
    subst e0 f0
    have ba := bounds_i32 w0
    have bb := bounds_i32 w1
    exact ⟨a, b, rfl, ba, bb⟩
theorem three_open {cs : List Value} (h : DataW.trod enc Try.prog W 0 sp true n 44 cs = some x) : ∃ a b c d e f : Int, cs = [.int .i32 a, .int .i32 b, .int .i32 c, .int .i32 d, .int .i32 e, .int .i32 f] ∧ (-2147483648 ≤ a ∧ a ≤ 2147483647) ∧ (-2147483648 ≤ b ∧ b ≤ 2147483647) ∧ (-2147483648 ≤ c ∧ c ≤ 2147483647)
    ∧ (-2147483648 ≤ d ∧ d ≤ 2147483647) ∧ (-2147483648 ≤ e ∧ e ≤ 2147483647) ∧ (-2147483648 ≤ f ∧ f ≤ 2147483647) := by
  obtain ⟨xs, m, _, _, hl, hx, hi⟩ := DataW.trod_array Try.underlying44 h
  rw [cells44] at hl
  rw [cells43] at hi
  match cs, hl, xs, hx with
  | [v0, v1, v2, v3, v4, v5], _, [y0, y1, y2], _ =>
    have h0 := hi 0 (by omega)
    have h1 := hi 1 (by omega)
    have h2 := hi 2 (by omega)
    simp at h0 h1 h2
    obtain ⟨a, b, e0, ba, bb⟩ := pair_open h0
    obtain ⟨c, d, e1, bc, bd⟩ := pair_open h1
    obtain ⟨e, f, e2, be, bf⟩ := pair_open h2
    simp at e0 e1 e2
    obtain ⟨rfl, rfl⟩ := e0
    obtain ⟨rfl, rfl⟩ := e1
    obtain ⟨rfl, rfl⟩ := e2
    exact ⟨a, b, c, d, e, f, rfl, ba, bb, bc, bd, be, bf⟩
end
theorem agg_of {cs : Array Value} {l : List Value} (h : (Value.agg cs).cells.toList = l) : Value.agg cs = .agg l.toArray := by
  have e : (Value.agg cs).cells = cs := rfl
  rw [e] at h
  rw [← h]
theorem okWide_arr {W : World} {b0 : Nat} {t e : TypeId} {k : Nat} {v : Value} (ht : Try.prog.underlying t = some (.array k e)) (hok : Value.okWide Try.prog W .any b0 t v) : ∃ cs, v = .agg cs := by
  unfold Value.okWide at hok
  rw [ht] at hok
  obtain ⟨cs, h, _⟩ := hok
  exact ⟨cs, h⟩
set_option maxRecDepth 100000 in
theorem open_three {H : Type} {enc : TypeId × Value → H} {W : World} {b0 : Nat} {v : Value} {d : DataW H} {p : List MemPlace} (hok : Value.okWide Try.prog W .any b0 44 v)
    (h : DataW.Trod enc Try.prog W 0 (fun _ => true) true 44 v d p) :
    ∃ a b c e f g : Int, v = .agg #[.int .i32 a, .int .i32 b, .int .i32 c, .int .i32 e, .int .i32 f, .int .i32 g] ∧ ((-2147483648 ≤ a ∧ a ≤ 2147483647) ∧ (-2147483648 ≤ b ∧ b ≤ 2147483647) ∧ (-2147483648 ≤ c ∧ c ≤ 2147483647)
    ∧ (-2147483648 ≤ e ∧ e ≤ 2147483647) ∧ (-2147483648 ≤ f ∧ f ≤ 2147483647) ∧ (-2147483648 ≤ g ∧ g ≤ 2147483647)) ∧ ∀ W', Below W.heap.size W W' → DataW.Trod enc Try.prog W' 0 (fun b => decide (b < W.heap.size)) true 44 v d p := by
  have h0 := h
  obtain ⟨n, h⟩ := h
  obtain ⟨cs, rfl⟩ := okWide_arr Try.underlying44 hok
  obtain ⟨a, b, c, e, f, g, he, hb⟩ := three_open h
  exact ⟨a, b, c, e, f, g, agg_of he, hb, fun W' hbel => Below.trod laidK rec44 row44 h0 hbel (fun x hx => DataW.trod_lt _ _ _ _ h x hx)⟩
end Go.Proofs.Ytmbpehhbfbmacaa
