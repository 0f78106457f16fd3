/- Proved here: the statement TableTurned: a font of which one byte within a table is another one is refused, by its sum, but of four bytes of the table head. No condition of our own. -/
import Derived.Test.YtlidagofjkilgaaXe
import Derived.Test.YtlidagofjkilgaaYa
import Derived.ProofKit
import Derived.OpenShut
import Derived.ReadAgain
import Derived.ChangeSlices
import Derived.ChangeMaps5
import Derived.Lib.SmallJoins
import Derived.Deep.Slices
import Derived.Carry
namespace Go.Proofs.Ytlidagofjkilgaa
open Go.ChangeShapes Go.WideShapes Go.ChangeAt Go.RowKit Go.Joins

theorem cells41 : Try.prog.cellsOf 41 = 2 := by kernel_rfl
theorem cells5 : Try.prog.cellsOf 5 = 1 := by kernel_rfl
theorem rec41 : Try.prog.readableRec 41 = true := by kernel_rfl
theorem row41 : (41 : TypeId) < Try.prog.types.size := of_decide_eq_true (by kernel_rfl)
theorem pair_open {H : Type} {enc : TypeId × Value → H} {W : World} {sp : Nat → Bool} {n : Nat} {cs : List Value} {x : DataW H × List MemPlace} (h : DataW.trod enc Try.prog W 0 sp true n 41 cs = some x) :
    ∃ a b : Nat, cs = [.int .u8 (a : Int), .int .u8 (b : Int)] ∧ x.2 = [] ∧ a < 256 ∧ b < 256 := by
  obtain ⟨xs, m, _, rfl, hl, hx, hi⟩ := DataW.trod_array Try.underlying41 h
  rw [cells41] at hl
  rw [cells5] at hi
  match cs, hl, xs, hx with
  | [v0, v1], _, [y0, y1], _ =>
    have h0 := hi 0 (by omega)
    have h1 := hi 1 (by omega)
    simp at h0 h1
    obtain ⟨a, e0, e1, w0⟩ := DataW.trod_int Try.underlying5 h0
    obtain ⟨b, f0, f1, w1⟩ := DataW.trod_int Try.underlying5 h1
    injection e0 with e0 _
    injection f0 with f0 _
    subst e0 f0 e1 f1
    have ba := bounds_u8 w0
    have bb := bounds_u8 w1
    obtain ⟨a', rfl⟩ := Int.eq_ofNat_of_zero_le ba.1
    obtain ⟨b', rfl⟩ := Int.eq_ofNat_of_zero_le bb.1
    exact ⟨a', b', rfl, rfl, by omega, by omega⟩
set_option maxRecDepth 100000 in
/-- An argument of two bytes: opened, and read again. -/
theorem open_two {H : Type} {enc : TypeId × Value → H} {W : World} {b0 : Nat} {v : Value} {d : DataW H} {p : List MemPlace} (hok : Value.okWide Try.prog W .any b0 41 v)
    (h : DataW.Trod enc Try.prog W 0 (fun _ => true) true 41 v d p) :
    ∃ a b : Nat, v = .agg #[.int .u8 (a : Int), .int .u8 (b : Int)] ∧ a < 256 ∧ b < 256 ∧ ∀ W', Below W.heap.size W W' → DataW.Trod enc Try.prog W' 0 (fun b => decide (b < W.heap.size)) true 41 v d p := by
  have hok2 : ∃ cs, v = .agg cs ∧ cs.size = Try.prog.cellsOf 41 ∧ Row.okWide Try.prog W .any b0 41 cs := by
    unfold Value.okWide at hok
    rw [Try.underlying41] at hok
    exact hok
  obtain ⟨cs, rfl, hsz, _⟩ := hok2
  have h0 := h
  obtain ⟨n, hn⟩ := h
  rw [cells41] at hsz
  obtain ⟨c0, c1, rfl⟩ := array2 hsz
  obtain ⟨a, b, he, hp, ha, hb⟩ := pair_open hn
  have he2 : [c0, c1] = [Value.int .u8 (a : Int), .int .u8 (b : Int)] := by simpa [Value.cells] using he
  injection he2 with e0 e1
  injection e1 with e1 _
  subst e0 e1
  exact ⟨a, b, rfl, ha, hb, fun W' hbel => Below.trod laidK rec41 row41 h0 hbel (fun x hx => by
    have hp2 : p = [] := hp
    rw [hp2] at hx
    simp at hx)⟩
set_option maxRecDepth 100000 in
theorem lifted_turned (os : Os) (started : os.Started) (H : Type) (enc : TypeId × Value → H) :
    ReturnsInHanded {} Try.checked os 5 .any (Rows.tableTurnedSpec.pre6 enc Try.prog Try.f5 Rows.tableTurnedRow.domain false) (Rows.tableTurnedSpec.post enc Try.prog Try.f5 false true false false) := by
  refine returnsInHanded_of_change (C := Try.checked) own started (by kernel_rfl) Try.func5
    (ChangeSpec.witness6 (enc := enc) (C := Try.checked) false ⟨#[], #[.slice none 0 0, .agg #[.int .u8 0, .int .u8 0], .int .u8 0], []⟩ 8 (by kernel_rfl) (by kernel_rfl) (by kernel_rfl) (by kernel_rfl)) ?_
  intro W base args ds gs before hval0 hW hcnd _
  have hval : ∀ (j : Nat) t v, Try.f5.params[j]? = some t → args[j]? = some v → Value.okWide Try.prog W .any base t v := hval0
  have hW' := hW
  obtain ⟨p, q, hA0, hV, rfl, hfz, hnd⟩ := hW
  have hA : DataW.TrodAll enc Try.prog W 0 (fun _ => true) true Try.f5.params.toList args.toList ds p := hA0
  rw [Try.params5] at hA hval
  obtain ⟨v1, v2, v3, d1, d2, d3, p1, p2, p3, rfl, rfl, rfl, h1, h2, h3⟩ := trodAll_three hA
  obtain ⟨rfl, rfl⟩ := trodVars_none hV
  obtain ⟨A, m, c, L, rfl, hmc, hcm, hP, hr1⟩ := open_tabs (hval 0 22 v1 rfl rfl) h1
  obtain ⟨a0, a1, rfl, ha0, ha1, hr2⟩ := open_two (hval 1 41 v2 rfl rfl) h2
  obtain ⟨cb, rfl, hcb, hr3⟩ := open_byte (hval 2 5 v3 rfl rfl) h3
  clear hA0 hval0
  simp only [List.append_nil] at hW'
  refine (law_turned A m c L a0 a1 cb W hP hmc hcm ha0 ha1 hcb).mono fun e W' ⟨he2, hw⟩ => ?_
  subst he2
  exact ⟨_, rfl, post_true (ds := [_, _, _]) rfl hW' (by kernel_rfl) rfl rfl rfl ⟨_, trodAll_mk3 (hr1 W' hw) (hr2 W' hw) (hr3 W' _)⟩ hw⟩
theorem tableTurned_holds : Rows.TableTurnedSaid :=
  OpenClaim.holds_of_wide 5 Try.f5 rfl rfl rfl rfl rfl rfl rfl ⟨rfl, rfl, rfl, rfl, rfl⟩ rfl rfl rfl rfl rfl (by kernel_rfl) Try.func5 (by kernel_rfl)
    (of_decide_eq_true (by kernel_rfl)) (by unfold Func.isWrapper; first | (rw [if_pos (by decide +kernel)]; kernel_rfl) | (rw [if_neg (by decide +kernel)]; exact ⟨rfl, rfl⟩))
    (fun os started H enc _ => lifted_turned os started H enc)
#print axioms tableTurned_holds
end Go.Proofs.Ytlidagofjkilgaa
