/- Proved here: the statements TableAny and TableBack: of any bytes the tables, or the error that is met first, are the document's; tables that may be make the document's font, and are parsed again, others make none. No condition of our own. -/
import Derived.Test.YtlidagofjkilgaaXb
import Derived.Test.YtlidagofjkilgaaRows
import Derived.ProofKit
import Derived.OpenShut
import Derived.ReadAgain
import Derived.ChangeSlices
import Derived.ChangeMaps5
import Derived.Lib.SmallJoins
import Derived.Deep.Slices
import Derived.Carry
namespace Go.Proofs.Ytlidagofjkilgaa
open Go.ChangeShapes Go.WideShapes Go.ChangeAt Go.RowKit Go.Joins

theorem own : ownKnob Try.prog.godebug = none := by kernel_rfl
/-- The end of a call that returns true and turns nothing that was there. -/
theorem post_true {H : Type} {enc : TypeId × Value → H} {f : Func} {s : ChangeSpec} {W W' : World} {args : Array Value} {ds : List (DataW H)} {before : List MemPlace} (hs : s.vars = [])
    (hW : DataW.Whole enc Try.prog f.params.toList s.vars false W args.toList ds [] before) (hr : f.resultTypes = #[4]) (hres : (s.fn H (ds ++ [])).results = [.lit (.bool true)]) (hargs0 : (s.fn H (ds ++ [])).args = ds) (hvars0 : (s.fn H (ds ++ [])).vars = [])
    (hargs : ∃ pa, DataW.TrodAll enc Try.prog W' 0 (fun b => decide (b < W.heap.size)) true f.params.toList args.toList ds pa) (hb : Below W.heap.size W W') :
    s.post enc Try.prog f false true false false W args (.bool true) W' := by
  obtain ⟨pa, hargs⟩ := hargs
  refine ⟨ds, [], before, [], pa, [], hW, ?_, ?_, ?_, hb.frame _, fun h => by cases h⟩
  · rw [hr, hres]
    exact trodAll_mk1 (shut_bool Try.underlying4 true)
  · rw [hargs0]
    exact hargs
  · rw [hs, hvars0]
    rfl
set_option maxRecDepth 100000 in
/-- An argument that is a byte: opened, and read again. -/
theorem open_byte {H : Type} {enc : TypeId × Value → H} {W : World} {b0 : Nat} {v : Value} {d : DataW H} {p : List MemPlace} (hok : Value.okWide Try.prog W .any b0 5 v)
    (h : DataW.Trod enc Try.prog W 0 (fun _ => true) true 5 v d p) :
    ∃ x : Nat, v = .int .u8 (x : Int) ∧ x < 256 ∧ ∀ (W' : World) (sp : Nat → Bool), DataW.Trod enc Try.prog W' 0 sp true 5 v d p := by
  obtain ⟨k, hk⟩ := h
  obtain ⟨x, e0, e1, wx⟩ := DataW.trod_int Try.underlying5 hk
  have hv2 : v = .int .u8 x := by
    cases v <;> simp [Value.cells] at e0 ⊢
    all_goals first | exact e0 | (simp [Value.okWide, Cell.okWide, Cell.ok, Try.underlying5] at hok)
  subst hv2
  injection e1 with e1 e2
  subst e1 e2
  have hb := bounds_u8 wx
  obtain ⟨a, rfl⟩ := Int.eq_ofNat_of_zero_le hb.1
  exact ⟨a, rfl, by omega, fun W' sp => ⟨1, by simp [Value.cells, DataW.trod, Try.underlying5, wx]⟩⟩
theorem laidK : laidOutB Try.prog = true := by kernel_rfl
theorem has_lt {P : Program} {W : World} {r : Reach} {b0 n : Nat} {a : Addr} {e : TypeId} (h : W.has P r b0 a e n) : a.block < W.heap.size := by
  rcases Nat.lt_or_ge a.block W.heap.size with hl | hl
  · exact hl
  · obtain ⟨_, _, row, cells, hs, _⟩ := h
    simp [World.shape?, Array.getElem?_eq_none hl] at hs
theorem cells25 : Try.prog.cellsOf 25 = 2 := by kernel_rfl
theorem cells9 : Try.prog.cellsOf 9 = 1 := by kernel_rfl
theorem rec22 : Try.prog.readableRec 22 = true := by kernel_rfl
theorem row22 : (22 : TypeId) < Try.prog.types.size := of_decide_eq_true (by kernel_rfl)
/-- A table, opened. -/
theorem tab_open {H : Type} {enc : TypeId × Value → H} {W : World} {sp : Nat → Bool} {n : Nat} {cs : List Value} {x : DataW H × List MemPlace} (h : DataW.trod enc Try.prog W 0 sp true n 25 cs = some x) :
    ∃ (a b : ByteArray), cs = [.string a, .string b] ∧ x.2 = [] := by
  obtain ⟨y0, y1, k, rfl, hl, h0, h1⟩ := trod_struct2 Try.underlying25 h
  rw [cells25] at hl
  rw [cells9] at h0
  rw [cells9] at h1
  match cs, hl with
  | [v0, v1], _ =>
    simp at h0 h1
    obtain ⟨a, e0, e1, w0⟩ := DataW.trod_string Try.underlying9 h0
    obtain ⟨b, f0, f1, _⟩ := DataW.trod_string Try.underlying9 h1
    injection e0 with e0 _
    injection f0 with f0 _
    subst e0 f0 e1 f1
    exact ⟨a, b, rfl, rfl⟩
set_option maxRecDepth 100000 in
theorem open_tabs {H : Type} {enc : TypeId × Value → H} {W : World} {b0 : Nat} {v : Value} {d : DataW H} {p : List MemPlace} (hok : Value.okWide Try.prog W .any b0 22 v)
    (h : DataW.Trod enc Try.prog W 0 (fun _ => true) true 22 v d p) :
    ∃ A m c xs, v = .slice A m c ∧ m ≤ c ∧ c ≤ maxLen ∧ Tl W A m xs ∧ ∀ W', Below W.heap.size W W' → DataW.Trod enc Try.prog W' 0 (fun b => decide (b < W.heap.size)) true 22 v d p := by
  have h0 := h
  obtain ⟨n, h⟩ := h
  rcases Deep.open_slice Try.underlying22 h with ⟨h1, h2⟩ | ⟨a, len, cap, m, n', D, Pl, h1, hb, hl, hm, hmm, hx, hall⟩
  · have hv : v = .slice none 0 0 := by
      cases v <;> simp [Value.cells] at h1 ⊢
      all_goals first | exact h1 | (simp [Value.okWide, Cell.okWide, Cell.ok, Try.underlying22] at hok)
    subst hv
    injection h2 with h2 h3
    subst h2 h3
    exact ⟨none, 0, 0, [], rfl, Nat.le_refl _, by unfold maxLen; omega, ⟨rfl, fun i hi => by omega⟩, fun W' hbel => Below.trod laidK rec22 row22 h0 hbel (fun x hx => by simp at hx)⟩
  · have hv : v = .slice (some a) len cap := by
      cases v <;> simp [Value.cells] at h1 ⊢
      all_goals first | exact h1 | (simp [Value.okWide, Cell.okWide, Cell.ok, Try.underlying22] at hok)
    subst hv
    have hhas : W.has Try.prog .any b0 a 25 cap := by
      simp only [Value.okWide, Cell.okWide, Cell.ok, Try.underlying22] at hok
      exact hok.2.2
    have hlt := has_lt hhas
    have hmc : m = cap := by simpa using hmm
    subst hmc
    have each : ∀ i, i < m → ∃ q : List UInt8 × List UInt8, W.cell? (a.add (i * 2)) = some (.string ⟨q.1.toArray⟩) ∧ W.cell? (a.add (i * 2 + 1)) = some (.string ⟨q.2.toArray⟩) ∧ Pl i = [] := by
      intro i hi
      obtain ⟨cs', g1, g2⟩ := hall i hi
      rw [cells25] at g1
      obtain ⟨x, y, rfl, hp⟩ := tab_open g2
      obtain ⟨_, _, hc⟩ := World.cells?_some g1
      have c0 := hc 0 (by omega)
      have c1 := hc 1 (by omega)
      rw [Deep.add_add] at c0 c1
      exact ⟨(x.data.toList, y.data.toList), by rw [← of_list rfl]; simpa using c0, by rw [← of_list rfl]; simpa using c1, hp⟩
    obtain ⟨q, hq⟩ := Deep.choose_lt each
    have hget : ∀ i, i < len → ((List.range len).map q).getD i ([], []) = q i := fun i hi => by simp [List.getD, hi]
    refine ⟨some a, len, m, (List.range len).map q, rfl, by omega, hm, ⟨by simp, fun i hi => ⟨a, rfl, hlt, ?_, ?_⟩⟩, fun W' hbel => Below.trod laidK rec22 row22 h0 hbel fun x hxp => ?_⟩
    · unfold tg; rw [hget i hi]; exact (hq i (by omega)).1
    · unfold dt; rw [hget i hi]; exact (hq i (by omega)).2.1
    · injection hx with _ hx
      rw [hx] at hxp
      rcases List.mem_append.mp hxp with hr | hr
      · obtain ⟨i, _, rfl⟩ := List.mem_map.mp hr
        exact hlt
      · obtain ⟨i, hi, hr⟩ := List.mem_flatMap.mp hr
        rw [(hq i (List.mem_range.mp hi)).2.2] at hr
        simp at hr
set_option maxRecDepth 100000 in
theorem lifted_any (os : Os) (started : os.Started) (H : Type) (enc : TypeId × Value → H) :
    ReturnsInHanded {} Try.checked os 4 .any (Rows.tableAnySpec.pre6 enc Try.prog Try.f4 Rows.tableAnyRow.domain false) (Rows.tableAnySpec.post enc Try.prog Try.f4 false true false false) := by
  refine returnsInHanded_of_change (C := Try.checked) own started (by kernel_rfl) Try.func4
    (ChangeSpec.witness6 (enc := enc) (C := Try.checked) false ⟨#[], #[.string ⟨#[]⟩, .int .u8 0], []⟩ 8 (by kernel_rfl) (by kernel_rfl) (by kernel_rfl) (by kernel_rfl)) ?_
  intro W base args ds gs before hval0 hW hcnd _
  have hval : ∀ (j : Nat) t v, Try.f4.params[j]? = some t → args[j]? = some v → Value.okWide Try.prog W .any base t v := hval0
  have hW' := hW
  obtain ⟨p, q, hA0, hV, rfl, hfz, hnd⟩ := hW
  have hA : DataW.TrodAll enc Try.prog W 0 (fun _ => true) true Try.f4.params.toList args.toList ds p := hA0
  rw [Try.params4] at hA hval
  obtain ⟨v1, v2, d1, d2, p1, p2, rfl, rfl, rfl, h1, h2⟩ := trodAll_two hA
  obtain ⟨rfl, rfl⟩ := trodVars_none hV
  obtain ⟨s, rfl, rfl, rfl, hs⟩ := Go.ChangeMaps.open_string Try.underlying9 (hval 0 9 v1 rfl rfl) h1
  obtain ⟨c, rfl, hc1, hr2⟩ := open_byte (hval 1 5 v2 rfl rfl) h2
  clear hA0 hval0
  simp only [List.append_nil] at hW'
  refine (law_any s c W).mono fun e W' ⟨he2, hw⟩ => ?_
  subst he2
  exact ⟨_, rfl, post_true (ds := [_, _]) rfl hW' (by kernel_rfl) rfl rfl rfl ⟨_, trodAll_mk2 (Go.ChangeMaps.shut_string Try.underlying9 hs) (hr2 W' _)⟩ hw⟩
theorem tableAny_holds : Rows.TableAnySaid :=
  OpenClaim.holds_of_wide 4 Try.f4 rfl rfl rfl rfl rfl rfl rfl ⟨rfl, rfl, rfl, rfl, rfl⟩ rfl rfl rfl rfl rfl (by kernel_rfl) Try.func4 (by kernel_rfl)
    (of_decide_eq_true (by kernel_rfl)) (by unfold Func.isWrapper; first | (rw [if_pos (by decide +kernel)]; kernel_rfl) | (rw [if_neg (by decide +kernel)]; exact ⟨rfl, rfl⟩))
    (fun os started H enc _ => lifted_any os started H enc)
#print axioms tableAny_holds
set_option maxRecDepth 100000 in
theorem lifted_back (os : Os) (started : os.Started) (H : Type) (enc : TypeId × Value → H) :
    ReturnsInHanded {} Try.checked os 3 .any (Rows.tableBackSpec.pre6 enc Try.prog Try.f3 Rows.tableBackRow.domain false) (Rows.tableBackSpec.post enc Try.prog Try.f3 false true false false) := by
  refine returnsInHanded_of_change (C := Try.checked) own started (by kernel_rfl) Try.func3
    (ChangeSpec.witness6 (enc := enc) (C := Try.checked) false ⟨#[], #[.slice none 0 0, .string ⟨#[]⟩], []⟩ 8 (by kernel_rfl) (by kernel_rfl) (by kernel_rfl) (by kernel_rfl)) ?_
  intro W base args ds gs before hval0 hW hcnd _
  have hval : ∀ (j : Nat) t v, Try.f3.params[j]? = some t → args[j]? = some v → Value.okWide Try.prog W .any base t v := hval0
  have hW' := hW
  obtain ⟨p, q, hA0, hV, rfl, hfz, hnd⟩ := hW
  have hA : DataW.TrodAll enc Try.prog W 0 (fun _ => true) true Try.f3.params.toList args.toList ds p := hA0
  rw [Try.params3] at hA hval
  obtain ⟨v1, v2, d1, d2, p1, p2, rfl, rfl, rfl, h1, h2⟩ := trodAll_two hA
  obtain ⟨rfl, rfl⟩ := trodVars_none hV
  obtain ⟨A, m, c, L, rfl, hmc, hcm, hP, hr1⟩ := open_tabs (hval 0 22 v1 rfl rfl) h1
  obtain ⟨s, rfl, rfl, rfl, hs⟩ := Go.ChangeMaps.open_string Try.underlying9 (hval 1 9 v2 rfl rfl) h2
  clear hA0 hval0
  simp only [List.append_nil] at hW'
  refine (law_back A m c L s W hP).mono fun e W' ⟨he2, hw⟩ => ?_
  subst he2
  exact ⟨_, rfl, post_true (ds := [_, _]) rfl hW' (by kernel_rfl) rfl rfl rfl ⟨_, trodAll_mk2 (hr1 W' hw) (Go.ChangeMaps.shut_string Try.underlying9 hs)⟩ hw⟩
theorem tableBack_holds : Rows.TableBackSaid :=
  OpenClaim.holds_of_wide 3 Try.f3 rfl rfl rfl rfl rfl rfl rfl ⟨rfl, rfl, rfl, rfl, rfl⟩ rfl rfl rfl rfl rfl (by kernel_rfl) Try.func3 (by kernel_rfl)
    (of_decide_eq_true (by kernel_rfl)) (by unfold Func.isWrapper; first | (rw [if_pos (by decide +kernel)]; kernel_rfl) | (rw [if_neg (by decide +kernel)]; exact ⟨rfl, rfl⟩))
    (fun os started H enc _ => lifted_back os started H enc)
#print axioms tableBack_holds
end Go.Proofs.Ytlidagofjkilgaa
