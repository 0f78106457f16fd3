/- Proved here: HeadAny and HeadBack as given: what any tables say is the document's; what a font may say of itself is made and read again. No condition of our own. -/
import Derived.Test.YtphnapnmeidgkaaJc
import Derived.Test.YtphnapnmeidgkaaRows
import Derived.ProofKit
import Derived.OpenShut
import Derived.ReadAgain
import Derived.ChangeSlices
import Derived.ChangeMaps5
import Derived.Lib.SmallJoins
import Derived.Deep.Slices
import Derived.Carry
namespace Go.Proofs.Ytphnapnmeidgkaa
open Go.ChangeShapes Go.WideShapes Go.ChangeAt Go.RowKit Go.Joins

theorem own : ownKnob Try.prog.godebug = none := by kernel_rfl
/-- The end of a call that returns true and turns nothing that was there. -/
theorem post_true {H : Type} {enc : TypeId × Value → H} {f : Func} {s : ChangeSpec} {W W' : World} {args : Array Value} {ds : List (DataW H)} {before : List MemPlace} (hs : s.vars = [])
    (hW : DataW.Whole enc Try.prog f.params.toList s.vars false W args.toList ds [] before) (hr : f.resultTypes = #[4]) (hres : (s.fn H (ds ++ [])).results = [.lit (.bool true)]) (hargs0 : (s.fn H (ds ++ [])).args = ds) (hvars0 : (s.fn H (ds ++ [])).vars = [])
    (hargs : ∃ pa, DataW.TrodAll enc Try.prog W' 0 (fun b => decide (b < W.heap.size)) true f.params.toList args.toList ds pa) (hb : Below W.heap.size W W') :
    s.post enc Try.prog f false true false false W args (.bool true) W' := by
  obtain ⟨pa, hargs⟩ := hargs
  refine ⟨ds, [], before, [], pa, [], hW, ?_, ?_, ?_, hb.frame _, fun h => by cases h⟩
  · rw [hr, hres]
    exact trodAll_mk1 (shut_bool Try.underlying4 true)
  · rw [hargs0]
    exact hargs
  · rw [hs, hvars0]
    rfl
theorem laidK : laidOutB Try.prog = true := by kernel_rfl
theorem has_lt {P : Program} {W : World} {r : Reach} {b0 n : Nat} {a : Addr} {e : TypeId} (h : W.has P r b0 a e n) : a.block < W.heap.size := by
  rcases Nat.lt_or_ge a.block W.heap.size with hl | hl
  · exact hl
  · obtain ⟨_, _, row, cells, hs, _⟩ := h
    simp [World.shape?, Array.getElem?_eq_none hl] at hs
theorem cells35 : Try.prog.cellsOf 35 = 2 := by kernel_rfl
theorem cells9 : Try.prog.cellsOf 9 = 1 := by kernel_rfl
theorem rec25 : Try.prog.readableRec 25 = true := by kernel_rfl
theorem row25 : (25 : TypeId) < Try.prog.types.size := of_decide_eq_true (by kernel_rfl)
/-- A table, opened. -/
theorem tab_open {H : Type} {enc : TypeId × Value → H} {W : World} {sp : Nat → Bool} {n : Nat} {cs : List Value} {x : DataW H × List MemPlace} (h : DataW.trod enc Try.prog W 0 sp true n 35 cs = some x) :
    ∃ (a b : ByteArray), cs = [.string a, .string b] ∧ x.2 = [] := by
  obtain ⟨y0, y1, k, rfl, hl, h0, h1⟩ := trod_struct2 Try.underlying35 h
  rw [cells35] at hl
  rw [cells9] at h0
  rw [cells9] at h1
  match cs, hl with
  | [v0, v1], _ =>
    simp at h0 h1
    obtain ⟨a, e0, e1, w0⟩ := DataW.trod_string Try.underlying9 h0
    obtain ⟨b, f0, f1, _⟩ := DataW.trod_string Try.underlying9 h1
    injection e0 with e0 _
    injection f0 with f0 _
    subst e0 f0 e1 f1
    exact ⟨a, b, rfl, rfl⟩
set_option maxRecDepth 100000 in
theorem open_tabs {H : Type} {enc : TypeId × Value → H} {W : World} {b0 : Nat} {v : Value} {d : DataW H} {p : List MemPlace} (hok : Value.okWide Try.prog W .any b0 25 v)
    (h : DataW.Trod enc Try.prog W 0 (fun _ => true) true 25 v d p) :
    ∃ A m c xs, v = .slice A m c ∧ m ≤ c ∧ c ≤ maxLen ∧ Tl W A m xs ∧ ∀ W', Below W.heap.size W W' → DataW.Trod enc Try.prog W' 0 (fun b => decide (b < W.heap.size)) true 25 v d p := by
  have h0 := h
  obtain ⟨n, h⟩ := h
  rcases Deep.open_slice Try.underlying25 h with ⟨h1, h2⟩ | ⟨a, len, cap, m, n', D, Pl, h1, hb, hl, hm, hmm, hx, hall⟩
  · have hv : v = .slice none 0 0 := by
      cases v <;> simp [Value.cells] at h1 ⊢
      all_goals first | exact h1 | (simp [Value.okWide, Cell.okWide, Cell.ok, Try.underlying25] at hok)
    subst hv
    injection h2 with h2 h3
    subst h2 h3
    exact ⟨none, 0, 0, [], rfl, Nat.le_refl _, by unfold maxLen; omega, ⟨rfl, fun i hi => by omega⟩, fun W' hbel => Below.trod laidK rec25 row25 h0 hbel (fun x hx => by simp at hx)⟩
  · have hv : v = .slice (some a) len cap := by
      cases v <;> simp [Value.cells] at h1 ⊢
      all_goals first | exact h1 | (simp [Value.okWide, Cell.okWide, Cell.ok, Try.underlying25] at hok)
    subst hv
    have hhas : W.has Try.prog .any b0 a 35 cap := by
      simp only [Value.okWide, Cell.okWide, Cell.ok, Try.underlying25] at hok
      exact hok.2.2
    have hlt := has_lt hhas
    have hmc : m = cap := by simpa using hmm
    subst hmc
    have each : ∀ i, i < m → ∃ q : List UInt8 × List UInt8, W.cell? (a.add (i * 2)) = some (.string ⟨q.1.toArray⟩) ∧ W.cell? (a.add (i * 2 + 1)) = some (.string ⟨q.2.toArray⟩) ∧ Pl i = [] := by
      intro i hi
      obtain ⟨cs', g1, g2⟩ := hall i hi
      rw [cells35] at g1
      obtain ⟨x, y, rfl, hp⟩ := tab_open g2
      obtain ⟨_, _, hc⟩ := World.cells?_some g1
      have c0 := hc 0 (by omega)
      have c1 := hc 1 (by omega)
      rw [Deep.add_add] at c0 c1
      exact ⟨(x.data.toList, y.data.toList), by rw [← of_list rfl]; simpa using c0, by rw [← of_list rfl]; simpa using c1, hp⟩
    obtain ⟨q, hq⟩ := Deep.choose_lt each
    have hget : ∀ i, i < len → ((List.range len).map q).getD i ([], []) = q i := fun i hi => by simp [List.getD, hi]
    refine ⟨some a, len, m, (List.range len).map q, rfl, by omega, hm, ⟨by simp, fun i hi => ⟨a, rfl, hlt, ?_, ?_⟩⟩, fun W' hbel => Below.trod laidK rec25 row25 h0 hbel fun x hxp => ?_⟩
    · unfold tg; rw [hget i hi]; exact (hq i (by omega)).1
    · unfold dt; rw [hget i hi]; exact (hq i (by omega)).2.1
    · injection hx with _ hx
      rw [hx] at hxp
      rcases List.mem_append.mp hxp with hr | hr
      · obtain ⟨i, _, rfl⟩ := List.mem_map.mp hr
        exact hlt
      · obtain ⟨i, hi, hr⟩ := List.mem_flatMap.mp hr
        rw [(hq i (List.mem_range.mp hi)).2.2] at hr
        simp at hr
theorem array7 {α : Type} {cs : Array α} (h : cs.size = 7) : ∃ c0 c1 c2 c3 c4 c5 c6, cs = #[c0, c1, c2, c3, c4, c5, c6] := by
  obtain ⟨l⟩ := cs
  match l, h with
  | [c0, c1, c2, c3, c4, c5, c6], _ => exact ⟨c0, c1, c2, c3, c4, c5, c6, rfl⟩
theorem list7 {α : Type} {l : List α} (h : l.length = 7) : ∃ c0 c1 c2 c3 c4 c5 c6, l = [c0, c1, c2, c3, c4, c5, c6] := by
  match l, h with
  | [c0, c1, c2, c3, c4, c5, c6], _ => exact ⟨c0, c1, c2, c3, c4, c5, c6, rfl⟩
theorem cells23 : Try.prog.cellsOf 23 = 7 := by kernel_rfl
theorem cells3 : Try.prog.cellsOf 3 = 1 := by kernel_rfl
theorem cells4 : Try.prog.cellsOf 4 = 1 := by kernel_rfl
theorem rec23 : Try.prog.readableRec 23 = true := by kernel_rfl
theorem row23 : (23 : TypeId) < Try.prog.types.size := of_decide_eq_true (by kernel_rfl)
theorem int_open {H : Type} {enc : TypeId × Value → H} {W : World} {sp : Nat → Bool} {n : Nat} {v : Value} {x : DataW H × List MemPlace} (h : DataW.trod enc Try.prog W 0 sp true n 3 [v] = some x) : ∃ z : Int, v = .int .i64 z ∧ x.2 = [] := by
  obtain ⟨z, e0, e1, _⟩ := DataW.trod_int Try.underlying3 h
  injection e0 with e0 _
  subst e0 e1
  exact ⟨z, rfl, rfl⟩
theorem bool_open {H : Type} {enc : TypeId × Value → H} {W : World} {sp : Nat → Bool} {n : Nat} {v : Value} {x : DataW H × List MemPlace} (h : DataW.trod enc Try.prog W 0 sp true n 4 [v] = some x) : ∃ z : Bool, v = .bool z ∧ x.2 = [] := by
  obtain ⟨z, e0, e1⟩ := DataW.trod_bool Try.underlying4 h
  injection e0 with e0 _
  subst e0 e1
  exact ⟨z, rfl, rfl⟩
set_option maxRecDepth 100000 in
/-- What a font says of itself, opened, and read again. -/
theorem open_head {H : Type} {enc : TypeId × Value → H} {W : World} {b0 : Nat} {v : Value} {d : DataW H} {p : List MemPlace} (hok : Value.okWide Try.prog W .any b0 23 v)
    (h : DataW.Trod enc Try.prog W 0 (fun _ => true) true 23 v d p) :
    ∃ k : Hd, v = k.val ∧ ∀ W', Below W.heap.size W W' → DataW.Trod enc Try.prog W' 0 (fun b => decide (b < W.heap.size)) true 23 v d p := by
  have h0 := h
  obtain ⟨cs, rfl, hsz⟩ := okWide_struct Try.underlying23 hok
  obtain ⟨c0, c1, c2, c3, c4, c5, c6, rfl⟩ := array7 (hsz.trans cells23)
  obtain ⟨fuel, hf⟩ := h
  obtain ⟨xs, n, _, hx, _, hlen, hg⟩ := DataW.trod_struct Try.underlying23 hf
  obtain ⟨y0, y1, y2, y3, y4, y5, y6, rfl⟩ := list7 (hlen.trans rfl)
  have g0 := hg 0 _ rfl
  have g1 := hg 1 _ rfl
  have g2 := hg 2 _ rfl
  have g3 := hg 3 _ rfl
  have g4 := hg 4 _ rfl
  have g5 := hg 5 _ rfl
  have g6 := hg 6 _ rfl
  simp [Value.cells, cells3, cells4] at g0 g1 g2 g3 g4 g5 g6
  obtain ⟨z0, rfl, p0⟩ := int_open g0
  obtain ⟨z1, rfl, p1⟩ := bool_open g1
  obtain ⟨z2, rfl, p2⟩ := int_open g2
  obtain ⟨z3, rfl, p3⟩ := int_open g3
  obtain ⟨z4, rfl, p4⟩ := int_open g4
  obtain ⟨z5, rfl, p5⟩ := int_open g5
  obtain ⟨z6, rfl, p6⟩ := int_open g6
  injection hx with hx1 hx2
  have hp : p = [] := by rw [hx2]; simp [p0, p1, p2, p3, p4, p5, p6]
  exact ⟨⟨z0, z1, z2, z3, z4, z5, z6⟩, rfl, fun W' hbel => Below.trod laidK rec23 row23 h0 hbel (fun x hx => by rw [hp] at hx; simp at hx)⟩
set_option maxRecDepth 100000 in
theorem lifted_headAny (os : Os) (started : os.Started) (H : Type) (enc : TypeId × Value → H) :
    ReturnsInHanded {} Try.checked os 4 .any (Rows.headAnySpec.pre6 enc Try.prog Try.f4 Rows.headAnyRow.domain false) (Rows.headAnySpec.post enc Try.prog Try.f4 false true false false) := by
  refine returnsInHanded_of_change (C := Try.checked) own started (by kernel_rfl) Try.func4
    (ChangeSpec.witness6 (enc := enc) (C := Try.checked) false ⟨#[], #[.slice none 0 0], []⟩ 8 (by kernel_rfl) (by kernel_rfl) (by kernel_rfl) (by kernel_rfl)) ?_
  intro W base args ds gs before hval0 hW hcnd _
  have hval : ∀ (j : Nat) t v, Try.f4.params[j]? = some t → args[j]? = some v → Value.okWide Try.prog W .any base t v := hval0
  have hW' := hW
  obtain ⟨p, q, hA0, hV, rfl, hfz, hnd⟩ := hW
  have hA : DataW.TrodAll enc Try.prog W 0 (fun _ => true) true Try.f4.params.toList args.toList ds p := hA0
  rw [Try.params4] at hA hval
  obtain ⟨v1, d1, rfl, rfl, h1⟩ := trodAll_one hA
  obtain ⟨rfl, rfl⟩ := trodVars_none hV
  obtain ⟨A, m, c, L, rfl, hmc, hcm, hP, hr1⟩ := open_tabs (hval 0 25 v1 rfl rfl) h1
  clear hA0 hval0
  simp only [List.append_nil] at hW'
  refine (law_any A m c L W hP).mono fun e W' ⟨he2, hw⟩ => ?_
  subst he2
  exact ⟨_, rfl, post_true (ds := [_]) rfl hW' (by kernel_rfl) rfl rfl rfl ⟨_, trodAll_mk1 (hr1 W' hw)⟩ hw⟩
theorem headAny_holds : Rows.HeadAnySaid :=
  OpenClaim.holds_of_wide 4 Try.f4 rfl rfl rfl rfl rfl rfl rfl ⟨rfl, rfl, rfl, rfl, rfl⟩ rfl rfl rfl rfl rfl (by kernel_rfl) Try.func4 (by kernel_rfl)
    (of_decide_eq_true (by kernel_rfl)) (by unfold Func.isWrapper; first | (rw [if_pos (by decide +kernel)]; kernel_rfl) | (rw [if_neg (by decide +kernel)]; exact ⟨rfl, rfl⟩))
    (fun os started H enc _ => lifted_headAny os started H enc)
#print axioms headAny_holds
set_option maxRecDepth 100000 in
theorem lifted_headBack (os : Os) (started : os.Started) (H : Type) (enc : TypeId × Value → H) :
    ReturnsInHanded {} Try.checked os 3 .any (Rows.headBackSpec.pre6 enc Try.prog Try.f3 Rows.headBackRow.domain false) (Rows.headBackSpec.post enc Try.prog Try.f3 false true false false) := by
  refine returnsInHanded_of_change (C := Try.checked) own started (by kernel_rfl) Try.func3
    (ChangeSpec.witness6 (enc := enc) (C := Try.checked) false ⟨#[], #[.agg #[.int .i64 0, .bool false, .int .i64 0, .int .i64 0, .int .i64 0, .int .i64 0, .int .i64 0]], []⟩ 8 (by kernel_rfl) (by kernel_rfl) (by kernel_rfl) (by kernel_rfl)) ?_
  intro W base args ds gs before hval0 hW hcnd _
  have hval : ∀ (j : Nat) t v, Try.f3.params[j]? = some t → args[j]? = some v → Value.okWide Try.prog W .any base t v := hval0
  have hW' := hW
  obtain ⟨p, q, hA0, hV, rfl, hfz, hnd⟩ := hW
  have hA : DataW.TrodAll enc Try.prog W 0 (fun _ => true) true Try.f3.params.toList args.toList ds p := hA0
  rw [Try.params3] at hA hval
  obtain ⟨v1, d1, rfl, rfl, h1⟩ := trodAll_one hA
  obtain ⟨rfl, rfl⟩ := trodVars_none hV
  obtain ⟨k, rfl, hr1⟩ := open_head (hval 0 23 v1 rfl rfl) h1
  clear hA0 hval0
  simp only [List.append_nil] at hW'
  refine (law_back k W).mono fun e W' ⟨he2, hw⟩ => ?_
  subst he2
  exact ⟨_, rfl, post_true (ds := [_]) rfl hW' (by kernel_rfl) rfl rfl rfl ⟨_, trodAll_mk1 (hr1 W' hw)⟩ hw⟩
theorem headBack_holds : Rows.HeadBackSaid :=
  OpenClaim.holds_of_wide 3 Try.f3 rfl rfl rfl rfl rfl rfl rfl ⟨rfl, rfl, rfl, rfl, rfl⟩ rfl rfl rfl rfl rfl (by kernel_rfl) Try.func3 (by kernel_rfl)
    (of_decide_eq_true (by kernel_rfl)) (by unfold Func.isWrapper; first | (rw [if_pos (by decide +kernel)]; kernel_rfl) | (rw [if_neg (by decide +kernel)]; exact ⟨rfl, rfl⟩))
    (fun os started H enc _ => lifted_headBack os started H enc)
#print axioms headBack_holds
end Go.Proofs.Ytphnapnmeidgkaa
