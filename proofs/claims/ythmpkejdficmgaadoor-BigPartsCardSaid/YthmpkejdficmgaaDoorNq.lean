/- Proved here: what slices.Clone, package big's Neg and Of answer and leave in memory. Condition: numbers in any form, of at most 50000 digits, that lie in memory. -/
import Derived.Test.YthmpkejdficmgaaDoorNp
import Derived.Maps.AppendAt
import Derived.Deep.AppendLies
import Derived.OwnWalk
import Derived.Lib.BufferMore
import Derived.Lib.SliceRun
namespace Go.Proofs.YthmpkejdficmgaaDoor
open Go.RowKit

theorem abs_any (n : Int) (w : World) (h1 : -9223372036854775808 ≤ n) (h2 : n ≤ 9223372036854775807) : Calls Tryd.prog 50 #[.int .i64 n] w fun e w' => e = .returned (.int .u64 (n.natAbs : Int)) ∧ w = w' := by
  by_cases h : n < 0
  · go_enter Tryd.func50, Tryd.ntmps50
    go_wp2
    go_ret
    exact ⟨ret_int (by rw [wrap_u64m, wrap_u64m]; omega), rfl⟩
  · have h0 : 0 ≤ n := by omega
    go_enter Tryd.func50, Tryd.ntmps50
    go_wp2
    go_ret
    exact ⟨ret_int (by omega), rfl⟩
theorem own_empty (w : World) (e : TypeId) : (w.alloc (.cells #[] e)).ownsRow w.heap.size e 1 (.slice (some ⟨w.heap.size, 0, none⟩) 0 0) 0 [] :=
  ⟨rfl, .inr ⟨w.heap.size, 0, #[], rfl, Nat.le_refl _, heap_alloc_new w _, Nat.le_refl _, Nat.zero_le _, rfl, rfl⟩⟩
theorem cs_one (k : IntKind) (xs : List Nat) : ∀ u ∈ cs k xs, u.oneCell' = true := by
  intro u hu
  simp only [cs, List.mem_map] at hu
  obtain ⟨d, _, rfl⟩ := hu
  rfl
theorem arr_cells {w : World} {k : IntKind} {ad : Addr} {m c : Nat} {xs : List Nat} (h : Arr w k (.slice (some ad) m c) xs) : (cs k xs).length = m * 1 ∧ ∀ j u, (cs k xs)[j]? = some u → w.cell? (ad.add j) = some u := by
  obtain ⟨A', c', h1, h2, h3, h4, h5⟩ := h
  injection h1 with e1 e2 e3
  subst e1 e2 e3
  refine ⟨by rw [cs_len, Nat.mul_one], fun j u hu => ?_⟩
  have hj : j < xs.length := by
    rcases Nat.lt_or_ge j xs.length with h | h
    · exact h
    · rw [List.getElem?_eq_none (by rw [cs_len]; exact h)] at hu; cases hu
  rw [cs_get k xs j hj] at hu
  injection hu with hu
  subst hu
  exact (h5 ad rfl).2 j hj
set_option maxHeartbeats 1000000 in
set_option maxRecDepth 100000 in
theorem clone_any (v : Value) (xs : List Nat) (w : World) (hv : Arr w .u32 v xs) (hxl : xs.length ≤ 1000000) : Calls Tryd.prog 47 #[v] w fun e w' => ∃ z, e = .returned z ∧ Arr w' .u32 z xs ∧ Below w.heap.size w w' := by
  obtain ⟨A, c, rfl⟩ := hv.slice
  obtain ⟨p, hp⟩ : ∃ p, p = xs.length := ⟨_, rfl⟩
  rw [← hp] at hv hxl ⊢
  have HV := Lib.hid hv
  have HP := Lib.hid hp
  clear hv hp
  obtain ⟨i0, hi0, hz0, hz1, hz2⟩ := info_parts Tryd.info61
  have HI : Hid (Tryd.prog.info? 61 = some i0 ∧ i0.zero = some (.int .u32 0) ∧ i0.size = 1 ∧ i0.bytes = 4) := ⟨hi0, hz0, hz1, hz2⟩
  clear hi0 hz0 hz1 hz2
  rcases A with _ | ad
  · have hnil : ∀ W, (binOp .eql 22 (.slice none p c) (.slice none 0 0)).run Tryd.prog W = .ok (.bool true) W := fun W => Lib.run_eql_slice_nil_nil W p c Tryd.underlying22
    have hxs : xs = [] := by
      obtain ⟨A', c', e1, e2, _, e4, _⟩ := HV.out
      injection e1 with e1 e5 e6
      have := e4 e1.symm
      exact List.eq_nil_of_length_eq_zero (by omega)
    have HXS := Lib.hid hxs
    clear hxs
    go_enter Tryd.func47, Tryd.ntmps47
    go_wp2_with fail
    go_ret
    exact ⟨_, rfl, by rw [HXS.out]; exact Arr.nil w .u32, Below.refl _ _⟩
  · have hnil : ∀ W, (binOp .eql 22 (.slice (some ad) p c) (.slice none 0 0)).run Tryd.prog W = .ok (.bool false) W := fun W => Lib.run_eql_slice_nil W 22 61 (some ad) p c 0 0 Tryd.underlying22
    have HO := Lib.hid (own_empty w 61)
    have HN := Lib.hid (arr_cells (HV.out.alloc (.cells #[] 61)))
    go_enter Tryd.func47, Tryd.ntmps47
    go_wp2_with (at_builtin; go_must (refine wpList_append_own _ rfl (.tmp 5) (.tmp 6) 22 rfl w.heap.size 61 i0 _ 1 4 Tryd.underlying22 HI.out.1 HI.out.2.1 HI.out.2.2.1 HI.out.2.2.2 rfl (by decide) (.slice (some ⟨w.heap.size, 0, none⟩) 0 0) 0 [] rfl HO.out ad p c (cs .u32 xs) rfl HN.out.1 HN.out.2 (cs_one .u32 xs) (by unfold maxLen; omega) (by omega) (by simp) ?_); intro z' w' hown' hg' _)
    go_ret
    exact ⟨_, rfl, Arr.of_own (k := .u32) hown', ((bel_a w (.cells #[] 61)).grown hg' (by simp) (by simp [Value.ownBlock]))⟩
end Go.Proofs.YthmpkejdficmgaaDoor
