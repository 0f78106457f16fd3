/- Proved here: what package big's Mul answers and leaves in memory. Condition: numbers in any form, of at most 50000 digits, that lie in memory. -/
import Derived.Test.YthmpkejdficmgaaDoorNo
namespace Go.Proofs.YthmpkejdficmgaaDoor
open Go.RowKit

theorem sv_mul (n m : Bool) (x y : Nat) : sv (!(n == m)) (x * y) = sv n x * sv m y := by
  cases n <;> cases m <;> simp [sv, Int.neg_mul, Int.mul_neg]
set_option maxHeartbeats 4000000 in
set_option maxRecDepth 100000 in
theorem mul_any (X Y : Value) (x y : Int) (l k : Nat) (w : World) (hX : BigA w X x l) (hY : BigA w Y y k) (hl : l ≤ 100000) (hk : k ≤ 100000) : Calls Tryd.prog 16 #[X, Y] w (BigE (x * y) (l + k) w) := by
  obtain ⟨n, v, xs, rfl, hv, hx, hxl, rfl⟩ := hX
  obtain ⟨m, u, ys, rfl, hu, hy, hyl, rfl⟩ := hY
  obtain ⟨A, c, rfl⟩ := hv.slice
  obtain ⟨B, d, rfl⟩ := hu.slice
  have HX := Lib.hid (And.intro (And.intro hx (show (tr xs).length ≤ 100000 by rw [tr_len]; have := tr_le xs; omega)) (And.intro hy (show (tr ys).length ≤ 100000 by rw [tr_len]; have := tr_le ys; omega)))
  have HL := Lib.hid (show (tr xs).length + (tr ys).length ≤ l + k by rw [tr_len, tr_len]; have := tr_le xs; have := tr_le ys; omega)
  obtain ⟨p, hp⟩ : ∃ p, p = xs.length := ⟨_, rfl⟩
  obtain ⟨q, hq⟩ : ∃ q, q = ys.length := ⟨_, rfl⟩
  rw [← hp] at hv ⊢
  rw [← hq] at hu ⊢
  have HV := Lib.hid hv
  have HU := Lib.hid hu
  clear hv hu hx hy hxl hyl hp hq hl hk
  go_enter Tryd.func16, Tryd.ntmps16
  go_wp2_with fail
  obtain ⟨W0, hW0⟩ : ∃ W0, W0 = (((w.alloc (.cells #[.bool n, .slice A p c] 24)).alloc (.cells #[.bool m, .slice B q d] 24)).alloc (.cells #[.bool false, .slice none 0 0] 24)) := ⟨_, rfl⟩
  rw [← hW0]
  have HX0 := Lib.hid (hW0 ▸ B3.start 24 w n (.slice A p c) m (.slice B q d))
  clear hW0
  obtain ⟨f1, f2, f3, f4, f5, f6, f7, f8⟩ := HX0.out.facts
  have HV0 := Lib.hid (HV.out.bel HX0.out.bel)
  have HU0 := Lib.hid (HU.out.bel HX0.out.bel)
  have l1 := HX0.out.b.lt
  have ne1 : ¬ w.heap.size + 1 + 1 = w.heap.size := by omega
  have ne2 : ¬ w.heap.size = w.heap.size + 1 + 1 := by omega
  clear f5 f6 f7 f8
  go_region_held3 (fun w' => w'.cell? ⟨w.heap.size, 0, none⟩ = some (.bool n) ∧ w'.cell? ⟨w.heap.size, 1, none⟩ = some (.slice A p c) ∧ w'.cell? ⟨w.heap.size + 1, 0, none⟩ = some (.bool m) ∧ w'.cell? ⟨w.heap.size + 1, 1, none⟩ = some (.slice B q d))
    (first | (go_split_ands; refine ⟨?_, ?_, ?_, ?_⟩ <;> first | (rw [hb3.cell (by have := hb2.size; simp at this ⊢; omega)]; assumption) | (rw [hb2.cell (by simp; omega)]; assumption)) | go_keep)
    (first
      | (go_at_call 37; (with_reducible refine (trim32_w A p c xs _ HV0.out.drew).mono ?_); rintro e w1 ⟨rfl, rfl⟩)
      | (go_at_call 37; (with_reducible refine (trim32_w B q d ys _ HU0.out.drew).mono ?_); rintro e w1 ⟨rfl, rfl⟩)
      | (go_at_call 46; (with_reducible refine (times32_any (.slice A (tl xs) c) (.slice B (tl ys) d) (tr xs) (tr ys) _ HV0.out.drew.tr HU0.out.drew.tr (tr_eg HX.out.1.1) (tr_eg HX.out.2.1) HX.out.1.2 HX.out.2.2).mono ?_); rintro e w2 ⟨z, zs, rfl, hz1, hz2, hz3, hz4, hb2⟩; have HX2 := Lib.hid (HX0.out.drew.next hb2); have HZ := Lib.hid (And.intro hz1 (And.intro hz2 (And.intro hz3 hz4))); clear hz1 hz2 hz3 hz4)
      | (go_at_call 38; (with_reducible refine (form_parts _ z zs w2 HZ.out.1 HZ.out.2.1).mono ?_); rintro e w3 ⟨b, C, p', q', ss, rfl, hs, hb3⟩; have HX3 := Lib.hid (HX2.out.next hb3); have HS := Lib.hid hs; clear hs; obtain ⟨_, _, _, _, f5, f6, f7, f8⟩ := HX3.out.facts))
  all_goals
    go_wp2_with fail
    exact bodyPost_ret (ret_bx24 rfl rfl (HX3.out.fin b _)) rfl (big_fin HX3.out HS.out (by rw [HZ.out.2.2.1, tr_dw, tr_dw, sv_mul]) (Nat.le_trans HZ.out.2.2.2 HL.out))
end Go.Proofs.YthmpkejdficmgaaDoor
