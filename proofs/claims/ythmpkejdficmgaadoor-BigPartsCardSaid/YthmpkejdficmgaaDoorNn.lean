/- Proved here: what package big's Add, Sub, Sign, Cmp, Mul answer and leave in memory. Condition: numbers in any form, of at most 50000 digits, that lie in memory. -/
import Derived.Test.YthmpkejdficmgaaDoorNm
namespace Go.Proofs.YthmpkejdficmgaaDoor
open Go.RowKit

theorem add_any (X Y : Value) (x y : Int) (l k : Nat) (w : World) (hX : BigA w X x l) (hY : BigA w Y y k) (hl : l ≤ 100000) (hk : k ≤ 100000) : Calls Tryd.prog 11 #[X, Y] w (BigE (x + y) (max l k + 1) w) := by
  obtain ⟨n, v, xs, rfl, hv, hx, hxl, rfl⟩ := hX
  obtain ⟨m, u, ys, rfl, hu, hy, hyl, rfl⟩ := hY
  have tw := fun {e w'} (h : BigE (sv n (dw xs) + sv m (dw ys)) (max xs.length ys.length + 1) w e w') => h.to rfl (show max xs.length ys.length + 1 ≤ max l k + 1 by omega)
  by_cases hnm : n = m
  · subst hnm
    exact (add_same n v u xs ys w hv hu hx hy (by omega) (by omega)).mono fun _ _ h => tw h
  · obtain rfl : m = !n := by cases n <;> cases m <;> simp at hnm ⊢
    rcases Nat.lt_or_ge (dw xs) (dw ys) with h | h
    · exact (add_less n v u xs ys w hv hu hx hy (by omega) (by omega) h).mono fun _ _ h => tw h
    · exact (add_geq n v u xs ys w hv hu hx hy (by omega) (by omega) h).mono fun _ _ h => tw h
theorem sv_not (n : Bool) (x : Nat) : sv (!n) x = - sv n x := by cases n <;> simp [sv]
theorem BigE.open_ {z : Int} {l : Nat} {w : World} {e : Ending} {w' : World} (h : BigE z l w e w') : ∃ b C p q zs, e = .returned (.agg #[.bool b, .slice C p q]) ∧ (Arr w' .u32 (.slice C p q) zs ∧ Eg zs ∧ Can b zs ∧ zs.length ≤ l ∧ sv b (dw zs) = z) ∧ Below w.heap.size w w' := by
  obtain ⟨Z, h1, ⟨b, u, zs, h2, h3⟩, h4⟩ := h
  obtain ⟨C, q, rfl⟩ := h3.1.slice
  exact ⟨b, C, _, q, zs, by rw [h1, h2], h3, h4⟩
theorem NumE.open_ {z : Int} {l : Nat} {w : World} {e : Ending} {w' : World} (h : NumE z l w e w') : ∃ b C p q zs, e = .returned (.agg #[.bool b, .slice C p q]) ∧ (Arr w' .u64 (.slice C p q) zs ∧ Dg zs ∧ Can b zs ∧ zs.length ≤ l ∧ sv b (dv zs) = z) ∧ Below w.heap.size w w' := by
  obtain ⟨Z, h1, ⟨b, u, zs, h2, h3⟩, h4⟩ := h
  obtain ⟨C, q, rfl⟩ := h3.1.slice
  exact ⟨b, C, _, q, zs, by rw [h1, h2], h3, h4⟩
set_option maxHeartbeats 1000000 in
set_option maxRecDepth 100000 in
theorem sub_any (X Y : Value) (x y : Int) (l k : Nat) (w : World) (hX : BigA w X x l) (hY : BigA w Y y k) (hl : l ≤ 100000) (hk : k ≤ 100000) : Calls Tryd.prog 14 #[X, Y] w (BigE (x - y) (max l k + 1) w) := by
  obtain ⟨n, v, xs, rfl, hv, hx, hxl, hvx⟩ := hX
  obtain ⟨m, u, ys, rfl, hu, hy, hyl, hvy⟩ := hY
  obtain ⟨A, c, rfl⟩ := hv.slice
  obtain ⟨B, d, rfl⟩ := hu.slice
  have HX := Lib.hid (show ∀ W, Below w.heap.size w W → BigA W (.agg #[.bool n, .slice A xs.length c]) x l from fun W hb => BigA.bel ⟨n, _, xs, rfl, hv, hx, hxl, hvx⟩ hb)
  have HY := Lib.hid (show ∀ W, Below w.heap.size w W → BigA W (.agg #[.bool (!m), .slice B ys.length d]) (-y) k from fun W hb => BigA.bel ⟨!m, _, ys, rfl, hu, hy, hyl, by rw [sv_not, hvy]⟩ hb)
  have HL := Lib.hid (And.intro hl hk)
  obtain ⟨p, hp⟩ : ∃ p, p = xs.length := ⟨_, rfl⟩
  obtain ⟨q, hq⟩ : ∃ q, q = ys.length := ⟨_, rfl⟩
  rw [← hp] at HX ⊢
  rw [← hq] at HY ⊢
  clear hv hu hx hy hxl hyl hvx hvy hl hk hp hq
  have H0 := Lib.hid (B3.start 24 w n (.slice A p c) (!m) (.slice B q d))
  go_enter Tryd.func14, Tryd.ntmps14
  go_wp2_with (go_at_call 11; (with_reducible refine (add_any _ _ x (-y) l k _ (HX.out _ H0.out.bel) (HY.out _ H0.out.bel) HL.out.1 HL.out.2).mono ?_); rintro e w1 he; obtain ⟨b, C, p', q', zs, rfl, hs, hb⟩ := he.open_; have H1 := Lib.hid (H0.out.next hb); have HS := Lib.hid hs; clear he hs hb; obtain ⟨f1, f2, f3, f4, f5, f6, f7, f8⟩ := H1.out.facts)
  exact bodyPost_ret (ret_bx24 rfl rfl (H1.out.fin b _)) rfl (big_fin H1.out HS.out (by omega) (Nat.le_refl _))
def isNeg (n : Bool) (x : Nat) : Int := if x = 0 then 0 else if n then -1 else 1
theorem sign_val (n : Bool) (x : Nat) : isNeg n x = cmpI (sv n x) 0 := by
  unfold isNeg cmpI
  cases n <;> simp only [sv_true, sv_false] <;> split <;> simp <;> (try split) <;> (try split) <;> omega
/-- What Sign answers. -/
def sgn (x : Int) : Int := cmpI x 0
set_option maxHeartbeats 1000000 in
theorem sign_any (X : Value) (x : Int) (l : Nat) (w : World) (hX : BigA w X x l) : Calls Tryd.prog 22 #[X] w fun e w' => e = .returned (.int .i64 (sgn x)) ∧ Below w.heap.size w w' := by
  obtain ⟨n, v, xs, rfl, hv, hx, hxl, rfl⟩ := hX
  obtain ⟨A, c, rfl⟩ := hv.slice
  obtain ⟨p, hp⟩ : ∃ p, p = xs.length := ⟨_, rfl⟩
  have hs := sign_val n (dw xs)
  unfold sgn
  rw [← hs]
  rw [← hp] at hv ⊢
  have HV := Lib.hid (hv.alloc (.cells #[.bool n, .slice A p c] 24))
  have HZ := Lib.hid (show dw xs = 0 ↔ tl xs = 0 by rw [← tr_dw, top_zero32 (tr_top xs), ← tr_len, List.length_eq_zero_iff])
  clear hv hx hxl hp hs
  by_cases h0 : tl xs = 0
  · have hr := Lib.hid (show isNeg n (dw xs) = 0 by rw [isNeg, if_pos (HZ.out.2 h0)])
    have hb : ((tl xs : Int) == 0) = true := by simp [h0]
    clear h0
    go_enter Tryd.func22, Tryd.ntmps22
    go_wp2_with (go_at_call 37; (with_reducible refine (trim32_w A p c xs _ HV.out).mono ?_); rintro e w1 ⟨rfl, rfl⟩)
    go_ret
    exact ⟨ret_int hr.out.symm, bel_a w _⟩
  · have hb : ((tl xs : Int) == 0) = false := by simp; omega
    have hne : dw xs ≠ 0 := fun h => h0 (HZ.out.1 h)
    cases n
    · have hr := Lib.hid (show isNeg false (dw xs) = 1 by simp [isNeg, hne])
      clear h0 hne
      go_enter Tryd.func22, Tryd.ntmps22
      go_wp2_with (go_at_call 37; (with_reducible refine (trim32_w A p c xs _ HV.out).mono ?_); rintro e w1 ⟨rfl, rfl⟩)
      go_ret
      exact ⟨ret_int hr.out.symm, bel_a w _⟩
    · have hr := Lib.hid (show isNeg true (dw xs) = -1 by simp [isNeg, hne])
      clear h0 hne
      go_enter Tryd.func22, Tryd.ntmps22
      go_wp2_with (go_at_call 37; (with_reducible refine (trim32_w A p c xs _ HV.out).mono ?_); rintro e w1 ⟨rfl, rfl⟩)
      go_ret
      exact ⟨ret_int hr.out.symm, bel_a w _⟩
end Go.Proofs.YthmpkejdficmgaaDoor
