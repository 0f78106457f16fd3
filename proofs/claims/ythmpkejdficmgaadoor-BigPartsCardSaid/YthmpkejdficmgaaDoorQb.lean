/- Proved here: what the reference package's Neg, Sub, Sign, Cmp and Of answer and leave in memory. Condition: numbers in their one form, of at most 50000 digits, that lie in memory. -/
import Derived.Test.YthmpkejdficmgaaDoorQa
namespace Go.Proofs.YthmpkejdficmgaaDoor
open Go.RowKit

set_option maxHeartbeats 1000000 in
set_option maxRecDepth 100000 in
theorem rneg_any (X : Value) (x : Int) (l : Nat) (w : World) (hX : NumC w X x l) : Calls Tryd.prog 19 #[X] w (NumE (-x) l w) := by
  obtain ⟨n, v, xs, rfl, hv, hx, hcx, hxl, rfl⟩ := hX
  obtain ⟨A, c, rfl⟩ := hv.slice
  have HX := Lib.hid (And.intro hx hxl)
  obtain ⟨p, hp⟩ : ∃ p, p = xs.length := ⟨_, rfl⟩
  rw [← hp] at hv ⊢
  have H0 := Lib.hid (B2'.start 28 28 w n (.slice A p c))
  have HV0 := Lib.hid (hv.bel H0.out.bel)
  clear hv hx hxl hp hcx
  go_enter Tryd.func19, Tryd.ntmps19
  go_wp2_with (go_at_call 36; (with_reducible refine (norm_parts _ (.slice A p c) xs _ HV0.out HX.out.1).mono ?_); rintro e w3 ⟨b, C, p', q', ss, rfl, hs, hb⟩; have HX3 := Lib.hid (H0.out.next hb); have HS := Lib.hid hs; clear hs hb; obtain ⟨f1, f2, f3, f4, f5, f6⟩ := HX3.out.facts)
  exact bodyPost_ret (ret_bx28 rfl rfl (HX3.out.fin b _)) rfl (num_fin2 HX3.out HS.out (by rw [sv_not]) HX.out.2)
theorem NumC.form {w : World} {X : Value} {x : Int} {l : Nat} (h : NumC w X x l) : ∃ n A p c, X = .agg #[.bool n, .slice A p c] := by
  obtain ⟨n, v, xs, rfl, hv, _⟩ := h
  obtain ⟨A, c, rfl⟩ := hv.slice
  exact ⟨n, A, _, c, rfl⟩
set_option maxHeartbeats 2000000 in
set_option maxRecDepth 100000 in
theorem rsub_any (X Y : Value) (x y : Int) (l k : Nat) (w : World) (hX : NumC w X x l) (hY : NumC w Y y k) (hl : l ≤ 100000) (hk : k ≤ 100000) : Calls Tryd.prog 15 #[X, Y] w (NumE (x - y) (max l k + 1) w) := by
  obtain ⟨n, A, p, c, rfl⟩ := hX.form
  obtain ⟨m, B, q, d, rfl⟩ := hY.form
  have HX := Lib.hid hX
  have HY := Lib.hid hY
  have HL := Lib.hid (And.intro hl hk)
  clear hX hY hl hk
  have ne1 : ¬ w.heap.size + 1 + 1 = w.heap.size := by omega
  have ne2 : ¬ w.heap.size = w.heap.size + 1 + 1 := by omega
  go_enter Tryd.func15, Tryd.ntmps15
  go_wp2_with fail
  obtain ⟨W0, hW0⟩ : ∃ W0, W0 = (((w.alloc (.cells #[.bool n, .slice A p c] 28)).alloc (.cells #[.bool m, .slice B q d] 28)).alloc (.cells #[.bool false, .slice none 0 0] 28)) := ⟨_, rfl⟩
  rw [← hW0]
  have HX0 := Lib.hid (hW0 ▸ B3.start 28 w n (.slice A p c) m (.slice B q d))
  clear hW0
  have HX1 := Lib.hid (HX.out.bel HX0.out.bel)
  have HY1 := Lib.hid (HY.out.bel HX0.out.bel)
  obtain ⟨f1, f2, f3, f4, f5, f6, f7, f8⟩ := HX0.out.facts
  have l1 := HX0.out.b.lt
  clear f5 f6 f7 f8
  go_region_held3 (fun w' => w'.cell? ⟨w.heap.size, 0, none⟩ = some (.bool n) ∧ w'.cell? ⟨w.heap.size, 1, none⟩ = some (.slice A p c) ∧ w'.cell? ⟨w.heap.size + 1, 0, none⟩ = some (.bool m) ∧ w'.cell? ⟨w.heap.size + 1, 1, none⟩ = some (.slice B q d))
    (first | (go_split_ands; refine ⟨?_, ?_, ?_, ?_⟩ <;> first | (rw [hb3.cell (by have := hb2.size; simp at this ⊢; omega)]; assumption) | (rw [hb2.cell (by simp; omega)]; assumption)) | go_keep)
    (first
      | (go_at_call 19; (with_reducible refine (rneg_any _ y k _ HY1.out.drew).mono ?_); rintro e w2 ⟨Z, rfl, hz, hb2⟩; have HX2 := Lib.hid (HX0.out.drew.next hb2); have HZ := Lib.hid hz; have HX5 := Lib.hid (HX1.out.drew.bel hb2); clear hz)
      | (go_at_call 13; (with_reducible refine (radd_any _ Z x (-y) l k w2 HX5.out HZ.out HL.out.1 HL.out.2).mono ?_); rintro e w3 he; obtain ⟨b, C, p', q', ss, rfl, hs, hb3⟩ := he.open_; have HX3 := Lib.hid (HX2.out.next hb3); have HS := Lib.hid hs; clear he hs; obtain ⟨_, _, _, _, f5, f6, f7, f8⟩ := HX3.out.facts))
  all_goals
    go_wp2_with fail
    exact bodyPost_ret (ret_bx28 rfl rfl (HX3.out.fin b _)) rfl (num_fin HX3.out HS.out (by omega) (Nat.le_refl _))
set_option maxHeartbeats 1000000 in
theorem rsign_any (X : Value) (x : Int) (l : Nat) (w : World) (hX : NumC w X x l) : Calls Tryd.prog 23 #[X] w fun e w' => e = .returned (.int .i64 (sgn x)) ∧ Below w.heap.size w w' := by
  obtain ⟨n, v, xs, rfl, hv, hx, hcx, hxl, rfl⟩ := hX
  obtain ⟨A, c, rfl⟩ := hv.slice
  obtain ⟨p, hp⟩ : ∃ p, p = xs.length := ⟨_, rfl⟩
  have hs := sign_val n (dv xs)
  unfold sgn
  rw [← hs, ← hp]
  have HZ := Lib.hid (show dv xs = 0 ↔ p = 0 by rw [top_zero16 hcx.1, hp, List.length_eq_zero_iff])
  clear hv hx hxl hs hp hcx
  by_cases h0 : p = 0
  · have hr := Lib.hid (show isNeg n (dv xs) = 0 by rw [isNeg, if_pos (HZ.out.2 h0)])
    have hb : ((p : Int) == 0) = true := by simp [h0]
    clear h0
    go_enter Tryd.func23, Tryd.ntmps23
    go_wp2_with fail
    go_ret
    exact ⟨ret_int hr.out.symm, bel_a w _⟩
  · have hb : ((p : Int) == 0) = false := by simp; omega
    have hne : dv xs ≠ 0 := fun h => h0 (HZ.out.1 h)
    cases n
    · have hr := Lib.hid (show isNeg false (dv xs) = 1 by simp [isNeg, hne])
      clear h0 hne
      go_enter Tryd.func23, Tryd.ntmps23
      go_wp2_with fail
      go_ret
      exact ⟨ret_int hr.out.symm, bel_a w _⟩
    · have hr := Lib.hid (show isNeg true (dv xs) = -1 by simp [isNeg, hne])
      clear h0 hne
      go_enter Tryd.func23, Tryd.ntmps23
      go_wp2_with fail
      go_ret
      exact ⟨ret_int hr.out.symm, bel_a w _⟩
theorem sgn_sub (x y : Int) : sgn (x - y) = cmpI x y := by
  unfold sgn cmpI
  split <;> split <;> (try split) <;> (try split) <;> omega
set_option maxHeartbeats 1000000 in
set_option maxRecDepth 100000 in
theorem rcmp_any (X Y : Value) (x y : Int) (l k : Nat) (w : World) (hX : NumC w X x l) (hY : NumC w Y y k) (hl : l ≤ 100000) (hk : k ≤ 100000) : Calls Tryd.prog 21 #[X, Y] w fun e w' => e = .returned (.int .i64 (cmpI x y)) ∧ Below w.heap.size w w' := by
  obtain ⟨n, A, p, c, rfl⟩ := hX.form
  obtain ⟨m, B, q, d, rfl⟩ := hY.form
  have hb0 : Below w.heap.size w ((w.alloc (.cells #[.bool n, .slice A p c] 28)).alloc (.cells #[.bool m, .slice B q d] 28)) := (bel_a w _).alloc (by simp) _
  have HX := Lib.hid (hX.bel hb0)
  have HY := Lib.hid (hY.bel hb0)
  have HB := Lib.hid hb0
  have HL := Lib.hid (And.intro hl hk)
  have HS := Lib.hid (sgn_sub x y)
  clear hX hY hl hk hb0
  go_enter Tryd.func21, Tryd.ntmps21
  go_wp2_with (first
    | (go_at_call 15; (with_reducible refine (rsub_any _ _ x y l k _ HX.out HY.out HL.out.1 HL.out.2).mono ?_); rintro e w2 ⟨Z, rfl, hz, hb2⟩; have HZ := Lib.hid hz; have HB2 := Lib.hid (bel_tr HB.out hb2); clear hz hb2)
    | (go_at_call 23; (with_reducible refine (rsign_any Z (x - y) _ w2 HZ.out).mono ?_); rintro e w3 ⟨he, hb3⟩; rw [HS.out] at he; subst he; have HB3 := Lib.hid (bel_tr HB2.out hb3); clear hb3))
  go_ret
  exact ⟨rfl, HB3.out⟩
theorem four_val (s : Nat) : dv [s % 65536, s / 65536 % 65536, s / 4294967296 % 65536, s / 281474976710656] = s := by simp [dv]; omega
theorem four_dg {s : Nat} (h : s < 18446744073709551616) : Dg [s % 65536, s / 65536 % 65536, s / 4294967296 % 65536, s / 281474976710656] := fun j => by
  rcases j with _ | _ | _ | _ | j <;> simp <;> omega
theorem four_arr (W : World) (s g : Nat) (hg : g = W.heap.size) : Arr (W.alloc (.cells #[.int .u64 ((s : Int) % 65536), .int .u64 ((s : Int) / 65536 % 65536), .int .u64 ((s : Int) / 4294967296 % 65536), .int .u64 ((s : Int) / 281474976710656)] 60)) .u64 (.slice (some ⟨g, 0, none⟩) 4 4) [s % 65536, s / 65536 % 65536, s / 4294967296 % 65536, s / 281474976710656] := by
  subst hg
  have h := DB.new .u64 60 W [s % 65536, s / 65536 % 65536, s / 4294967296 % 65536, s / 281474976710656]
  have e : (cs .u64 [s % 65536, s / 65536 % 65536, s / 4294967296 % 65536, s / 281474976710656]).toArray = #[.int .u64 ((s : Int) % 65536), .int .u64 ((s : Int) / 65536 % 65536), .int .u64 ((s : Int) / 4294967296 % 65536), .int .u64 ((s : Int) / 281474976710656)] := by simp [cs]
  rw [e] at h
  exact h.arr (by simp)
set_option maxHeartbeats 2000000 in
set_option maxRecDepth 100000 in
theorem rof_any (n : Int) (w : World) (h1 : -9223372036854775808 ≤ n) (h2 : n ≤ 9223372036854775807) : Calls Tryd.prog 26 #[.int .i64 n] w (NumE n 4 w) := by
  obtain ⟨s, hs⟩ : ∃ s, s = n.natAbs := ⟨_, rfl⟩
  have hsl : s < 18446744073709551616 := by omega
  have HV := Lib.hid (show sv (decide (n < 0)) s = n by rw [hs]; exact sv_abs n)
  have HE := Lib.hid (four_dg hsl)
  have H0 := Lib.hid ((B0.start 28 w).next (bel_a (w.alloc (.cells #[.bool false, .slice none 0 0] 28)) (.cells #[.int .u64 ((s : Int) % 65536), .int .u64 ((s : Int) / 65536 % 65536), .int .u64 ((s : Int) / 4294967296 % 65536), .int .u64 ((s : Int) / 281474976710656)] 60)))
  have HR := Lib.hid (four_arr (w.alloc (.cells #[.bool false, .slice none 0 0] 28)) s (w.heap.size + 1) (by simp))
  by_cases hn : n < 0
  · have F1 : IntKind.u64.wrap (-IntKind.u64.wrap n) = (s : Int) := by rw [wrap_u64m, wrap_u64m]; omega
    have F2 : IntKind.u64.wrap (0 - IntKind.u64.wrap n) = (s : Int) := by rw [wrap_u64m, wrap_u64m]; omega
    clear hs h1 h2
    go_enter Tryd.func26, Tryd.ntmps26
    go_wp2_with (go_at_call 36; (with_reducible refine (norm_parts _ (.slice (some ⟨w.heap.size + 1, 0, none⟩) 4 4) _ _ HR.out HE.out).mono ?_); rintro e w3 ⟨b, C, p', q', ss, rfl, hs, hb3⟩; have HX3 := Lib.hid (H0.out.next hb3); have HS := Lib.hid hs; clear hs hb3; obtain ⟨f3, f4, f5, f6⟩ := HX3.out.facts)
    exact bodyPost_ret (ret_bx28 rfl rfl (HX3.out.fin b _)) rfl (num_fin0 HX3.out HS.out (by rw [four_val]; have h := HV.out; simpa [hn] using h) (by simp))
  · have h0 : 0 ≤ n := by omega
    obtain rfl : n = (s : Int) := by omega
    clear hs h1
    go_enter Tryd.func26, Tryd.ntmps26
    go_wp2_with (go_at_call 36; (with_reducible refine (norm_parts _ (.slice (some ⟨w.heap.size + 1, 0, none⟩) 4 4) _ _ HR.out HE.out).mono ?_); rintro e w3 ⟨b, C, p', q', ss, rfl, hs, hb3⟩; have HX3 := Lib.hid (H0.out.next hb3); have HS := Lib.hid hs; clear hs hb3; obtain ⟨f3, f4, f5, f6⟩ := HX3.out.facts)
    exact bodyPost_ret (ret_bx28 rfl rfl (HX3.out.fin b _)) rfl (num_fin0 HX3.out HS.out (by rw [four_val]; simp [sv]) (by simp))
end Go.Proofs.YthmpkejdficmgaaDoor
