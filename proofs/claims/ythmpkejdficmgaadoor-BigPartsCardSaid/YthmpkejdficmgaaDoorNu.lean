/- Proved here: what package big's Div answers and leaves in memory. Condition: numbers in any form, of at most 50000 digits, that lie in memory. -/
import Derived.Test.YthmpkejdficmgaaDoorNt
namespace Go.Proofs.YthmpkejdficmgaaDoor
open Go.RowKit

theorem ret_bx24_3 {fn : Func} {p u t : Tmp} {tmps : Array Value} {W : World} {g : Nat} {n : Bool} {v x y : Value} (h : fn.results = #[.cell p 24, .tmp u, .tmp t]) (hp : tmps.getD p undef = .pointer (some ⟨g, 0, none⟩)) (hx : tmps.getD u undef = x) (hy : tmps.getD t undef = y) (hb : Bx 24 W g n v) :
    (results fn tmps).run Tryd.prog W = .ok (.tuple #[.agg #[.bool n, v], x, y]) W := by
  have hc0 := hb.c0
  have hc1 := hb.c1
  rw [Array.getD_eq_getD_getElem?] at hp hx hy
  simp [results, h, hp, hx, hy, go_sem, hc0, hc1]
theorem ret_bx24_2 {fn : Func} {p u : Tmp} {tmps : Array Value} {W : World} {g : Nat} {n : Bool} {v x : Value} (h : fn.results = #[.cell p 24, .tmp u]) (hp : tmps.getD p undef = .pointer (some ⟨g, 0, none⟩)) (hx : tmps.getD u undef = x) (hb : Bx 24 W g n v) :
    (results fn tmps).run Tryd.prog W = .ok (.tuple #[.agg #[.bool n, v], x]) W := by
  have hc0 := hb.c0
  have hc1 := hb.c1
  rw [Array.getD_eq_getD_getElem?] at hp hx
  simp [results, h, hp, hx, go_sem, hc0, hc1]
theorem ret_bx28_2 {fn : Func} {p u : Tmp} {tmps : Array Value} {W : World} {g : Nat} {n : Bool} {v x : Value} (h : fn.results = #[.cell p 28, .tmp u]) (hp : tmps.getD p undef = .pointer (some ⟨g, 0, none⟩)) (hx : tmps.getD u undef = x) (hb : Bx 28 W g n v) :
    (results fn tmps).run Tryd.prog W = .ok (.tuple #[.agg #[.bool n, v], x]) W := by
  have hc0 := hb.c0
  have hc1 := hb.c1
  rw [Array.getD_eq_getD_getElem?] at hp hx
  simp [results, h, hp, hx, go_sem, hc0, hc1]
theorem sv_tdiv (b : Bool) (m : Nat) (n : Int) : sv (!(b == decide (n < 0))) (m / n.natAbs) = (sv b m).tdiv n := by
  obtain ⟨k, rfl | rfl⟩ := Int.eq_nat_or_neg n
  · have h : ¬ (k : Int) < 0 := by omega
    cases b <;> simp [sv, h, Int.neg_tdiv]
  · rcases Nat.eq_zero_or_pos k with h0 | h0
    · subst h0
      cases b <;> simp [sv]
    · have h : k ≠ 0 := by omega
      cases b <;> simp [sv, Int.tdiv_neg, Int.neg_tdiv] <;> exact fun e => absurd e h
theorem tmod_nat (m k : Nat) : (m : Int).tmod (k : Int) = (m : Int) % (k : Int) := Int.tmod_eq_emod_of_nonneg (Int.natCast_nonneg _)
theorem sv_tmod (b : Bool) (m : Nat) (n : Int) : sv b (m % n.natAbs) = (sv b m).tmod n := by
  obtain ⟨k, rfl | rfl⟩ := Int.eq_nat_or_neg n
  · cases b <;> simp [sv, Int.neg_tmod, tmod_nat]
  · cases b <;> simp [sv, Int.tmod_neg, Int.neg_tmod, tmod_nat]
/-- What Div answers. -/
def DivBE (x n : Int) (l : Nat) (w : World) (e : Ending) (w' : World) : Prop := ∃ Z, e = .returned (.tuple #[Z, .int .i64 (x.tmod n), .int .i64 0]) ∧ BigC w' Z (x.tdiv n) l ∧ Below w.heap.size w w'
theorem divbe_of {x n r : Int} {l l' : Nat} {w w' : World} {v : Value} (hE : BigE (x.tdiv n) l w (.returned v) w') (hr : r = x.tmod n) (hl : l ≤ l') : DivBE x n l' w (.returned (.tuple #[v, .int .i64 r, .int .i64 0])) w' := by
  obtain ⟨Z, h1, h2, h3⟩ := hE
  injection h1 with h1
  subst h1 hr
  exact ⟨_, rfl, h2.le hl, h3⟩
set_option maxHeartbeats 2000000 in
set_option maxRecDepth 100000 in
theorem bdiv_any (X : Value) (x n : Int) (l : Nat) (w : World) (hX : BigA w X x l) (hl : l ≤ 100000) (hn : n ≠ 0) (h1 : -9223372036854775808 ≤ n) (h2 : n ≤ 9223372036854775807) : Calls Tryd.prog 34 #[X, .int .i64 n] w (DivBE x n l w) := by
  obtain ⟨b, v, xs, rfl, hv, hx, hxl, rfl⟩ := hX
  obtain ⟨A, c, rfl⟩ := hv.slice
  have HX := Lib.hid (And.intro hx (show (tr xs).length ≤ l by rw [tr_len]; have := tr_le xs; omega))
  obtain ⟨p, hp⟩ : ∃ p, p = xs.length := ⟨_, rfl⟩
  rw [← hp] at hv ⊢
  have HV := Lib.hid hv
  have HL := Lib.hid hl
  have hb0 : (n == 0) = false := by simp [hn]
  obtain ⟨s, hs⟩ : ∃ s, s = n.natAbs := ⟨_, rfl⟩
  have hs0 : 0 < s := by omega
  have hsl : s < 18446744073709551616 := by omega
  have hs2 : s ≤ 9223372036854775808 := by omega
  have HA := Lib.hid (fun W => abs_any n W h1 h2)
  rw [← hs] at HA
  have HD := Lib.hid (sv_tdiv b (dw xs) n)
  have HM := Lib.hid (sv_tmod b (dw xs) n)
  rw [← hs] at HD HM
  have hrl : dw xs % s < s := Nat.mod_lt _ hs0
  obtain ⟨r, hr⟩ : ∃ r, r = dw xs % s := ⟨_, rfl⟩
  rw [← hr] at HM hrl
  have HR := Lib.hid (show dw (tr xs) % s = r by rw [tr_dw, hr])
  have HS0 := Lib.hid (And.intro hs0 hsl)
  clear hv hx hxl hp hl hs hr hn h1 h2 hs0
  have hrl2 : r ≤ 9223372036854775807 := by omega
  have F := neg_back (show r ≤ 9223372036854775808 by omega)
  cases b
  · have H0 := Lib.hid (B2'.start 24 24 w false (.slice A p c))
    have HV0 := Lib.hid (HV.out.bel H0.out.bel)
    go_enter Tryd.func34, Tryd.ntmps34
    go_wp2_with (first
      | (go_at_call 37; (with_reducible refine (trim32_w A p c xs _ HV0.out).mono ?_); rintro e w1 ⟨rfl, rfl⟩)
      | (go_at_call 50; (with_reducible refine (HA.out _).mono ?_); rintro e w1 ⟨rfl, rfl⟩)
      | (go_at_call 52; (with_reducible refine (divide_any (.slice A (tl xs) c) (tr xs) s _ HV0.out.tr (tr_eg HX.out.1) (Nat.le_trans HX.out.2 HL.out) HS0.out.1 HS0.out.2).mono ?_); rintro e w2 ⟨B, zs, he, hz1, hz2, hz3, hz4, hb⟩; rw [HR.out] at he; subst he; have HX2 := Lib.hid (H0.out.next hb); have HZ := Lib.hid (And.intro hz1 (And.intro hz2 (And.intro hz3 hz4))); clear hz1 hz2 hz3 hz4 hb; obtain ⟨f1, f2, f3, f4, f5, f6⟩ := HX2.out.facts)
      | (go_at_call 38; (with_reducible refine (form_parts _ (.slice B zs.length zs.length) zs w2 HZ.out.1 HZ.out.2.1).mono ?_); rintro e w3 ⟨k, C, p', q', ss, rfl, hs, hb⟩; have HX3 := Lib.hid (HX2.out.next hb); have HS := Lib.hid hs; clear hs hb f1 f2 f3 f4 f5 f6; obtain ⟨f1, f2, f3, f4, f5, f6⟩ := HX3.out.facts))
    refine bodyPost_ret (ret_bx24_3 rfl rfl rfl rfl (HX3.out.fin k _)) rfl (divbe_of (big_fin2 HX3.out HS.out (by rw [HZ.out.2.2.1, tr_dw]; have h := HD.out; simpa using h) (Nat.le_refl _)) (by have h := HM.out; rw [sv_false] at h; exact h) (by rw [HZ.out.2.2.2]; exact HX.out.2))
  · have H0 := Lib.hid (B2'.start 24 24 w true (.slice A p c))
    have HV0 := Lib.hid (HV.out.bel H0.out.bel)
    go_enter Tryd.func34, Tryd.ntmps34
    go_wp2_with (first
      | (go_at_call 37; (with_reducible refine (trim32_w A p c xs _ HV0.out).mono ?_); rintro e w1 ⟨rfl, rfl⟩)
      | (go_at_call 50; (with_reducible refine (HA.out _).mono ?_); rintro e w1 ⟨rfl, rfl⟩)
      | (go_at_call 52; (with_reducible refine (divide_any (.slice A (tl xs) c) (tr xs) s _ HV0.out.tr (tr_eg HX.out.1) (Nat.le_trans HX.out.2 HL.out) HS0.out.1 HS0.out.2).mono ?_); rintro e w2 ⟨B, zs, he, hz1, hz2, hz3, hz4, hb⟩; rw [HR.out] at he; subst he; have HX2 := Lib.hid (H0.out.next hb); have HZ := Lib.hid (And.intro hz1 (And.intro hz2 (And.intro hz3 hz4))); clear hz1 hz2 hz3 hz4 hb; obtain ⟨f1, f2, f3, f4, f5, f6⟩ := HX2.out.facts)
      | (go_at_call 38; (with_reducible refine (form_parts _ (.slice B zs.length zs.length) zs w2 HZ.out.1 HZ.out.2.1).mono ?_); rintro e w3 ⟨k, C, p', q', ss, rfl, hs, hb⟩; have HX3 := Lib.hid (HX2.out.next hb); have HS := Lib.hid hs; clear hs hb f1 f2 f3 f4 f5 f6; obtain ⟨f1, f2, f3, f4, f5, f6⟩ := HX3.out.facts))
    refine bodyPost_ret (ret_bx24_3 rfl rfl rfl rfl (HX3.out.fin k _)) rfl (divbe_of (big_fin2 HX3.out HS.out (by rw [HZ.out.2.2.1, tr_dw]; have h := HD.out; simpa using h) (Nat.le_refl _)) (by have h := HM.out; rw [sv_true] at h; rw [F]; exact h) (by rw [HZ.out.2.2.2]; exact HX.out.2))
end Go.Proofs.YthmpkejdficmgaaDoor
