/- Proved here: what the document's abs, times and small of layer 3 answer and leave in memory. Condition: numbers in their one form that lie in memory. -/
import Derived.Test.YtjjinncecfilpaaDoorXb
import Derived.Test.YtjjinncecfilpaaDoorXc
namespace Go.Proofs.YtjjinncecfilpaaDoor
open Go.RowKit

theorem Bx.newq {W : World} {T : TypeId} {G : Nat} {n : Bool} {z : Value} (hG : G = W.heap.size) : Bx T (W.alloc (.cells #[.bool n, z] T)) G n z := hG ▸ Bx.new T W n z
set_option maxHeartbeats 1000000 in
theorem absn_any (X : Value) (x : Int) (l : Nat) (w : World) (hX : NumC w X x l) : Calls Tryd.prog 62 #[X] w fun e w' => ∃ b C r q, e = .returned (.agg #[.bool b, .slice C r q]) ∧ NumC w' (.agg #[.bool b, .slice C r q]) (x.natAbs : Int) l ∧ Below w.heap.size w w' := by
  obtain ⟨b, v, xs, rfl, hv, hx, hcx, hxl, rfl⟩ := hX
  obtain ⟨A, c, rfl⟩ := hv.slice
  obtain ⟨p, hp⟩ : ∃ p, p = xs.length := ⟨_, rfl⟩
  rw [← hp] at hv ⊢
  have H0 := Lib.hid (B2'.start 65 65 w b (.slice A p c))
  have HV := Lib.hid (show NumC w (.agg #[.bool false, .slice A p c]) ((sv b (dv xs)).natAbs : Int) l from ⟨false, _, xs, rfl, hv, hx, ⟨hcx.1, fun _ => rfl⟩, hxl, by rw [natAbs_sv]; rfl⟩)
  clear hv hx hcx hxl hp
  go_enter Tryd.func62, Tryd.ntmps62
  go_wp2_with fail
  have hb := bel_tr (bel_a w (.cells #[.bool b, .slice A p c] 65)) (bel_a _ (.cells #[.bool false, .slice A p c] 65))
  exact bodyPost_ret (ret_bx28 rfl rfl (Bx.newq (by simp))) rfl ⟨false, A, p, c, rfl, HV.out.bel hb, hb⟩
set_option maxHeartbeats 1000000 in
theorem times_any (a b : Int) (w : World) (ha : Fit a) (hb : Fit b) : Calls Tryd.prog 46 #[.int .i64 a, .int .i64 b] w (NumE (a * b) 9 w) := by
  have H0 := Lib.hid (B0.start 65 w)
  have HA := Lib.hid (fun W => rof_any a W ha.1 ha.2)
  have HB := Lib.hid (fun W => rof_any b W hb.1 hb.2)
  clear ha hb
  go_enter Tryd.func46, Tryd.ntmps46
  go_wp2_with (first
    | (go_at_call 51; (with_reducible refine (HA.out _).mono ?_); rintro e w1 ⟨Z1, rfl, hz, hb1⟩; have HZ1 := Lib.hid hz; have H0 := Lib.hid (H0.out.next hb1); clear hz hb1)
    | (go_at_call 51; (with_reducible refine (HB.out _).mono ?_); rintro e w2 ⟨Z2, rfl, hz, hb1⟩; have HZ2 := Lib.hid hz; have HZ1 := Lib.hid (HZ1.out.bel hb1); have H0 := Lib.hid (H0.out.next hb1); clear hz hb1)
    | (go_at_call 70; (with_reducible refine (rmul_any Z1 Z2 a b 4 4 _ HZ1.out HZ2.out (by decide) (by decide)).mono ?_); rintro e w3 he; obtain ⟨b4, C4, p4, q4, zs, rfl, hs, hb4⟩ := he.open_; have HS := Lib.hid hs; have H0 := Lib.hid (H0.out.next hb4); obtain ⟨f1, f2, f3, f4⟩ := H0.out.facts; clear he hs hb4))
  exact bodyPost_ret (ret_bx28 rfl rfl (H0.out.fin b4 _)) rfl (num_fin0 H0.out HS.out rfl (Nat.le_refl _))
theorem drop_dat {xs : List Nat} {k : Nat} (h : k < xs.length) : dv (xs.drop k) = dat xs k + 65536 * dv (xs.drop (k + 1)) := by
  rw [List.drop_eq_getElem_cons h]
  show xs[k] + _ = _
  congr 1
  simp [dat, h]
theorem drop_lt {xs : List Nat} (h : Dg xs) (hl : xs.length ≤ 4) (k : Nat) : dv (xs.drop k) < 18446744073709551616 :=
  Nat.lt_of_lt_of_le (dv_lt (dg_drop h k)) (Nat.le_trans (Nat.pow_le_pow_right (by decide) (show (xs.drop k).length ≤ 4 by rw [List.length_drop]; omega)) (by decide))
/-- What a number of 64 bits answers, or that it is none. -/
def SmaE (z : Int) (w : World) (e : Ending) (w' : World) : Prop := (∃ v : Int, e = .returned (.tuple #[.int .i64 v, .bool (decide (Fit z))]) ∧ (Fit z → v = z) ∧ Fit v) ∧ Below w.heap.size w w'
set_option maxHeartbeats 2000000 in
set_option maxRecDepth 100000 in
theorem smalln_any (X : Value) (x : Int) (l : Nat) (w : World) (hX : NumC w X x l) (hl : l ≤ 1000000) : Calls Tryd.prog 57 #[X] w (SmaE x w) := by
  obtain ⟨b, v, xs, rfl, hv, hx, hcx, hxl, rfl⟩ := hX
  obtain ⟨A, c, rfl⟩ := hv.slice
  obtain ⟨p, hp⟩ : ∃ p, p = xs.length := ⟨_, rfl⟩
  have hpl : p ≤ 1000000 := by omega
  rw [← hp] at hv ⊢
  have HV := Lib.hid (hv.alloc (.cells #[.bool b, .slice A p c] 65))
  have HX := Lib.hid (And.intro hx hp)
  by_cases h4 : 4 < p
  · have hd : decide (4 < (p : Int)) = true := decide_eq_true (by omega)
    have HF := Lib.hid (show ¬ Fit (sv b (dv xs)) from fun h => by
      have h5 : dv xs < 65536 ^ 4 := by cases b <;> simp [Fit, sv] at h <;> omega
      have := top_len16 hcx.1 h5
      omega)
    clear hv hx hcx hxl hp hl
    go_enter Tryd.func57, Tryd.ntmps57
    go_wp2_with fail
    go_ret2
    exact ⟨⟨0, by rw [decide_eq_false HF.out]; rfl, fun h => absurd h HF.out, by unfold Fit; omega⟩, bel_a w _⟩
  · have hd : decide (4 < (p : Int)) = false := decide_eq_false (by omega)
    have hp4 : p ≤ 4 := by omega
    have HU := Lib.hid (fun k => drop_lt hx (by omega) k)
    clear hv hcx hxl hl
    have HS := Lib.hid (fun W => signed_any b (dv xs) W (by have := HU.out 0; simpa using this))
    clear hx hp
    go_enter Tryd.func57, Tryd.ntmps57
    go_wp2_with fail
    go_loop [4, 5] (fun s i => ∃ (k : Nat) (y : Int), i = .int .i64 y ∧ y = (k : Int) - 1 ∧ k ≤ p ∧ s = .int .u64 ((dv (xs.drop k) : Nat) : Int)) (fun _ i => (intOf i + 1).toNat)
    case atStart => exact ⟨p, (p : Int) - 1, rfl, rfl, Nat.le_refl _, by rw [HX.out.2, List.drop_length]; rfl⟩
    case round =>
      obtain ⟨k, y, rfl, hy, hk, rfl⟩ := hrel
      rcases k with _ | k
      · obtain rfl : y = -1 := by omega
        clear hy
        rw [List.drop_zero]
        go_wp2_with (go_at_call 37; (with_reducible refine (HS.out _).mono ?_); rintro e w1 ⟨⟨v1, rfl, hv1⟩, rfl⟩; have HV1 := Lib.hid hv1; clear hv1)
        go_ret2
        exact ⟨⟨v1, rfl, HV1.out⟩, bel_a w _⟩
      · obtain rfl : y = (k : Int) := by omega
        clear hy
        have hkp : k < p := hk
        obtain ⟨ad, rfl, _, hca⟩ := HV.out.get k (by rw [← HX.out.2]; exact hkp)
        obtain ⟨U, hU⟩ : ∃ U, U = dv (xs.drop (k + 1)) := ⟨_, rfl⟩
        obtain ⟨T, hT⟩ : ∃ T, T = dv (xs.drop k) := ⟨_, rfl⟩
        have hst := drop_dat (xs := xs) (k := k) (by rw [← HX.out.2]; exact hkp)
        have hTl := HU.out k
        rw [← hU]
        rw [← hU, ← hT] at hst
        rw [← hT] at hTl
        have F1 : IntKind.u64.wrap ((U : Int) * 65536) = ((U * 65536 : Nat) : Int) := wrap_nat (by simp) (by omega)
        obtain ⟨M, hM⟩ : ∃ M, M = U * 65536 := ⟨_, rfl⟩
        rw [← hM] at F1
        have F2 : IntKind.u64.wrap ((M : Int) + (dat xs k : Int)) = (T : Int) := wrap_nat (by omega) hTl
        have HT := Lib.hid hT
        clear hst hU hT hM hTl
        go_wp2_with fail
        exact ⟨⟨k, (k : Int) - 1, rfl, rfl, by omega, by rw [HT.out]⟩, by simp [intOf]⟩
end Go.Proofs.YtjjinncecfilpaaDoor
