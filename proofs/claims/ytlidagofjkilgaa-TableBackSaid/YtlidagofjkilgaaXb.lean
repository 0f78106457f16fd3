/- Proved here: that TableBack's law answers true, over every list of tables and every tag. Condition: the list lies in memory. -/
import Derived.Test.YtlidagofjkilgaaXa
namespace Go.Proofs.Ytlidagofjkilgaa
open Go.RowKit

/-- Are the first k tables small? -/
def smallK (L : List (List UInt8 × List UInt8)) (i : Nat) : Bool := decide ((dt L i).length ≤ 200) && decide ((tg L i).length ≤ 10)
set_option maxHeartbeats 4000000 in
/-- The law's first steps, of lists that are longer, or have longer texts, than it asks. -/
theorem back_out (A : Option Addr) (m c : Nat) (L : List (List UInt8 × List UInt8)) (t : ByteArray) (w : World) (h : Tl w A m L) (hx : 70 < m ∨ ∃ i, i < m ∧ smallK L i = false) : Calls Try.prog 3 #[.slice A m c, .string t] w fun e w' => e = .returned (.bool true) ∧ Below w.heap.size w w' := by
  have HX := Lib.hid h
  clear h
  by_cases h70 : 70 < m
  · have hd : decide (70 < (m : Int)) = true := decide_eq_true (by omega)
    clear h70 hx
    go_enter Try.func3, Try.ntmps3
    go_wp2_with (go_at_call 6; (with_reducible refine (awake_any _).mono ?_); rintro e w1 ⟨rfl, hb⟩; have B := Lib.hid hb; clear hb)
    go_ret
    exact ⟨rfl, B.out⟩
  have hx := hx.resolve_left h70
  have hd : decide (70 < (m : Int)) = false := decide_eq_false (by omega)
  have HBad := Lib.hid hx
  have H70 := Lib.hid h70
  clear h70 hx
  go_enter Try.func3, Try.ntmps3
  go_wp2_with (go_at_call 6; (with_reducible refine (awake_any _).mono ?_); rintro e w1 ⟨rfl, hb⟩; have B := Lib.hid hb; clear hb)
  go_loopw [24] (fun v wi => ∃ k : Nat, v = .int .i64 (k : Int) ∧ k ≤ m ∧ (∀ i, i < k → smallK L i = true) ∧ Below w.heap.size w wi) (fun v _ => m - (intOf v).toNat)
  case atStart => exact ⟨0, rfl, Nat.zero_le _, fun i hi => by omega, B.out⟩
  case round =>
    obtain ⟨k, rfl, hk, hsm, hb⟩ := hrel
    have HB := Lib.hid hb
    have HSM := Lib.hid hsm
    clear hb hsm
    have h70 := H70.out
    by_cases hgo : k < m
    · obtain ⟨ad, rfl, c0, c1⟩ := HX.out.at_ HB.out hgo
      obtain ⟨X, hX⟩ : ∃ X : ByteArray, X = ⟨(tg L k).toArray⟩ := ⟨_, rfl⟩
      obtain ⟨D, hDD⟩ : ∃ D : ByteArray, D = ⟨(dt L k).toArray⟩ := ⟨_, rfl⟩
      have hXz : X.size = (tg L k).length := by rw [hX]; exact List.size_toArray
      have hDz : D.size = (dt L k).length := by rw [hDD]; exact List.size_toArray
      obtain ⟨nx, hnx⟩ : ∃ n, n = (tg L k).length := ⟨_, rfl⟩
      obtain ⟨nd, hnd⟩ : ∃ n, n = (dt L k).length := ⟨_, rfl⟩
      have hsk : smallK L k = (decide (nd ≤ 200) && decide (nx ≤ 10)) := by unfold smallK; rw [hnx, hnd]
      rw [← hnx] at hXz
      rw [← hnd] at hDz
      rw [← hX] at c0
      rw [← hDD] at c1
      have hBA := Lib.hid (HB.out.alloc HB.out.size (.cells #[.string X, .string D] 25))
      clear hX hDD hnx hnd
      by_cases h1 : 200 < nd
      · have d1 : decide (200 < (nd : Int)) = true := decide_eq_true (by omega)
        clear h1 hsk
        go_wp2_with fail
        go_ret
        exact ⟨rfl, hBA.out⟩
      · have d1 : decide (200 < (nd : Int)) = false := decide_eq_false (by omega)
        by_cases h2 : 10 < nx
        · have d2 : decide (10 < (nx : Int)) = true := decide_eq_true (by omega)
          clear h1 h2 hsk
          go_wp2_with fail
          go_ret
          exact ⟨rfl, hBA.out⟩
        · have d2 : decide (10 < (nx : Int)) = false := decide_eq_false (by omega)
          have HS := Lib.hid (show ∀ i, i < k + 1 → smallK L i = true from fun i hi => by
            rcases Nat.lt_or_ge i k with h7 | h7
            · exact HSM.out i h7
            · rw [show i = k by omega, hsk, decide_eq_true (by omega), decide_eq_true (by omega)]; rfl)
          clear h1 h2 hsk
          go_wp2_with fail
          exact ⟨⟨k + 1, by simp, by omega, HS.out, hBA.out⟩, by simp [intOf]; omega⟩
    · exfalso
      obtain ⟨i, hi, hs⟩ := HBad.out
      rw [HSM.out i (by omega)] at hs
      cases hs
theorem parse_made (L : List (List UInt8 × List UInt8)) (w : World) (S : ByteArray) (hS : S = ⟨(mkF L).toArray⟩) (h : mkE L = 0) (hz : S.size ≤ 1000000) : Calls Try.prog 11 #[.string S] w fun e w' => ∃ A c, e = .returned (.tuple #[.slice A L.length c, .int .i64 0]) ∧ Tl w' A L.length L ∧ Below w.heap.size w w' := by
  subst hS
  refine (parse_any _ w hz).mono fun e w' ⟨A, n, c, h1, h2, h3⟩ => ?_
  have e1 := back_PE h
  have h1 : e = .returned (.tuple #[.slice A n c, .int .i64 (PE (mkF L))]) := h1
  have h2 : Tl w' A n (PT (mkF L)) := h2
  rw [e1.1] at h1
  rw [e1.2] at h2
  have hn := h2.len
  subst hn
  exact ⟨A, c, h1, h2, h3⟩
set_option maxRecDepth 100000 in
set_option maxHeartbeats 8000000 in
theorem back_in (A : Option Addr) (m c : Nat) (L : List (List UInt8 × List UInt8)) (t : ByteArray) (w : World) (h : Tl w A m L) (h70 : m ≤ 70) (hsm : ∀ i, i < m → smallK L i = true) : Calls Try.prog 3 #[.slice A m c, .string t] w fun e w' => e = .returned (.bool true) ∧ Below w.heap.size w w' := by
  have hl := h.len
  have hsd : ∀ i, i < m → (dt L i).length ≤ 200 ∧ (tg L i).length ≤ 10 := fun i hi => by
    have := hsm i hi
    unfold smallK at this
    simp only [Bool.and_eq_true, decide_eq_true_eq] at this
    exact this
  have HX := Lib.hid h
  have HSD := Lib.hid hsd
  have H70 := Lib.hid h70
  have hd : decide (70 < (m : Int)) = false := decide_eq_false (by omega)
  have ht : t = ⟨t.data.toList.toArray⟩ := of_list rfl
  obtain ⟨tl, htl⟩ : ∃ l, l = t.data.toList := ⟨_, rfl⟩
  rw [← htl] at ht
  obtain ⟨E, hE⟩ : ∃ x, x = mkE L := ⟨_, rfl⟩
  obtain ⟨S, hS⟩ : ∃ S : ByteArray, S = ⟨(mkS L).toArray⟩ := ⟨_, rfl⟩
  obtain ⟨F, hF⟩ : ∃ S : ByteArray, S = ⟨(findL L tl).1.toArray⟩ := ⟨_, rfl⟩
  obtain ⟨fb, hfb⟩ : ∃ b, b = (findL L tl).2 := ⟨_, rfl⟩
  have c1 := fun W (hb : Below w.heap.size w W) => make_any A m c L W (HX.out.bel hb) (by omega) (fun i hi => by have := (hsd i hi).2; omega) (fun i hi => by have := (hsd i hi).1; omega)
  have c2 := fun W (hb : Below w.heap.size w W) => rmake_any A m c L W (HX.out.bel hb) (by omega) (fun i hi => by have := (hsd i hi).1; omega)
  have c3 := fun W (hb : Below w.heap.size w W) => find_any A m c L tl W (HX.out.bel hb) (by omega) (fun i hi => by have := (hsd i hi).1; omega)
  have c4 := fun W (hb : Below w.heap.size w W) => rfind_any A m c L tl W (HX.out.bel hb) (by omega)
  rw [← hE, ← hS] at c1 c2
  rw [← ht, ← hF, ← hfb] at c3 c4
  have C1 := Lib.hid c1
  have C2 := Lib.hid c2
  have C3 := Lib.hid c3
  have C4 := Lib.hid c4
  have CP := Lib.hid (fun (h0 : E = 0) W => parse_made L W S (by rw [hS]; unfold mkS; rw [if_pos (by rw [← hE, h0])]) (by rw [← hE, h0]) (by
    have hz := mkE_zero (L := L) (by rw [← hE, h0])
    have hz2 := body_max (L := L) (fun i hi => by have := (hsd i (by omega)).1; omega) L.length (Nat.le_refl _)
    have hz3 : (body L).length ≤ 300 * L.length := by
      have : ∀ j, j ≤ L.length → (body (L.take j)).length ≤ 300 * j := fun j => by
        induction j with
        | zero => intro _; exact Nat.le_refl _
        | succ j ih =>
          intro hj
          have h1 := ih (by omega)
          rw [body_next (by omega), List.length_append, blk_up]
          have := (hsd j (by omega)).1
          omega
      have h9 := this L.length (Nat.le_refl _)
      rw [List.take_length] at h9
      exact h9
    have hfl := fnt_len (L := L) (B := body L) hz.2.1
    rw [hS]
    unfold mkS
    rw [if_pos (by rw [← hE, h0])]
    show (mkF L).toArray.size ≤ _
    rw [List.size_toArray]
    have : mkF L = fnt L (body L) := rfl
    rw [this, hfl]
    omega))
  have CS := Lib.hid (fun W A' ca' (h : Tl W A' m L) (hb : Below w.heap.size w W) => same_any A' A m ca' c L W h (HX.out.bel hb) (by omega))
  rw [hl] at CP
  clear h h70 hsm hsd hl ht htl hS hF hfb c1 c2 c3 c4
  go_enter Try.func3, Try.ntmps3
  go_wp2_with (go_at_call 6; (with_reducible refine (awake_any _).mono ?_); rintro e w1 ⟨rfl, hb⟩; have B := Lib.hid hb; clear hb)
  go_loopw [24] (fun v wi => ∃ k : Nat, v = .int .i64 (k : Int) ∧ k ≤ m ∧ Below w.heap.size w wi) (fun v _ => m - (intOf v).toNat)
  case atStart => exact ⟨0, rfl, Nat.zero_le _, B.out⟩
  case round =>
    obtain ⟨k, rfl, hk, hb⟩ := hrel
    have HB := Lib.hid hb
    clear hb
    have h70 := H70.out
    by_cases hgo : k < m
    · obtain ⟨ad, rfl, c0, c1⟩ := HX.out.at_ HB.out hgo
      obtain ⟨X, hX⟩ : ∃ X : ByteArray, X = ⟨(tg L k).toArray⟩ := ⟨_, rfl⟩
      obtain ⟨D, hDD⟩ : ∃ D : ByteArray, D = ⟨(dt L k).toArray⟩ := ⟨_, rfl⟩
      have hXz : X.size = (tg L k).length := by rw [hX]; exact List.size_toArray
      have hDz : D.size = (dt L k).length := by rw [hDD]; exact List.size_toArray
      have hsk := HSD.out k hgo
      obtain ⟨nx, hnx⟩ : ∃ n, n = (tg L k).length := ⟨_, rfl⟩
      obtain ⟨nd, hnd⟩ : ∃ n, n = (dt L k).length := ⟨_, rfl⟩
      rw [← hnx] at hXz hsk
      rw [← hnd] at hDz hsk
      rw [← hX] at c0
      rw [← hDD] at c1
      have hBA := Lib.hid (HB.out.alloc HB.out.size (.cells #[.string X, .string D] 25))
      have d1 : decide (200 < (nd : Int)) = false := decide_eq_false (by omega)
      have d2 : decide (10 < (nx : Int)) = false := decide_eq_false (by omega)
      clear hX hDD hnx hnd hsk
      go_wp2_with fail
      exact ⟨⟨k + 1, by simp, by omega, hBA.out⟩, by simp [intOf]; omega⟩
    · have hkm : k = m := by omega
      subst hkm
      by_cases h0 : E = 0
      · have CP2 := Lib.hid (CP.out h0)
        subst h0
        go_wp2_with (first
          | (go_at_call 7; (with_reducible refine (C1.out _ HB.out).mono ?_); rintro e w2 ⟨rfl, hb⟩; have B2 := Lib.hid (HB.out.trans (hb.mono HB.out.size)); clear hb)
          | (go_at_call 8; (with_reducible refine (C2.out _ B2.out).mono ?_); rintro e w3 ⟨rfl, hb⟩; have B3 := Lib.hid (B2.out.trans (hb.mono B2.out.size)); clear hb)
          | (go_at_call 9; (with_reducible refine (C3.out _ B3.out).mono ?_); rintro e w4 ⟨rfl, hb⟩; have B4 := Lib.hid (B3.out.trans (hb.mono B3.out.size)); clear hb)
          | (go_at_call 10; (with_reducible refine (C4.out _ B4.out).mono ?_); rintro e w5 ⟨rfl, rfl⟩)
          | (go_at_call 11; (with_reducible refine (CP2.out _).mono ?_); rintro e w6 ⟨A6, ca6, rfl, ht, hb⟩; have T6 := Lib.hid ht; have B6 := Lib.hid (B4.out.trans (hb.mono B4.out.size)); clear ht hb)
          | (go_at_call 12; (with_reducible refine (CS.out _ _ _ T6.out B6.out).mono ?_); rintro e w7 ⟨rfl, hb⟩; have B7 := Lib.hid (B6.out.trans (hb.mono B6.out.size)); clear hb))
        go_ret
        exact ⟨rfl, B7.out⟩
      · have e1 : (E != 0) = true := by simp [h0]
        clear h0
        go_wp2_with (first
          | (go_at_call 7; (with_reducible refine (C1.out _ HB.out).mono ?_); rintro e w2 ⟨rfl, hb⟩; have B2 := Lib.hid (HB.out.trans (hb.mono HB.out.size)); clear hb)
          | (go_at_call 8; (with_reducible refine (C2.out _ B2.out).mono ?_); rintro e w3 ⟨rfl, hb⟩; have B3 := Lib.hid (B2.out.trans (hb.mono B2.out.size)); clear hb)
          | (go_at_call 9; (with_reducible refine (C3.out _ B3.out).mono ?_); rintro e w4 ⟨rfl, hb⟩; have B4 := Lib.hid (B3.out.trans (hb.mono B3.out.size)); clear hb)
          | (go_at_call 10; (with_reducible refine (C4.out _ B4.out).mono ?_); rintro e w5 ⟨rfl, rfl⟩))
        go_ret
        exact ⟨rfl, B4.out⟩
theorem law_back (A : Option Addr) (m c : Nat) (L : List (List UInt8 × List UInt8)) (t : ByteArray) (w : World) (h : Tl w A m L) : Calls Try.prog 3 #[.slice A m c, .string t] w fun e w' => e = .returned (.bool true) ∧ Below w.heap.size w w' := by
  by_cases h70 : 70 < m
  · exact back_out A m c L t w h (.inl h70)
  · by_cases hs : ∀ i, i < m → smallK L i = true
    · exact back_in A m c L t w h (by omega) hs
    · refine back_out A m c L t w h (.inr ?_)
      obtain ⟨i, hi⟩ := Classical.not_forall.1 hs
      obtain ⟨hi, h2⟩ := Classical.not_imp.1 hi
      exact ⟨i, hi, by cases h3 : smallK L i; rfl; exact absurd h3 h2⟩
end Go.Proofs.Ytlidagofjkilgaa
