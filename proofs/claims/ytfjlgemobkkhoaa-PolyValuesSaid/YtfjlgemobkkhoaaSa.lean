/- Proved here: the laws' awake returns true, in whatever memory. No condition. -/
import Derived.Test.YtfjlgemobkkhoaaRi
namespace Go.Proofs.Ytfjlgemobkkhoaa
open Go.RowKit

theorem ia_new (W : World) (T : TypeId) (xs : List Int) (hf : ∀ i, Fit (co xs i)) (hl : xs.length ≤ 1000) : Ia (W.alloc (.cells (xs.map fun x => Value.int .i64 x).toArray T)) (.slice (some ⟨W.heap.size, 0, none⟩) xs.length xs.length) xs := by
  refine ⟨_, _, rfl, Nat.le_refl _, by unfold maxLen; omega, hf, fun j hj => ⟨⟨W.heap.size, 0, none⟩, rfl, by simp, ?_⟩⟩
  rw [add_at, cell_of_row _ W.heap.size j _ T (0, 0) (heap_alloc_new W _)]
  simp [co, hj]
theorem fit_small {xs : List Int} (h : ∀ x ∈ xs, -1000 ≤ x ∧ x ≤ 1000) (i : Nat) : Fit (co xs i) := by
  rcases Nat.lt_or_ge i xs.length with hi | hi
  · have e : co xs i = xs[i] := by simp [co, hi]
    rw [e]
    obtain ⟨h1, h2⟩ := h _ (List.getElem_mem hi)
    exact ⟨by omega, by omega⟩
  · rw [co_beyond hi]
    exact ⟨by omega, by omega⟩
theorem of_lit (W : World) (xs ys : List Int) (n : Nat) (cells : Array Value) (hc : cells = (xs.map fun x => Value.int .i64 x).toArray) (hn : xs.length = n) (hf : ∀ i, Fit (co xs i)) (hl : n ≤ 1000) (hy : trz xs = ys) :
    Calls Try.prog 29 #[.slice (some ⟨W.heap.size, 0, none⟩) n n] (W.alloc (.cells cells 2)) (PolE .c ys 2 (W.alloc (.cells cells 2))) := by
  subst hc hn hy
  exact pof_any _ _ _ xs _ (ia_new W 2 xs hf hl) (by omega)
theorem dig_one {W : World} {b : Bool} {B : Option Addr} {p q l : Nat} {z : Int} (h : El .c W (.agg #[.bool b, .slice B p q]) z l) (h0 : 0 < z) (h1 : z < 4294967296) :
    p = 1 ∧ ∃ ad, B = some ad ∧ ad.block < W.heap.size ∧ W.cell? ad = some (.int .u32 z) := by
  obtain ⟨n, v, xs, he, h2, h3, h4, h5, h6⟩ := h
  injection he with he
  simp at he
  obtain ⟨rfl, rfl⟩ := he
  obtain ⟨hp, _, _⟩ := h2.cap
  have hn : b = false := by
    cases b
    · rfl
    · simp [sv] at h6; omega
  subst hn
  rw [sv_false] at h6
  have hne : xs ≠ [] := by
    intro hx
    subst hx
    simp [dw] at h6
    omega
  have hge := top_ge32 h4.1 hne
  have hl : xs.length = 1 := by
    rcases Nat.lt_or_ge xs.length 2 with h | h
    · rcases xs with _ | ⟨x, xs⟩
      · exact absurd rfl hne
      · simp only [List.length_cons] at h ⊢; omega
    · exfalso
      have : 4294967296 ^ 1 ≤ 4294967296 ^ (xs.length - 1) := Nat.pow_le_pow_right (by decide) (by omega)
      omega
  obtain ⟨d, rfl⟩ : ∃ d, xs = [d] := by
    rcases xs with _ | ⟨x, _ | ⟨y, ys⟩⟩
    · exact absurd rfl hne
    · exact ⟨x, rfl⟩
    · simp at hl
  have hd : (d : Int) = z := by simpa [dw] using h6
  obtain ⟨ad, rfl, hlt, hc⟩ := h2.get 0 (by simp)
  refine ⟨hp, ad, rfl, hlt, ?_⟩
  rw [add_zero_] at hc
  rw [hc, ← hd]
  rfl
/-- The first number's cells, at the polynomial's own address. -/
theorem Pol.first {K : Kd} {w : World} {A : Option Addr} {m c : Nat} {L : List Int} {l : Nat} (h : Pol K w (.slice A m c) L l) (hi : 0 < L.length) :
    ∃ ad n B p q, A = some ad ∧ ad.block < w.heap.size ∧ w.cell? ad = some (.bool n) ∧ w.cell? { block := ad.block, off := ad.off + 1 } = some (.slice B p q) ∧ El K w (.agg #[.bool n, .slice B p q]) (co L 0) l := by
  obtain ⟨ad, n, B, p, q, rfl, had, c0, c1, he⟩ := h.get 0 hi
  refine ⟨ad, n, B, p, q, rfl, had, by simpa [add_zero_] using c0, ?_, he⟩
  have e1 : (⟨ad.block, ad.off + 1, none⟩ : Addr) = ad.add 1 := by have := add_next ad 0; simpa [add_zero_] using this
  rw [e1]
  simpa using c1
set_option maxRecDepth 100000 in
set_option maxHeartbeats 2000000 in
theorem awake_any (w : World) : Calls Try.prog 7 #[] w fun e w' => e = .returned (.bool true) ∧ Below w.heap.size w w' := by
  have HO1 := Lib.hid (fun W => of_lit W [0, 0, 1] [0, 0, 1] 3 #[.int .i64 0, .int .i64 0, .int .i64 1] rfl rfl (fit_small (by simp)) (by omega) (by decide))
  have HO2 := Lib.hid (fun W => of_lit W [1, 1] [1, 1] 2 #[.int .i64 1, .int .i64 1] rfl rfl (fit_small (by simp)) (by omega) (by decide))
  have HO3 := Lib.hid (fun W => of_lit W [-1, 0, 4] [-1, 0, 4] 3 #[.int .i64 (-1), .int .i64 0, .int .i64 4] rfl rfl (fit_small (by simp)) (by omega) (by decide))
  have HF := Lib.hid (show Fit 1 ∧ Fit 2 ∧ Maybe 1 2 from ⟨⟨by omega, by omega⟩, ⟨by omega, by omega⟩, by omega, by decide⟩)
  have HR := Lib.hid (show restP (trz [0, 0, 1]) (trz [1, 1]) = [1] by decide)
  have HW := Lib.hid (show woP 1 2 (trz [-1, 0, 4]) = ([1, 2], 1) by decide)
  have HA := Lib.hid (show hor 1 2 (trz [1, 1]) = 3 by decide)
  go_enter Try.func7, Try.ntmps7
  go_upto_region 2 with (first
    | (go_at_call 29; (with_reducible refine (HO1.out _).mono ?_); rintro e w1 ⟨A1, c1, rfl, hP, hb⟩; have HP1 := Lib.hid hP; have HB := Lib.hid (bel_tr (bel_a _ _) hb); clear hP hb)
    | (go_at_call 29; (with_reducible refine (HO2.out _).mono ?_); rintro e w2 ⟨A2, c2, rfl, hP, hb⟩; have HP2 := Lib.hid hP; have HP1 := Lib.hid ((HP1.out.bel (bel_a _ _)).bel hb); have HB := Lib.hid (bel_tr (bel_tr HB.out (bel_a _ _)) hb); clear hP hb)
    | (go_at_call 27; (with_reducible refine (prest_yes A1 A2 3 c1 2 c2 [0, 0, 1] [1, 1] 2 2 _ HP1.out.any HP2.out.any (by omega) (by omega) (by omega) (by omega) (by decide)).mono ?_); rintro e w3 he; rw [HR.out] at he; obtain ⟨A3, c3, rfl, hP, hb⟩ := he; have HP3 := Lib.hid hP; have HB := Lib.hid (bel_tr HB.out hb); clear hP hb))
  clear HP1 HP2
  go_upto_region 3 with (first
    | (go_at_call 29; (with_reducible refine (HO3.out _).mono ?_); rintro e w4 ⟨A4, c4, rfl, hP, hb⟩; have HP4 := Lib.hid hP; have HP3 := Lib.hid ((HP3.out.bel (bel_a _ _)).bel hb); have HB := Lib.hid (bel_tr (bel_tr HB.out (bel_a _ _)) hb); clear hP hb)
    | (go_at_call 21; (with_reducible refine (pwo_yes A4 3 c4 [-1, 0, 4] 2 1 2 _ HP4.out.any (by omega) (by omega) HF.out.1 HF.out.2.1 HF.out.2.2 (by decide)).mono ?_); rintro e w5 he; rw [HW.out] at he; obtain ⟨A5, c5, rfl, hP, hb⟩ := he; have HP5 := Lib.hid hP; have HP3 := Lib.hid (HP3.out.bel hb); have HB := Lib.hid (bel_tr HB.out hb); clear hP hb))
  clear HP4
  go_upto_region 4 with (first
    | (go_at_call 29; (with_reducible refine (HO2.out _).mono ?_); rintro e w6 ⟨A6, c6, rfl, hP, hb⟩; have HP6 := Lib.hid hP; have HP3 := Lib.hid ((HP3.out.bel (bel_a _ _)).bel hb); have HP5 := Lib.hid ((HP5.out.bel (bel_a _ _)).bel hb); have HB := Lib.hid (bel_tr (bel_tr HB.out (bel_a _ _)) hb); clear hP hb)
    | (go_at_call 20; (with_reducible refine (pat_yes A6 2 c6 [1, 1] 2 1 2 _ HP6.out.any (by omega) (by omega) HF.out.1 HF.out.2.1 HF.out.2.2).mono ?_); rintro e w7 he; rw [HA.out] at he; obtain ⟨Z, rfl, hZ, hb⟩ := he; obtain ⟨b7, B7, p7, q7, rfl⟩ := hZ.form; have HP7 := Lib.hid hZ; have HP3 := Lib.hid (HP3.out.bel hb); have HP5 := Lib.hid (HP5.out.bel hb); have HB := Lib.hid (bel_tr HB.out hb); clear hZ hb))
  have HV := Lib.hid (show Bx 38 (w7.alloc (.cells #[.bool b7, .slice B7 p7 q7] 38)) w7.heap.size b7 (.slice B7 p7 q7) ∧ El .c (w7.alloc (.cells #[.bool b7, .slice B7 p7 q7] 38)) (.agg #[.bool b7, .slice B7 p7 q7]) 3 (2 + 6 * 2 + 20) ∧ Below w.heap.size w (w7.alloc (.cells #[.bool b7, .slice B7 p7 q7] 38)) ∧
      Pol .c (w7.alloc (.cells #[.bool b7, .slice B7 p7 q7] 38)) (.slice A3 1 c3) [1] (2 + 20101) ∧ Pol .c (w7.alloc (.cells #[.bool b7, .slice B7 p7 q7] 38)) (.slice A5 2 c5) [1, 2] (2 + 30001) from
    ⟨Bx.new 38 w7 _ _, HP7.out.bel (bel_a _ _), bel_tr HB.out (bel_a _ _), HP3.out.bel (bel_a _ _), HP5.out.bel (bel_a _ _)⟩)
  obtain ⟨gv, hgv⟩ : ∃ gv, gv = w7.heap.size := ⟨_, rfl⟩
  obtain ⟨W8, hW8⟩ : ∃ W8, W8 = w7.alloc (.cells #[.bool b7, .slice B7 p7 q7] 38) := ⟨_, rfl⟩
  rw [← hgv, ← hW8] at HV
  rw [← hgv, ← hW8]
  clear hgv hW8 HP3 HP5 HP6 HP7 HB HO1 HO2 HO3 HF HR HW HA
  obtain ⟨ad, n8, B8, p8, q8, rfl, had, k0, k1, he8⟩ := HV.out.2.2.2.1.first (by simp)
  obtain ⟨rfl, ad2, rfl, had2, k2⟩ := dig_one he8 (by decide) (by decide)
  obtain ⟨hp7, ad3, hB7, had3, k3⟩ := dig_one HV.out.2.1 (by decide) (by decide)
  subst hp7 hB7
  rw [show co [1] 0 = (1 : Int) from rfl] at k2
  have k4 := HV.out.1.c0
  have k5 := HV.out.1.c1
  have HK := Lib.hid (And.intro had3 k3)
  clear he8
  go_wp2_with (go_at_call 19; (with_reducible refine (degree_any A5 2 c5 [1, 2] (2 + 30001) _ HV.out.2.2.2.2.any).mono ?_); rw [show ((pl [1, 2] : Nat) : Int) - 1 = 1 from rfl]; rintro e w9 ⟨rfl, hb⟩; have HB9 := Lib.hid (bel_tr HV.out.2.2.1 hb); have k6 := (HV.out.1.bel hb).c1; have k7 := (hb.cell HK.out.1).trans HK.out.2; clear k0 k1 k2 k3 k4 k5 hb)
  go_ret
  exact ⟨rfl, HB9.out⟩
end Go.Proofs.Ytfjlgemobkkhoaa
