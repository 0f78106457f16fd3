/- Proved here: the laws MetricWidths, MetricPlaces, over what lies in memory. No condition. -/
import Derived.Test.YtibbgmahdiphpaaMm
namespace Go.Proofs.Ytibbgmahdiphpaa
open Go.RowKit

set_option maxHeartbeats 2000000 in
theorem widl_yes (h : Hd) (A : Option Addr) (m c : Nat) (xs : List Int) (w : World) (hI : Il w A m xs) (hs : ¬ 110 < m) (hf : h.gl ≤ 100 ∨ 1024 < h.gl) (hm : MayP h) (hx : mayW h xs) : Calls Try.prog 4 #[.agg #[.int .i64 h.em, .bool h.lg, .int .i64 h.gl, .int .i64 h.me, .int .i64 h.a1, .int .i64 h.a2, .int .i64 h.a3], .slice A m c] w fun e w' => e = .returned (.bool true) ∧ Below w.heap.size w w' := by
  have d1 : decide (110 < (m : Int)) = false := decide_eq_false (by omega)
  have S := Lib.hid (MS.start w h)
  have cf := fun W => few_any h W
  rw [decide_eq_true hf] at cf
  have CF := Lib.hid cf
  have HI := Lib.hid hI
  have c1 := fun W (hI : Il W A m xs) => hmtx_any h A m c xs W hI
  have c2 := fun W (hI : Il W A m xs) => rhmtx_any h A m c xs W hI
  unfold StE at c1 c2
  rw [show HmE h xs = 0 from if_pos ⟨hm, hx⟩] at c1 c2
  obtain ⟨X, hX⟩ : ∃ X : ByteArray, X = ⟨(HmS h xs).toArray⟩ := ⟨_, rfl⟩
  rw [← hX] at c1 c2
  have C1 := Lib.hid c1
  have C2 := Lib.hid c2
  have hXl : X.data.toList = HmS h xs := by rw [hX]
  have hlen := hI.len
  have hXs : X.size ≤ 1000000000 := by
    rw [← size_list, hXl]
    unfold HmS
    rw [if_pos ⟨hm, hx⟩, hmB_len]
    omega
  have c3 := fun W => (widths_any h X W hXs).mono fun _ _ => lm_of
  obtain ⟨b1, b2⟩ := back_w hm hx
  rw [hXl, b1, b2, hlen] at c3
  have C3 := Lib.hid c3
  have HM := Lib.hid (show m ≤ 1000000 by omega)
  clear hs cf hf hm hx hI c1 c2 c3 hX hXl hXs b1 b2 hlen
  go_enter Try.func4, Try.ntmps4
  go_wp2_with (first
    | (go_at_call 6; (with_reducible refine (awake_any _).mono ?_); rintro e w1 ⟨rfl, hb⟩; have S := Lib.hid (S.out.next hb); clear hb; obtain ⟨f0, f1, f2, f3, f4, f5, f6⟩ := S.out.cells)
    | (go_at_call 7; (with_reducible refine (CF.out _).mono ?_); rintro e w2 ⟨rfl, hb⟩; have S := Lib.hid (S.out.next hb); clear hb f0 f1 f2 f3 f4 f5 f6; obtain ⟨f0, f1, f2, f3, f4, f5, f6⟩ := S.out.cells)
    | (go_at_call 13; (with_reducible refine (C1.out _ (HI.out.bel S.out.bel)).mono ?_); rintro e w3 ⟨rfl, hb⟩; have S := Lib.hid (S.out.next hb); clear hb f0 f1 f2 f3 f4 f5 f6; obtain ⟨f0, f1, f2, f3, f4, f5, f6⟩ := S.out.cells)
    | (go_at_call 14; (with_reducible refine (C2.out _ (HI.out.bel S.out.bel)).mono ?_); rintro e w4 ⟨rfl, hb⟩; have S := Lib.hid (S.out.next hb); clear hb f0 f1 f2 f3 f4 f5 f6; obtain ⟨f0, f1, f2, f3, f4, f5, f6⟩ := S.out.cells)
    | (go_at_call 8; (with_reducible refine (C3.out _).mono ?_); rintro e w5 ⟨A1, c1, rfl, ht, hb⟩; have S := Lib.hid (S.out.next hb); have T1 := Lib.hid ht; clear ht; clear hb f0 f1 f2 f3 f4 f5 f6; obtain ⟨f0, f1, f2, f3, f4, f5, f6⟩ := S.out.cells)
    | (go_at_call 12; (with_reducible refine (ints_yes A1 A m _ _ xs _ HM.out ⟨T1.out, HI.out.bel S.out.bel⟩).mono ?_); rintro e w7 ⟨rfl, hb⟩; have S := Lib.hid (S.out.next hb); clear hb))
  go_ret
  exact ⟨rfl, S.out.bel⟩
theorem law_widths (h : Hd) (A : Option Addr) (m c : Nat) (xs : List Int) (w : World) (hI : Il w A m xs) : Calls Try.prog 4 #[.agg #[.int .i64 h.em, .bool h.lg, .int .i64 h.gl, .int .i64 h.me, .int .i64 h.a1, .int .i64 h.a2, .int .i64 h.a3], .slice A m c] w fun e w' => e = .returned (.bool true) ∧ Below w.heap.size w w' := by
  by_cases hs : 110 < m
  · exact widl_big h A m c w hs
  · by_cases hf : h.gl ≤ 100 ∨ 1024 < h.gl
    · by_cases hm : MayP h ∧ mayW h xs
      · exact widl_yes h A m c xs w hI hs hf hm.1 hm.2
      · exact widl_no h A m c xs w hI hs hf hm
    · exact widl_many h A m c w hs hf
set_option maxHeartbeats 2000000 in
theorem plal_yes (h : Hd) (A : Option Addr) (m c : Nat) (xs : List Int) (w : World) (hI : Il w A m xs) (hs : ¬ 110 < m) (hf : h.gl ≤ 100 ∨ 1024 < h.gl) (hm : MayP h) (hx : mayPs h xs) : Calls Try.prog 5 #[.agg #[.int .i64 h.em, .bool h.lg, .int .i64 h.gl, .int .i64 h.me, .int .i64 h.a1, .int .i64 h.a2, .int .i64 h.a3], .slice A m c] w fun e w' => e = .returned (.bool true) ∧ Below w.heap.size w w' := by
  have d1 : decide (110 < (m : Int)) = false := decide_eq_false (by omega)
  have S := Lib.hid (MS.start w h)
  have cf := fun W => few_any h W
  rw [decide_eq_true hf] at cf
  have CF := Lib.hid cf
  have HI := Lib.hid hI
  have c1 := fun W (hI : Il W A m xs) => loca_any h A m c xs W hI
  have c2 := fun W (hI : Il W A m xs) => rloca_any h A m c xs W hI
  unfold StE at c1 c2
  rw [show LoE h xs = 0 from if_pos ⟨hm, hx⟩] at c1 c2
  obtain ⟨X, hX⟩ : ∃ X : ByteArray, X = ⟨(LoS h xs).toArray⟩ := ⟨_, rfl⟩
  rw [← hX] at c1 c2
  have C1 := Lib.hid c1
  have C2 := Lib.hid c2
  have hXl : X.data.toList = LoS h xs := by rw [hX]
  have hlen := hI.len
  have hXs : X.size ≤ 1000000000 := by
    rw [← size_list, hXl]
    unfold LoS
    rw [if_pos ⟨hm, hx⟩]
    have := loB_le h.lg xs xs.length (by omega)
    omega
  obtain ⟨b1, b2⟩ := back_p hm hx
  have hm0 : 0 < m := by obtain ⟨_, ⟨q1, _⟩, _⟩ := hm; have := hx.1; omega
  rw [hlen] at b1 b2
  obtain ⟨j, hj⟩ : ∃ j, j = m - 1 := ⟨_, rfl⟩
  rw [← hj] at b1 b2
  have HZ := Lib.hid (show j < m by omega)
  obtain ⟨z, hz⟩ : ∃ z, z = co xs j := ⟨_, rfl⟩
  have HZZ := Lib.hid (show co xs j = z from hz.symm)
  rw [← hz] at b1 b2
  have c3 := fun W => (places_any h X z W hXs).mono fun _ _ => lm_of
  rw [hXl, b1, b2, hlen] at c3
  have C3 := Lib.hid c3
  have HM := Lib.hid (show m ≤ 1000000 by omega)
  have e1 : (m : Int) - 1 = (j : Int) := by omega
  have e2 : IntKind.i64.wrap (j : Int) = (j : Int) := i64_in _ (by omega)
  have HE := Lib.hid (And.intro e1 e2)
  clear hs cf hf hm hx hI c1 c2 c3 hX hXl hXs b1 b2 hlen hj hz hm0 e1 e2
  go_enter Try.func5, Try.ntmps5
  go_upto_region 1 with fail
  obtain ⟨b, hb⟩ : ∃ b, b = w.heap.size := ⟨_, rfl⟩
  obtain ⟨W0, hW0⟩ : ∃ W, W = w.alloc (.cells #[.int .i64 h.em, .bool h.lg, .int .i64 h.gl, .int .i64 h.me, .int .i64 h.a1, .int .i64 h.a2, .int .i64 h.a3] 23) := ⟨_, rfl⟩
  rw [← hW0] at S ⊢
  rw [← hb] at S ⊢
  obtain ⟨f0, f1, f2, f3, f4, f5, f6⟩ := S.out.cells
  clear hb hW0
  go_upto_region 11 with (first
    | (go_at_call 6; (with_reducible refine (awake_any _).mono ?_); rintro e w1 ⟨rfl, hb⟩; have S := Lib.hid (S.out.next hb); clear hb f0 f1 f2 f3 f4 f5 f6; obtain ⟨f0, f1, f2, f3, f4, f5, f6⟩ := S.out.cells)
    | (go_at_call 7; (with_reducible refine (CF.out _).mono ?_); rintro e w2 ⟨rfl, hb⟩; have S := Lib.hid (S.out.next hb); clear hb f0 f1 f2 f3 f4 f5 f6; obtain ⟨f0, f1, f2, f3, f4, f5, f6⟩ := S.out.cells)
    | (go_at_call 15; (with_reducible refine (C1.out _ (HI.out.bel S.out.bel)).mono ?_); rintro e w3 ⟨rfl, hb⟩; have S := Lib.hid (S.out.next hb); clear hb f0 f1 f2 f3 f4 f5 f6; obtain ⟨f0, f1, f2, f3, f4, f5, f6⟩ := S.out.cells)
    | (go_at_call 16; (with_reducible refine (C2.out _ (HI.out.bel S.out.bel)).mono ?_); rintro e w4 ⟨rfl, hb⟩; have S := Lib.hid (S.out.next hb); clear hb f0 f1 f2 f3 f4 f5 f6; obtain ⟨f0, f1, f2, f3, f4, f5, f6⟩ := S.out.cells))
  obtain ⟨a, rfl, c0⟩ := HI.out.at_ S.out.bel HZ.out
  rw [HZZ.out] at c0
  have hjm := HZ.out
  have e1 := HE.out.1
  have e2 := HE.out.2
  have HL := Lib.hid (show ∀ W, MS w W b h → W.cell? (a.add j) = some (.int .i64 z) from fun W hS => by
    obtain ⟨a2, h1, h2⟩ := HI.out.at_ hS.bel HZ.out
    injection h1 with h1
    subst h1
    rw [h2, HZZ.out])
  go_region_held3 (fun w' => w'.cell? ⟨b, 0, none⟩ = some (.int .i64 h.em) ∧ w'.cell? ⟨b, 1, none⟩ = some (.bool h.lg) ∧ w'.cell? ⟨b, 2, none⟩ = some (.int .i64 h.gl) ∧ w'.cell? ⟨b, 3, none⟩ = some (.int .i64 h.me) ∧ w'.cell? ⟨b, 4, none⟩ = some (.int .i64 h.a1) ∧ w'.cell? ⟨b, 5, none⟩ = some (.int .i64 h.a2) ∧ w'.cell? ⟨b, 6, none⟩ = some (.int .i64 h.a3) ∧ w'.cell? (a.add j) = some (.int .i64 z))
    (first | (with_reducible exact ⟨S.out.cells.1, S.out.cells.2.1, S.out.cells.2.2.1, S.out.cells.2.2.2.1, S.out.cells.2.2.2.2.1, S.out.cells.2.2.2.2.2.1, S.out.cells.2.2.2.2.2.2, HL.out _ S.out⟩) | go_keep)
    ((go_at_call 10; (with_reducible refine (C3.out _).mono ?_); rintro e wx ⟨A1, c1, rfl, ht, hb⟩; (first | have S := Lib.hid (S.out.next hb) | have S := Lib.hid (S.out.drew.next hb)); have T1 := Lib.hid ht; clear hb ht))
  all_goals
    go_wp2_with (go_at_call 12; (with_reducible refine (ints_yes A1 (some a) m _ _ xs _ HM.out ⟨T1.out, HI.out.bel S.out.bel⟩).mono ?_); rintro e w7 ⟨rfl, hb⟩; have S := Lib.hid (S.out.next hb); clear hb)
    go_ret
    exact ⟨rfl, S.out.bel⟩
theorem law_places (h : Hd) (A : Option Addr) (m c : Nat) (xs : List Int) (w : World) (hI : Il w A m xs) : Calls Try.prog 5 #[.agg #[.int .i64 h.em, .bool h.lg, .int .i64 h.gl, .int .i64 h.me, .int .i64 h.a1, .int .i64 h.a2, .int .i64 h.a3], .slice A m c] w fun e w' => e = .returned (.bool true) ∧ Below w.heap.size w w' := by
  by_cases hs : 110 < m
  · exact plal_big h A m c w hs
  · by_cases hf : h.gl ≤ 100 ∨ 1024 < h.gl
    · by_cases hm : MayP h ∧ mayPs h xs
      · exact plal_yes h A m c xs w hI hs hf hm.1 hm.2
      · exact plal_no h A m c xs w hI hs hf hm
    · exact plal_many h A m c w hs hf
end Go.Proofs.Ytibbgmahdiphpaa
