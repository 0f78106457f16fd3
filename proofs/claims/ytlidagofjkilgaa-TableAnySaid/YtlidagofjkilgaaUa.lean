/- Proved here: how many tables a directory has, or the error, in the program. Condition: a text of at most a billion bytes. -/
import Derived.Test.YtlidagofjkilgaaTk
namespace Go.Proofs.Ytlidagofjkilgaa
open Go.RowKit

theorem cutL_in {l : List UInt8} {a n : Nat} (h : a + n ≤ l.length) : cutL l (a : Int) (n : Int) = piece l a n ∧ cutE l (a : Int) (n : Int) = 0 := by
  have hh : Has l.length (a : Int) (n : Int) := ⟨by omega, by omega, by omega⟩
  unfold cutL cutE
  rw [if_pos hh, if_pos hh]
  exact ⟨rfl, rfl⟩
theorem cutL_out {l : List UInt8} {a n : Nat} (h : ¬ a + n ≤ l.length) : cutL l (a : Int) (n : Int) = [] ∧ cutE l (a : Int) (n : Int) = 3 := by
  have hh : ¬ Has l.length (a : Int) (n : Int) := fun ⟨_, _, h3⟩ => h (by omega)
  unfold cutL cutE
  rw [if_neg hh, if_neg hh]
  exact ⟨rfl, rfl⟩
theorem piece_zero (l : List UInt8) (n : Nat) : piece l 0 n = l.take n := by simp [piece]
theorem is_list (t : ByteArray) (x : List UInt8) : (t.toList == x) = decide (t.data.toList = x) := by
  rw [Lib.toList_data]
  by_cases h : t.data.toList = x <;> simp [h]
theorem is_text (t s : ByteArray) (x : List UInt8) (hs : s.data.toList = x) : (t.toList == s.toList) = decide (t.data.toList = x) := by
  rw [Lib.toList_data s, hs]
  exact is_list t x
/-- How many tables are told. -/
def cN (l : List UInt8) : Nat := if cntE l = 0 then cntN l else 0
theorem cN_not {l : List UInt8} (h : cntE l ≠ 0) : cN l = 0 := by unfold cN; rw [if_neg h]
/-- Is the beginning wrong? -/
def badH (l : List UInt8) : Prop := piece l 0 4 ≠ [0, 1, 0, 0] ∧ piece l 0 4 ≠ [116, 114, 117, 101]
instance (l : List UInt8) : Decidable (badH l) := inferInstanceAs (Decidable (_ ∧ _))
/-- The beginning, as the walk asks for it. -/
structure HdF (D : ByteArray) (a b : Bool) : Prop where
  a1 : (D.toList == [0, 1, 0, 0]) = a
  a2 : (D.toList == ByteArray.toList ⟨#[0, 1, 0, 0]⟩) = a
  b1 : (D.toList == [116, 114, 117, 101]) = b
  b2 : (D.toList == ByteArray.toList ⟨#[116, 114, 117, 101]⟩) = b
theorem HdF.of {D : ByteArray} {l : List UInt8} (h : D.data.toList = piece l 0 4) : HdF D (decide (piece l 0 4 = [0, 1, 0, 0])) (decide (piece l 0 4 = [116, 114, 117, 101])) := by
  rw [← h]
  exact ⟨is_list _ _, is_text _ _ _ rfl, is_list _ _, is_text _ _ _ rfl⟩
theorem u16_same (s : ByteArray) (a : Nat) (w : World) (hs : s.size ≤ 1000000000) (ha : a + 2 ≤ s.size) :
    Calls Try.prog 44 #[.string s, .int .i64 (a : Int)] w fun e w' => e = .returned (.tuple #[.int .u16 (bv (piece s.data.toList a 2) 0 : Int), .int .i64 0]) ∧ w = w' := by
  have h := u16_any s (a : Int) w hs (by omega)
  have h2 := cutL_in (l := s.data.toList) (a := a) (n := 2) (by rw [size_list]; exact ha)
  rw [show ((2 : Nat) : Int) = 2 from rfl] at h2
  rw [h2.1, h2.2] at h
  exact h
set_option maxHeartbeats 4000000 in
theorem count_any (s : ByteArray) (w : World) (hs : s.size ≤ 1000000000) :
    Calls Try.prog 28 #[.string s] w fun e w' => e = .returned (.tuple #[.int .i64 (cN s.data.toList : Int), .int .i64 (cntE s.data.toList)]) ∧ Below w.heap.size w w' := by
  obtain ⟨z, hz⟩ : ∃ z, z = s.size := ⟨_, rfl⟩
  have hsz : s.size = z := hz.symm
  have hlz : s.data.toList.length = z := by rw [size_list, hz]
  rw [hsz] at hs
  by_cases h1 : 1048576 < z
  · have he : cntE s.data.toList = 6 := by unfold cntE; rw [hlz, if_pos h1]
    have HE := Lib.hid (And.intro he (cN_not (by rw [he]; decide)))
    have d1 : decide (1048576 < (z : Int)) = true := decide_eq_true (by omega)
    clear he hz hlz h1
    go_enter Try.func28, Try.ntmps28
    go_wp2_with fail
    go_ret2
    exact ⟨(by rw [HE.out.1, HE.out.2] <;> rfl), Below.refl _ _⟩
  have d1 : decide (1048576 < (z : Int)) = false := decide_eq_false (by omega)
  by_cases h2 : z < 12
  · have he : cntE s.data.toList = 3 := by unfold cntE; rw [hlz, if_neg h1, if_pos h2]
    have HE := Lib.hid (And.intro he (cN_not (by rw [he]; decide)))
    have d2 : decide ((z : Int) < 12) = true := decide_eq_true (by omega)
    clear he hz hlz h1 h2
    go_enter Try.func28, Try.ntmps28
    go_wp2_with fail
    go_ret2
    exact ⟨(by rw [HE.out.1, HE.out.2] <;> rfl), Below.refl _ _⟩
  have d2 : decide ((z : Int) < 12) = false := decide_eq_false (by omega)
  have hu := fun W => u16_same s 4 W (by omega) (by omega)
  have hn16 : cntN s.data.toList < 65536 := bv_le _ 2 (piece_len_le _ _ _)
  have hr1 := fun W => to_run s 4 (by omega) W
  rw [← piece_zero] at hr1
  have hr2 := fun W => sub_run s 4 12 (by omega) (by omega) (by omega) W
  rw [show (4 : Int).toNat = 4 from rfl, show ((12 : Int) - 4).toNat = 8 from rfl] at hr2
  obtain ⟨D, hD⟩ : ∃ D : ByteArray, D = ⟨(piece s.data.toList 0 4).toArray⟩ := ⟨_, rfl⟩
  have hH := HdF.of (D := D) (l := s.data.toList) (by rw [hD])
  rw [← hD] at hr1
  obtain ⟨n, hn⟩ : ∃ n, n = cntN s.data.toList := ⟨_, rfl⟩
  have hu : ∀ W, Calls Try.prog 44 #[.string s, .int .i64 4] W fun e w' => e = .returned (.tuple #[.int .u16 (n : Int), .int .i64 0]) ∧ W = w' := by rw [hn]; exact hu
  have r1 : ∀ W, (Instr.slice 9 (.string s) none (some (.int .i64 4)) none).run Try.prog W = .ok (.string D) W := hr1
  have HU := Lib.hid hu
  rw [← hn] at hn16
  have ew : wrap64 (n : Int) = (n : Int) := by unfold wrap64; omega
  have ew2 : IntKind.i64.wrap (n : Int) = (n : Int) := i64_in _ (by omega)
  by_cases h3 : badH s.data.toList ∨ n = 0
  · have he : cntE s.data.toList = 4 := by unfold cntE; rw [hlz, if_neg h1, if_neg h2, if_pos (by rw [← hn]; exact h3)]
    have HE := Lib.hid (And.intro he (cN_not (by rw [he]; decide)))
    by_cases h0 : n = 0
    · have e0 : ((n : Int) == 0) = true := by simp; omega
      rcases hb1 : decide (piece s.data.toList 0 4 = [0, 1, 0, 0]) with _ | _ <;> rcases hb2 : decide (piece s.data.toList 0 4 = [116, 114, 117, 101]) with _ | _ <;> rw [hb1, hb2] at hH <;> obtain ⟨a1, a2, b1, b2⟩ := hH
      all_goals
        clear he hz hlz h1 h2 h3 h0 hr1 hr2 hD hu hn hn16 hb1 hb2
        go_enter Try.func28, Try.ntmps28
        go_wp2_with (go_at_call 44; (with_reducible refine (HU.out _).mono ?_); rintro e w' ⟨rfl, rfl⟩)
        go_ret2
        exact ⟨(by rw [HE.out.1, HE.out.2] <;> rfl), Below.refl _ _⟩
    · have hb : badH s.data.toList := h3.resolve_right h0
      rw [decide_eq_false hb.1, decide_eq_false hb.2] at hH
      obtain ⟨a1, a2, b1, b2⟩ := hH
      clear he hz hlz h1 h2 h3 h0 hr1 hr2 hD hu hn hn16 hb
      go_enter Try.func28, Try.ntmps28
      go_wp2_with (go_at_call 44; (with_reducible refine (HU.out _).mono ?_); rintro e w' ⟨rfl, rfl⟩)
      go_ret2
      exact ⟨(by rw [HE.out.1, HE.out.2] <;> rfl), Below.refl _ _⟩
  have h0 : n ≠ 0 := fun h => h3 (.inr h)
  have e0 : ((n : Int) == 0) = false := by simp; omega
  have hgood : (piece s.data.toList 0 4 = [0, 1, 0, 0]) ∨ (¬ piece s.data.toList 0 4 = [0, 1, 0, 0] ∧ piece s.data.toList 0 4 = [116, 114, 117, 101]) := by
    by_cases h7 : piece s.data.toList 0 4 = [0, 1, 0, 0]
    · exact .inl h7
    · by_cases h8 : piece s.data.toList 0 4 = [116, 114, 117, 101]
      · exact .inr ⟨h7, h8⟩
      · exact absurd (.inl ⟨h7, h8⟩) h3
  have hga : ∃ a b, HdF D a b ∧ (a = true ∨ (a = false ∧ b = true)) := by
    rcases hgood with h | ⟨h, h'⟩
    · rw [decide_eq_true h] at hH; exact ⟨true, _, hH, .inl rfl⟩
    · rw [decide_eq_false h, decide_eq_true h'] at hH; exact ⟨false, true, hH, .inr ⟨rfl, rfl⟩⟩
  obtain ⟨ba, bb, hH, hab⟩ := hga
  have HEg := Lib.hid (show cntE s.data.toList = if 64 < n then 6 else if piece s.data.toList 4 8 ≠ nums n then 4 else if z < 12 + 16 * n then 3 else 0 by
    unfold cntE; rw [hlz, if_neg h1, if_neg h2, if_neg (by rw [← hn]; exact h3), ← hn])
  have HN := Lib.hid hn
  obtain ⟨a1, a2, b1, b2⟩ := hH
  by_cases h6 : 64 < n
  · have he : cntE s.data.toList = 6 := by rw [HEg.out, if_pos h6]
    have HE := Lib.hid (And.intro he (cN_not (by rw [he]; decide)))
    have d6 : 64 < n := h6
    rcases hab with rfl | ⟨rfl, rfl⟩
    all_goals
      clear he hz hlz h1 h2 h3 h0 hr1 hr2 hD hu hn hn16 hgood
      go_enter Try.func28, Try.ntmps28
      go_wp2_with (go_at_call 44; (with_reducible refine (HU.out _).mono ?_); rintro e w' ⟨rfl, rfl⟩)
      go_ret2
      exact ⟨(by rw [HE.out.1, HE.out.2] <;> rfl), Below.refl _ _⟩
  have d6 : ¬ 64 < n := h6
  obtain ⟨E, hEE⟩ : ∃ D : ByteArray, D = ⟨(piece s.data.toList 4 8).toArray⟩ := ⟨_, rfl⟩
  rw [← hEE] at hr2
  have HNU := Lib.hid (fun W => numbers_any n W (by omega) (by omega))
  obtain ⟨M, hM⟩ : ∃ D : ByteArray, D = ⟨(nums n).toArray⟩ := ⟨_, rfl⟩
  rw [← hM] at HNU
  have heq := is_text E M (nums n) (by rw [hM])
  rw [show E.data.toList = piece s.data.toList 4 8 by rw [hEE]] at heq
  by_cases h5 : piece s.data.toList 4 8 = nums n
  · rw [decide_eq_true h5] at heq
    have w1 : IntKind.i64.wrap ((n : Int) * 16) = (n : Int) * 16 := i64_in _ (by omega)
    have w2 : IntKind.i64.wrap (12 + (n : Int) * 16) = 12 + (n : Int) * 16 := i64_in _ (by omega)
    by_cases h4 : z < 12 + 16 * n
    · have he : cntE s.data.toList = 3 := by rw [HEg.out, if_neg h6, if_neg (by simp [h5]), if_pos h4]
      have HE := Lib.hid (And.intro he (cN_not (by rw [he]; decide)))
      have d4 : decide ((z : Int) < 12 + (n : Int) * 16) = true := decide_eq_true (by omega)
      rcases hab with rfl | ⟨rfl, rfl⟩
      all_goals
        clear he hz hlz h1 h2 h3 h0 hr1 hD hu hn hgood hEE hM h5 h4 h6
        have B0 := Lib.hid (Below.refl w.heap.size w)
        go_enter Try.func28, Try.ntmps28
        go_upto_region 11 with (go_at_call 44; (with_reducible refine (HU.out _).mono ?_); rintro e w' ⟨rfl, rfl⟩)
        go_region_held3 (fun _ => True) (trivial) (first | (go_at_call 17; (with_reducible refine (HNU.out _).mono ?_); rintro e w1 ⟨rfl, hb⟩; have B1 := Lib.hid (B0.out.drew.trans hb); clear hb))
        all_goals
          go_wp2_with fail
          go_ret2
          exact ⟨(by rw [HE.out.1, HE.out.2] <;> rfl), B1.out⟩
    · have he : cntE s.data.toList = 0 := by rw [HEg.out, if_neg h6, if_neg (by simp [h5]), if_neg h4]
      have hn0 : cN s.data.toList = n := by unfold cN; rw [if_pos he, hn]
      have HE := Lib.hid (And.intro he hn0)
      have d4 : decide ((z : Int) < 12 + (n : Int) * 16) = false := decide_eq_false (by omega)
      rcases hab with rfl | ⟨rfl, rfl⟩
      all_goals
        clear he hn0 hz hlz h1 h2 h3 h0 hr1 hD hu hn hgood hEE hM h5 h4 h6
        have B0 := Lib.hid (Below.refl w.heap.size w)
        go_enter Try.func28, Try.ntmps28
        go_upto_region 11 with (go_at_call 44; (with_reducible refine (HU.out _).mono ?_); rintro e w' ⟨rfl, rfl⟩)
        go_region_held3 (fun _ => True) (trivial) (first | (go_at_call 17; (with_reducible refine (HNU.out _).mono ?_); rintro e w1 ⟨rfl, hb⟩; have B1 := Lib.hid (B0.out.drew.trans hb); clear hb))
        all_goals
          go_wp2_with fail
          go_ret2
          exact ⟨(by rw [HE.out.1, HE.out.2] <;> rfl), B1.out⟩
  · rw [decide_eq_false h5] at heq
    have he : cntE s.data.toList = 4 := by rw [HEg.out, if_neg h6, if_pos h5]
    have HE := Lib.hid (And.intro he (cN_not (by rw [he]; decide)))
    rcases hab with rfl | ⟨rfl, rfl⟩
    all_goals
      clear he hz hlz h1 h2 h3 h0 hr1 hD hu hn hgood hEE hM h5 h6
      have B0 := Lib.hid (Below.refl w.heap.size w)
      go_enter Try.func28, Try.ntmps28
      go_upto_region 11 with (go_at_call 44; (with_reducible refine (HU.out _).mono ?_); rintro e w' ⟨rfl, rfl⟩)
      go_region_held3 (fun _ => True) (trivial) (first | (go_at_call 17; (with_reducible refine (HNU.out _).mono ?_); rintro e w1 ⟨rfl, hb⟩; have B1 := Lib.hid (B0.out.drew.trans hb); clear hb))
      all_goals
        go_wp2_with fail
        go_ret2
        exact ⟨(by rw [HE.out.1, HE.out.2] <;> rfl), B1.out⟩
end Go.Proofs.Ytlidagofjkilgaa
