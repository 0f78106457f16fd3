/- Proved here: what Parse answers, in the document. Condition: a text of at most 10^6 - 10 bytes. -/
import Derived.Test.YtlidagofjkilgaaVc
namespace Go.Proofs.Ytlidagofjkilgaa
open Go.RowKit

theorem pe_cnt {l : List UInt8} {x : Int} (h : cntE l = x) (hx : x ≠ 0) : PE l = x := by unfold PE; rw [if_neg (by rw [h]; exact hx), h]
set_option maxHeartbeats 4000000 in
theorem rparse_head (s : ByteArray) (w : World) (hs : s.size ≤ 1000000) (h : s.size < 12 ∨ (12 ≤ s.size ∧ (badH s.data.toList ∨ cntN s.data.toList = 0 ∨ 64 < cntN s.data.toList))) : Calls Try.prog 13 #[.string s] w (PrE s.data.toList w) := by
  obtain ⟨z, hz⟩ : ∃ z, z = s.size := ⟨_, rfl⟩
  have hsz : s.size = z := hz.symm
  have hlz : s.data.toList.length = z := by rw [size_list, hz]
  rw [hsz] at hs h
  have d1 : decide (1048576 < (z : Int)) = false := decide_eq_false (by omega)
  have hB := Lib.hid (Below.refl w.heap.size w)
  rcases h with h2 | ⟨h2, h⟩
  · have he : cntE s.data.toList = 3 := by unfold cntE; rw [hlz, if_neg (by omega), if_pos h2]
    have HP := Lib.hid (fun w' (hb : Below w.heap.size w w') => prE_err (pe_cnt he (by decide)) (by decide) hb)
    have d2 : decide ((z : Int) < 12) = true := decide_eq_true (by omega)
    clear hz hlz h2 he
    go_enter Try.func13, Try.ntmps13
    go_wp2_with fail
    go_ret2
    exact HP.out _ (Below.refl _ _)
  have d2 : decide ((z : Int) < 12) = false := decide_eq_false (by omega)
  have hr1 := fun W => to_run s 4 (by omega) W
  rw [← piece_zero] at hr1
  obtain ⟨D, hD⟩ : ∃ D : ByteArray, D = ⟨(piece s.data.toList 0 4).toArray⟩ := ⟨_, rfl⟩
  have hH := HdF.of (D := D) (l := s.data.toList) (by rw [hD])
  rw [← hD] at hr1
  have r1 : ∀ W, (Instr.slice 9 (.string s) none (some (.int .i64 4)) none).run Try.prog W = .ok (.string D) W := hr1
  by_cases hb : badH s.data.toList
  · have he : cntE s.data.toList = 4 := by unfold cntE; rw [hlz, if_neg (by omega), if_neg (by omega), if_pos (.inl hb)]
    have HP := Lib.hid (fun w' (hb : Below w.heap.size w w') => prE_err (pe_cnt he (by decide)) (by decide) hb)
    rw [decide_eq_false hb.1, decide_eq_false hb.2] at hH
    obtain ⟨a1, a2, b1, b2⟩ := hH
    clear hz hlz h2 h he hr1 hD hb
    go_enter Try.func13, Try.ntmps13
    go_wp2_with fail
    go_ret2
    exact HP.out _ (Below.refl _ _)
  have hu := fun W => ru16_same s 4 W (by omega) (by omega)
  have hn16 : cntN s.data.toList < 65536 := bv_le _ 2 (piece_len_le _ _ _)
  obtain ⟨n, hn⟩ : ∃ n, n = cntN s.data.toList := ⟨_, rfl⟩
  have hu : ∀ W, Calls Try.prog 31 #[.string s, .int .i64 4] W fun e w' => e = .returned (.tuple #[.int .u16 (n : Int), .int .i64 0]) ∧ W = w' := by rw [hn]; exact hu
  have HU := Lib.hid hu
  rw [← hn] at hn16 h
  have ew : IntKind.i64.wrap (n : Int) = (n : Int) := i64_in _ (by omega)
  have hgood : (piece s.data.toList 0 4 = [0, 1, 0, 0]) ∨ (¬ piece s.data.toList 0 4 = [0, 1, 0, 0] ∧ piece s.data.toList 0 4 = [116, 114, 117, 101]) := by
    by_cases h7 : piece s.data.toList 0 4 = [0, 1, 0, 0]
    · exact .inl h7
    · by_cases h8 : piece s.data.toList 0 4 = [116, 114, 117, 101]
      · exact .inr ⟨h7, h8⟩
      · exact absurd ⟨h7, h8⟩ hb
  have hga : ∃ a b, HdF D a b ∧ (a = true ∨ (a = false ∧ b = true)) := by
    rcases hgood with h | ⟨h, h'⟩
    · rw [decide_eq_true h] at hH; exact ⟨true, _, hH, .inl rfl⟩
    · rw [decide_eq_false h, decide_eq_true h'] at hH; exact ⟨false, true, hH, .inr ⟨rfl, rfl⟩⟩
  obtain ⟨ba, bb, hH, hab⟩ := hga
  obtain ⟨a1, a2, b1, b2⟩ := hH
  have hnn := h.resolve_left hb
  by_cases h0 : n = 0
  · have he : cntE s.data.toList = 4 := by unfold cntE; rw [hlz, if_neg (by omega), if_neg (by omega), if_pos (.inr (by rw [← hn]; exact h0))]
    have HP := Lib.hid (fun w' (hb : Below w.heap.size w w') => prE_err (pe_cnt he (by decide)) (by decide) hb)
    have e0 : ((n : Int) == 0) = true := by simp; omega
    rcases hab with rfl | ⟨rfl, rfl⟩
    all_goals
      clear hz hlz h2 h he hr1 hD hb hu hn hgood hnn h0
      go_enter Try.func13, Try.ntmps13
      go_wp2_with (go_at_call 31; (with_reducible refine (HU.out _).mono ?_); rintro e w' ⟨rfl, rfl⟩)
      go_ret2
      exact HP.out _ (Below.refl _ _)
  · have h6 : 64 < n := by omega
    have he : cntE s.data.toList = 6 := by unfold cntE; rw [hlz, if_neg (by omega), if_neg (by omega), if_neg (by rw [← hn]; exact fun hh => hh.elim hb h0), if_pos (by rw [← hn]; exact h6)]
    have HP := Lib.hid (fun w' (hb : Below w.heap.size w w') => prE_err (pe_cnt he (by decide)) (by decide) hb)
    have e0 : ((n : Int) == 0) = false := by simp; omega
    rcases hab with rfl | ⟨rfl, rfl⟩
    all_goals
      clear hz hlz h2 h he hr1 hD hb hu hn hgood hnn h0
      go_enter Try.func13, Try.ntmps13
      go_wp2_with (go_at_call 31; (with_reducible refine (HU.out _).mono ?_); rintro e w' ⟨rfl, rfl⟩)
      go_ret2
      exact HP.out _ (Below.refl _ _)
end Go.Proofs.Ytlidagofjkilgaa
