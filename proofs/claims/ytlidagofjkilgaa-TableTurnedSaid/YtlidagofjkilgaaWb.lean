/- Proved here: that the statements' first call, awake, answers true. No condition. -/
import Derived.Test.YtlidagofjkilgaaWa
namespace Go.Proofs.Ytlidagofjkilgaa
open Go.RowKit

def awL : List (List UInt8 × List UInt8) := [([97, 98, 99, 100], [120, 121, 122])]
theorem awL_E : mkE awL = 0 := by decide +kernel
theorem awL_S : mkS awL = mkF awL := by unfold mkS; rw [if_pos awL_E]
theorem awL_len : (mkF awL).length = 32 := by decide +kernel
theorem awL_tl (w : World) : Tl (w.alloc (.cells #[.string ⟨#[97, 98, 99, 100]⟩, .string ⟨#[120, 121, 122]⟩] 25)) (some ⟨w.heap.size, 0, none⟩) 1 awL := by
  refine ⟨rfl, fun i hi => ?_⟩
  obtain rfl : i = 0 := by omega
  have h := cells_new w [.string ⟨#[97, 98, 99, 100]⟩, .string ⟨#[120, 121, 122]⟩] 25
  exact ⟨_, rfl, by simp, h 0 _ rfl, h 1 _ rfl⟩
theorem awL_small : ∀ i, i < 1 → (tg awL i).length ≤ 1000000 ∧ (dt awL i).length ≤ 900000 := by decide
theorem aw_make (w : World) : Calls Try.prog 7 #[.slice (some ⟨w.heap.size, 0, none⟩) 1 1] (w.alloc (.cells #[.string ⟨#[97, 98, 99, 100]⟩, .string ⟨#[120, 121, 122]⟩] 25)) fun e w' => e = .returned (.tuple #[.string ⟨(mkF awL).toArray⟩, .int .i64 0]) ∧ Below w.heap.size w w' := by
  have h := make_any _ 1 1 awL _ (awL_tl w) (by decide) (fun i hi => (awL_small i hi).1) (fun i hi => (awL_small i hi).2)
  rw [awL_S, awL_E] at h
  exact h.mono fun e w' ⟨h1, h2⟩ => ⟨h1, ((Below.refl w.heap.size w).alloc (Nat.le_refl _) _).trans (h2.mono (by simp))⟩
theorem aw_parse (w : World) : Calls Try.prog 11 #[.string ⟨(mkF awL).toArray⟩] w fun e w' => ∃ A c, e = .returned (.tuple #[.slice A 1 c, .int .i64 0]) ∧ Tl w' A 1 awL ∧ Below w.heap.size w w' := by
  have h := parse_any ⟨(mkF awL).toArray⟩ w (by show (mkF awL).toArray.size ≤ _; rw [List.size_toArray, awL_len]; decide)
  refine h.mono fun e w' ⟨A, n, c, h1, h2, h3⟩ => ?_
  have e1 : PE (mkF awL) = 0 ∧ PT (mkF awL) = awL := back_PE awL_E
  have h1 : e = .returned (.tuple #[.slice A n c, .int .i64 (PE (mkF awL))]) := h1
  have h2 : Tl w' A n (PT (mkF awL)) := h2
  rw [e1.1] at h1
  rw [e1.2] at h2
  have hn : n = 1 := h2.len.symm
  subst hn
  exact ⟨A, c, h1, h2, h3⟩
theorem aw_find (A : Option Addr) (c : Nat) (w : World) (h : Tl w A 1 awL) : Calls Try.prog 9 #[.slice A 1 c, .string ⟨#[97, 98, 99, 100]⟩] w fun e w' => e = .returned (.tuple #[.string ⟨#[120, 121, 122]⟩, .bool true]) ∧ Below w.heap.size w w' :=
  find_any A 1 c awL [97, 98, 99, 100] w h (by decide) (fun i hi => Nat.le_trans (awL_small i hi).2 (by decide))
theorem aw_none (w : World) : Calls Try.prog 11 #[.string ⟨#[]⟩] w fun e w' => ∃ A n c, e = .returned (.tuple #[.slice A n c, .int .i64 3]) ∧ Below w.heap.size w w' :=
  (parse_any ⟨#[]⟩ w (by decide)).mono fun e w' ⟨A, n, c, h1, _, h3⟩ => ⟨A, n, c, h1, h3⟩
set_option maxHeartbeats 2000000 in
theorem awake_any (w : World) : Calls Try.prog 6 #[] w fun e w' => e = .returned (.bool true) ∧ Below w.heap.size w w' := by
  have HM := Lib.hid (fun W => aw_make W)
  have HP := Lib.hid (fun W => aw_parse W)
  obtain ⟨S, hS⟩ : ∃ S : ByteArray, S = ⟨(mkF awL).toArray⟩ := ⟨_, rfl⟩
  have hz : S.size = 32 := by rw [hS]; show (mkF awL).toArray.size = 32; rw [List.size_toArray, awL_len]
  rw [← hS] at HM HP
  have HN := Lib.hid (fun W => aw_none W)
  have B0 := Lib.hid (Below.refl w.heap.size w)
  clear hS
  go_enter Try.func6, Try.ntmps6
  go_wp2_with (first
    | (go_at_call 7; (with_reducible refine (HM.out _).mono ?_); rintro e w1 ⟨rfl, hb⟩; have B1 := Lib.hid hb; clear hb)
    | (go_at_call 11; (with_reducible refine (HP.out _).mono ?_); rintro e w2 ⟨A, c, rfl, ht, hb⟩; have T2 := Lib.hid ht; have B2 := Lib.hid (B1.out.trans (hb.mono B1.out.size)); clear ht hb)
    | (go_at_call 9; (with_reducible refine (aw_find _ _ _ T2.out).mono ?_); rintro e w3 ⟨rfl, hb⟩; have B3 := Lib.hid (B2.out.trans (hb.mono B2.out.size)); clear hb)
    | (go_at_call 11; (with_reducible refine (HN.out _).mono ?_); rintro e w4 ⟨A4, n4, c4, rfl, hb⟩; have B4 := Lib.hid (B3.out.trans (hb.mono B3.out.size)); clear hb))
  go_ret
  exact ⟨rfl, B4.out⟩
end Go.Proofs.Ytlidagofjkilgaa
