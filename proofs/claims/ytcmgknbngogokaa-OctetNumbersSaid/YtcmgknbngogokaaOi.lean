/- Proved here: that the statements' first call, awake, answers true and leaves memory as it was; and what a reader that is none answers. No condition. -/
import Derived.Test.YtcmgknbngogokaaOh
namespace Go.Proofs.Ytcmgknbngogokaa
open Go.RowKit

def awS : ByteArray := ⟨#[255, 254, 7]⟩
theorem aw1 (W : World) : Calls Try.prog 6 #[.string ⟨#[1, 2]⟩, .int .i64 0] W fun e w' => e = .returned (.tuple #[.int .u16 258, .int .i64 0]) ∧ W = w' := u16_any ⟨#[1, 2]⟩ 0 W (by decide) (by decide)
theorem aw2 (W : World) : Calls Try.prog 6 #[.string ⟨#[1, 2]⟩, .int .i64 1] W fun e w' => e = .returned (.tuple #[.int .u16 0, .int .i64 3]) ∧ W = w' := u16_any ⟨#[1, 2]⟩ 1 W (by decide) (by decide)
theorem aw3 (W : World) : Calls Try.prog 15 #[.string ⟨#[255, 254, 7]⟩] W fun e w' => e = .returned (.pointer (some ⟨W.heap.size, 0, none⟩)) ∧ Below W.heap.size W w' ∧ Rd 66 w' W.heap.size awS 0 false ∧ w'.heap.size = W.heap.size + 1 := new_any _ W
theorem aw4 (W : World) : Calls Try.prog 13 #[.int .u16 258] W fun e w' => e = .returned (.string ⟨#[1, 2]⟩) ∧ Below W.heap.size W w' := p16_any 258 W (by decide)
theorem aw5 (g : Nat) (W : World) (h : Rd 66 W g awS 0 false) : Calls Try.prog 19 #[.pointer (some ⟨g, 0, none⟩)] W fun e w' => e = .returned (.int .i16 (-2)) ∧ Rd 66 w' g awS 2 false ∧ Onl g W w' :=
  (i16_any g awS 0 false W h (by decide) (by decide)).mono fun _ _ ⟨h1, h2, h3⟩ => ⟨h1, h2, h3⟩
theorem aw6 (g : Nat) (W : World) (h : Rd 66 W g awS 2 false) : Calls Try.prog 16 #[.pointer (some ⟨g, 0, none⟩)] W fun e w' => e = .returned (.int .u8 7) ∧ Rd 66 w' g awS 3 false ∧ Onl g W w' :=
  (ru8_any g awS 2 false W h (by decide) (by decide)).mono fun _ _ ⟨h1, h2, h3⟩ => ⟨h1, h2, h3⟩
theorem aw7 (g : Nat) (W : World) (h : Rd 66 W g awS 3 false) : Calls Try.prog 16 #[.pointer (some ⟨g, 0, none⟩)] W fun e w' => e = .returned (.int .u8 0) ∧ Rd 66 w' g awS 3 true ∧ Onl g W w' :=
  (ru8_any g awS 3 false W h (by decide) (by decide)).mono fun _ _ ⟨h1, h2, h3⟩ => ⟨h1, h2, h3⟩
theorem aw8 (g : Nat) (W : World) (h : Rd 66 W g awS 3 true) : Calls Try.prog 26 #[.pointer (some ⟨g, 0, none⟩)] W fun e w' => e = .returned (.int .i64 3) ∧ W = w' := err_any g awS 3 true W h
theorem aw9 (g : Nat) (W : World) (h : Rd 66 W g awS 3 true) : Calls Try.prog 24 #[.pointer (some ⟨g, 0, none⟩)] W fun e w' => e = .returned (.int .i64 3) ∧ W = w' := at_any g awS 3 true W h
set_option maxHeartbeats 2000000 in
theorem awake_any (w : World) : Calls Try.prog 5 #[] w fun e w' => e = .returned (.bool true) ∧ Below w.heap.size w w' := by
  obtain ⟨g, hg⟩ : ∃ g, g = w.heap.size := ⟨_, rfl⟩
  have H3 := Lib.hid (aw3 w)
  rw [← hg] at H3 ⊢
  clear hg
  go_enter Try.func5, Try.ntmps5
  go_wp2_with (first
    | (go_at_call 6; (with_reducible refine (aw1 _).mono ?_); rintro e w1 ⟨rfl, rfl⟩)
    | (go_at_call 6; (with_reducible refine (aw2 _).mono ?_); rintro e w1 ⟨rfl, rfl⟩)
    | (go_at_call 15; (with_reducible refine H3.out.mono ?_); rintro e w1 ⟨rfl, hb, hr, hz⟩; have B1 := Lib.hid hb; have R1 := Lib.hid hr; clear hb hr hz)
    | (go_at_call 13; (with_reducible refine (aw4 _).mono ?_); rintro e w2 ⟨rfl, hb⟩; have R2 := Lib.hid (R1.out.bel hb); have B2 := Lib.hid (B1.out.trans (hb.mono (Nat.le_of_lt R1.out.lt))); clear hb)
    | (go_at_call 19; (with_reducible refine (aw5 _ _ R2.out).mono ?_); rintro e w3 ⟨rfl, hr, ho⟩; have R3 := Lib.hid hr; have B3 := Lib.hid (B2.out.trans (ho.below (Nat.le_refl _) (Nat.le_of_lt R2.out.lt))); clear hr ho)
    | (go_at_call 16; (with_reducible refine (aw6 _ _ R3.out).mono ?_); rintro e w4 ⟨rfl, hr, ho⟩; have R4 := Lib.hid hr; have B4 := Lib.hid (B3.out.trans (ho.below (Nat.le_refl _) (Nat.le_of_lt R3.out.lt))); clear hr ho)
    | (go_at_call 16; (with_reducible refine (aw7 _ _ R4.out).mono ?_); rintro e w5 ⟨rfl, hr, ho⟩; have R5 := Lib.hid hr; have B5 := Lib.hid (B4.out.trans (ho.below (Nat.le_refl _) (Nat.le_of_lt R4.out.lt))); clear hr ho)
    | (go_at_call 26; (with_reducible refine (aw8 _ _ R5.out).mono ?_); rintro e w1 ⟨rfl, rfl⟩)
    | (go_at_call 24; (with_reducible refine (aw9 _ _ R5.out).mono ?_); rintro e w1 ⟨rfl, rfl⟩))
  go_ret
  exact ⟨rfl, B5.out⟩
theorem nerr_any (w : World) : Calls Try.prog 26 #[.pointer none] w fun e w' => e = .returned (.int .i64 3) ∧ w = w' := by
  go_enter Try.func26, Try.ntmps26
  go_wp2_with fail
  go_ret
  exact ⟨rfl, rfl⟩
theorem nat_any (w : World) : Calls Try.prog 24 #[.pointer none] w fun e w' => e = .returned (.int .i64 0) ∧ w = w' := by
  go_enter Try.func24, Try.ntmps24
  go_wp2_with fail
  go_ret
  exact ⟨rfl, rfl⟩
theorem nleft_any (w : World) : Calls Try.prog 25 #[.pointer none] w fun e w' => e = .returned (.int .i64 0) ∧ w = w' := by
  go_enter Try.func25, Try.ntmps25
  go_wp2_with fail
  go_ret
  exact ⟨rfl, rfl⟩
theorem npass_any (n : Int) (w : World) : Calls Try.prog 32 #[.pointer none, .int .i64 n] w fun e w' => e = .returned (.bool false) ∧ w = w' := by
  go_enter Try.func32, Try.ntmps32
  go_wp2_with (go_at_call 26; (with_reducible refine (nerr_any _).mono ?_); rintro e w' ⟨rfl, rfl⟩)
  go_ret
  exact ⟨rfl, rfl⟩
theorem nnext_any (n : Int) (w : World) : Calls Try.prog 31 #[.pointer none, .int .i64 n] w fun e w' => e = .returned (.int .u32 0) ∧ w = w' := by
  go_enter Try.func31, Try.ntmps31
  go_wp2_with (go_at_call 32; (with_reducible refine (npass_any _ _).mono ?_); rintro e w' ⟨rfl, rfl⟩)
  go_ret
  exact ⟨rfl, rfl⟩
theorem nskip_any (n : Int) (w : World) : Calls Try.prog 22 #[.pointer none, .int .i64 n] w fun e w' => e = .returned (.tuple #[]) ∧ w = w' := by
  go_enter Try.func22, Try.ntmps22
  go_wp2_with (go_at_call 32; (with_reducible refine (npass_any _ _).mono ?_); rintro e w' ⟨rfl, rfl⟩)
  exact bodyPost_end (results_none rfl _ _ _) rfl ⟨rfl, rfl⟩
theorem nu8_any (w : World) : Calls Try.prog 16 #[.pointer none] w fun e w' => e = .returned (.int .u8 0) ∧ w = w' := by
  go_enter Try.func16, Try.ntmps16
  go_wp2_with (go_at_call 31; (with_reducible refine (nnext_any _ _).mono ?_); rintro e w' ⟨rfl, rfl⟩)
  go_ret
  exact ⟨rfl, rfl⟩
theorem nu16_any (w : World) : Calls Try.prog 18 #[.pointer none] w fun e w' => e = .returned (.int .u16 0) ∧ w = w' := by
  go_enter Try.func18, Try.ntmps18
  go_wp2_with (go_at_call 31; (with_reducible refine (nnext_any _ _).mono ?_); rintro e w' ⟨rfl, rfl⟩)
  go_ret
  exact ⟨rfl, rfl⟩
theorem ni16_any (w : World) : Calls Try.prog 19 #[.pointer none] w fun e w' => e = .returned (.int .i16 0) ∧ w = w' := by
  go_enter Try.func19, Try.ntmps19
  go_wp2_with (go_at_call 31; (with_reducible refine (nnext_any _ _).mono ?_); rintro e w' ⟨rfl, rfl⟩)
  go_ret
  exact ⟨rfl, rfl⟩
theorem nu32_any (w : World) : Calls Try.prog 21 #[.pointer none] w fun e w' => e = .returned (.int .u32 0) ∧ w = w' := by
  go_enter Try.func21, Try.ntmps21
  go_wp2_with (go_at_call 31; (with_reducible refine (nnext_any _ _).mono ?_); rintro e w' ⟨rfl, rfl⟩)
  go_ret
  exact ⟨rfl, rfl⟩
end Go.Proofs.Ytcmgknbngogokaa
