/- Proved here: a part's bits and bytes, and the bytes ahead of the parts, in the program. No condition. -/
import Derived.Test.YtbmeamhpmahlgaaUb
import Derived.Test.YtbmeamhpmahlgaaSr
namespace Go.Proofs.Ytbmeamhpmahlgaa
open Go.RowKit

theorem wrap_u16i (n : Int) : IntKind.u16.wrap n = (((n % 65536).toNat : Nat) : Int) := by rw [IntKind.wrap_u16]; omega
theorem wrap_u8i (n : Int) : IntKind.u8.wrap n = (((n % 256).toNat : Nat) : Int) := by rw [IntKind.wrap_u8]; omega
set_option maxHeartbeats 1000000 in
theorem sh_any (n : Int) (w : World) : Calls Try.prog 36 #[.int .i64 n] w fun e w' => e = .returned (.string ⟨(u2 n).toArray⟩) ∧ Below w.heap.size w w' := by
  have e1 := wrap_u16i n
  obtain ⟨m, hm⟩ : ∃ m, m = (n % 65536).toNat := ⟨_, rfl⟩
  have C := Lib.hid (fun W => p16_any m W (by omega))
  unfold u2
  rw [← hm] at e1 ⊢
  clear hm
  go_enter Try.func36, Try.ntmps36
  go_wp2_with (go_at_call 41; (with_reducible refine (C.out _).mono ?_); rintro e w1 ⟨rfl, hb⟩; have HB := Lib.hid hb; clear hb)
  go_ret
  exact ⟨rfl, HB.out⟩
/-- While a part's bytes are told: its box. -/
structure MS (w W : World) (b : Nat) (p : Prt) : Prop where
  bel : Below w.heap.size w W
  box : Bp W b p
section
variable {w W W' : World} {b : Nat} {p : Prt}
theorem MS.next (s : MS w W b p) (hb : Below W.heap.size W W') : MS w W' b p := ⟨s.bel.trans (hb.mono s.bel.size), s.box.bel hb⟩
theorem MS.drew (s : MS w W b p) : MS w W.drew b p := ⟨below_drewN s.bel 1, s.box⟩
theorem MS.cells (s : MS w W b p) : W.cell? ⟨b, 0, none⟩ = some (.int .i64 p.1) ∧ W.cell? ⟨b, 1, none⟩ = some (.int .i64 p.2.1) ∧ W.cell? ⟨b, 2, none⟩ = some (.int .i64 p.2.2.1) ∧ W.cell? ⟨b, 3, none⟩ = some (.int .i64 p.2.2.2.1) ∧ W.cell? ⟨b, 4, none⟩ = some (.int .i64 p.2.2.2.2.1) ∧ W.cell? ⟨b, 5, none⟩ = some (.int .i64 p.2.2.2.2.2.1) ∧ W.cell? ⟨b, 6, none⟩ = some (.int .i64 p.2.2.2.2.2.2) := s.box.cells
theorem MS.two (s : MS w W b p) : W.cell? ⟨b, 1, none⟩ = some (.int .i64 p.2.1) ∧ W.cell? ⟨b, 2, none⟩ = some (.int .i64 p.2.2.1) := ⟨s.cells.2.1, s.cells.2.2.1⟩
theorem MS.ad (s : MS w W b p) : W.cell? ⟨b, 3, none⟩ = some (.int .i64 p.2.2.2.1) ∧ W.cell? ⟨b, 6, none⟩ = some (.int .i64 p.2.2.2.2.2.2) := ⟨s.cells.2.2.2.1, s.cells.2.2.2.2.2.2⟩
theorem MS.four (s : MS w W b p) : W.cell? ⟨b, 3, none⟩ = some (.int .i64 p.2.2.2.1) ∧ W.cell? ⟨b, 4, none⟩ = some (.int .i64 p.2.2.2.2.1) ∧ W.cell? ⟨b, 5, none⟩ = some (.int .i64 p.2.2.2.2.2.1) ∧ W.cell? ⟨b, 6, none⟩ = some (.int .i64 p.2.2.2.2.2.2) := s.cells.2.2.2
theorem MS.new (w : World) (a b c d e f g : Int) : MS w (w.alloc (.cells #[.int .i64 a, .int .i64 b, .int .i64 c, .int .i64 d, .int .i64 e, .int .i64 f, .int .i64 g] 38)) w.heap.size (a, b, c, d, e, f, g) := ⟨(Below.refl _ _).alloc (Nat.le_refl _) _, Bp.new w a b c d e f g⟩
end
set_option maxHeartbeats 4000000 in
set_option maxRecDepth 100000 in
theorem moveBit_any (g x y a b c d : Int) (w : World) : Calls Try.prog 38 #[.agg #[.int .i64 g, .int .i64 x, .int .i64 y, .int .i64 a, .int .i64 b, .int .i64 c, .int .i64 d]] w fun e w' => e = .returned (.int .u16 (mvB (g, x, y, a, b, c, d) : Int)) ∧ Below w.heap.size w w' := by
  have S := Lib.hid (MS.new w g x y a b c d)
  have CX := Lib.hid (fun W => short_any x W)
  have CY := Lib.hid (fun W => short_any y W)
  by_cases k1 : tin x
  · rw [decide_eq_true k1] at CX
    by_cases k2 : tin y
    · rw [decide_eq_true k2] at CY
      rw [show mvB (g, x, y, a, b, c, d) = 0 from by unfold mvB; rw [if_pos ⟨k1, k2⟩]]
      clear k1 k2
      go_enter Try.func38, Try.ntmps38
      go_wp2_with (first
        | (go_at_call 58; (with_reducible refine (CX.out _).mono ?_); rintro e w' ⟨rfl, rfl⟩)
        | (go_at_call 58; (with_reducible refine (CY.out _).mono ?_); rintro e w' ⟨rfl, rfl⟩))
      go_ret
      exact ⟨rfl, S.out.bel⟩
    · rw [decide_eq_false k2] at CY
      rw [show mvB (g, x, y, a, b, c, d) = 1 from by unfold mvB; rw [if_neg (fun h => k2 h.2)]]
      clear k1 k2
      go_enter Try.func38, Try.ntmps38
      go_wp2_with (first
        | (go_at_call 58; (with_reducible refine (CX.out _).mono ?_); rintro e w' ⟨rfl, rfl⟩)
        | (go_at_call 58; (with_reducible refine (CY.out _).mono ?_); rintro e w' ⟨rfl, rfl⟩))
      go_ret
      exact ⟨rfl, S.out.bel⟩
  · rw [decide_eq_false k1] at CX
    rw [show mvB (g, x, y, a, b, c, d) = 1 from by unfold mvB; rw [if_neg (fun h => k1 h.1)]]
    clear k1
    go_enter Try.func38, Try.ntmps38
    go_wp2_with (first
      | (go_at_call 58; (with_reducible refine (CX.out _).mono ?_); rintro e w' ⟨rfl, rfl⟩)
      | (go_at_call 58; (with_reducible refine (CY.out _).mono ?_); rintro e w' ⟨rfl, rfl⟩))
    go_ret
    exact ⟨rfl, S.out.bel⟩
set_option maxHeartbeats 4000000 in
set_option maxRecDepth 100000 in
theorem numbersBit_any (g x y a b c d : Int) (w : World) : Calls Try.prog 39 #[.agg #[.int .i64 g, .int .i64 x, .int .i64 y, .int .i64 a, .int .i64 b, .int .i64 c, .int .i64 d]] w fun e w' => e = .returned (.int .u16 (nuB (g, x, y, a, b, c, d) : Int)) ∧ Below w.heap.size w w' := by
  by_cases k1 : b = 0
  rotate_left
  · have e1 : (b != 0) = true := by simp [k1]
    rw [show nuB (g, x, y, a, b, c, d) = 128 from by unfold nuB; rw [if_pos (.inl k1)]]
    have S := Lib.hid (MS.new w g x y a b c d)
    clear k1
    go_enter Try.func39, Try.ntmps39
    go_wp2_with fail
    go_ret
    exact ⟨rfl, S.out.bel⟩
  subst k1
  by_cases k2 : c = 0
  rotate_left
  · have e2 : (c != 0) = true := by simp [k2]
    rw [show nuB (g, x, y, a, 0, c, d) = 128 from by unfold nuB; rw [if_pos (.inr k2)]]
    have S := Lib.hid (MS.new w g x y a 0 c d)
    clear k2
    go_enter Try.func39, Try.ntmps39
    go_wp2_with fail
    go_ret
    exact ⟨rfl, S.out.bel⟩
  subst k2
  by_cases k3 : a = d
  rotate_left
  · have e3 : (a != d) = true := by simp [k3]
    rw [show nuB (g, x, y, a, 0, 0, d) = 64 from by unfold nuB; rw [if_neg (by simp), if_pos k3]]
    have S := Lib.hid (MS.new w g x y a 0 0 d)
    clear k3
    go_enter Try.func39, Try.ntmps39
    go_wp2_with fail
    go_ret
    exact ⟨rfl, S.out.bel⟩
  subst k3
  by_cases k4 : a = 16384
  rotate_left
  · have e4 : (a != 16384) = true := by simp [k4]
    rw [show nuB (g, x, y, a, 0, 0, a) = 8 from by unfold nuB; rw [if_neg (by simp), if_neg (by simp), if_pos k4]]
    have S := Lib.hid (MS.new w g x y a 0 0 a)
    clear k4
    go_enter Try.func39, Try.ntmps39
    go_wp2_with fail
    go_ret
    exact ⟨rfl, S.out.bel⟩
  subst k4
  rw [show nuB (g, x, y, 16384, 0, 0, 16384) = 0 from by unfold nuB; rw [if_neg (by simp), if_neg (by simp), if_neg (by simp)]]
  have S := Lib.hid (MS.new w g x y 16384 0 0 16384)
  go_enter Try.func39, Try.ntmps39
  go_wp2_with fail
  go_ret
  exact ⟨rfl, S.out.bel⟩
set_option maxHeartbeats 4000000 in
set_option maxRecDepth 100000 in
theorem tellMove_any (g x y a b c d : Int) (w : World) : Calls Try.prog 42 #[.agg #[.int .i64 g, .int .i64 x, .int .i64 y, .int .i64 a, .int .i64 b, .int .i64 c, .int .i64 d]] w fun e w' => e = .returned (.string ⟨(mvE (g, x, y, a, b, c, d)).toArray⟩) ∧ Below w.heap.size w w' := by
  have S := Lib.hid (MS.new w g x y a b c d)
  have CB := Lib.hid (fun W => moveBit_any g x y a b c d W)
  by_cases k : tin x ∧ tin y
  · have e1 : mvB (g, x, y, a, b, c, d) = 0 := by unfold mvB; rw [if_pos k]
    have e2 : mvE (g, x, y, a, b, c, d) = u1 x ++ u1 y := by unfold mvE; rw [if_pos k]
    rw [e1] at CB
    rw [e2]
    have CB : Hid (∀ W, Calls Try.prog 38 #[.agg #[.int .i64 g, .int .i64 x, .int .i64 y, .int .i64 a, .int .i64 b, .int .i64 c, .int .i64 d]] W fun e w' => e = .returned (.int .u16 0) ∧ Below W.heap.size W w') := CB
    have z1 := wrap_u8i x
    have z2 := wrap_u8i y
    have e3 : u1 x ++ u1 y = [UInt8.ofNat (x % 256).toNat, UInt8.ofNat (y % 256).toNat] := by
      unfold u1
      simp only [byt]
      rw [Nat.mod_eq_of_lt (by omega : (x % 256).toNat < 256), Nat.mod_eq_of_lt (by omega : (y % 256).toNat < 256)]
      rfl
    rw [e3]
    have l1 : (x % 256).toNat < 256 := by omega
    have l2 : (y % 256).toNat < 256 := by omega
    obtain ⟨p, hp⟩ : ∃ p, p = (x % 256).toNat := ⟨_, rfl⟩
    obtain ⟨q, hq⟩ : ∃ q, q = (y % 256).toNat := ⟨_, rfl⟩
    rw [← hp] at z1 l1 ⊢
    rw [← hq] at z2 l2 ⊢
    obtain ⟨D, hD⟩ : ∃ D : ByteArray, D = ⟨([UInt8.ofNat p, UInt8.ofNat q]).toArray⟩ := ⟨_, rfl⟩
    have HC := Lib.hid (show ∀ W, (convert 68 9 (.slice (some ⟨World.heap W |>.size, 0, none⟩) 2 2)).run Try.prog (W.alloc (.cells #[.int .u8 (p : Int), .int .u8 (q : Int)] 5)) = .ok (.string D) (W.alloc (.cells #[.int .u8 (p : Int), .int .u8 (q : Int)] 5)) from fun W => by
      rw [hD]; exact conv_new W [UInt8.ofNat p, UInt8.ofNat q] _ (two_u8 p q l1 l2) _ rfl)
    rw [← hD]
    clear k e1 e2 e3 hp hq hD l1 l2
    go_enter Try.func42, Try.ntmps42
    go_wp2_with (go_at_call 38; (with_reducible refine (CB.out _).mono ?_); rintro e w1 ⟨rfl, hb⟩; have H := Lib.hid (S.out.next hb); obtain ⟨c1, c2⟩ := H.out.two; have hc := HC.out w1; clear hb)
    go_ret
    exact ⟨rfl, H.out.bel.alloc H.out.bel.size _⟩
  · have e1 : mvB (g, x, y, a, b, c, d) = 1 := by unfold mvB; rw [if_neg k]
    have e2 : mvE (g, x, y, a, b, c, d) = u2 x ++ u2 y := by unfold mvE; rw [if_neg k]
    rw [e1] at CB
    rw [e2]
    have CB : Hid (∀ W, Calls Try.prog 38 #[.agg #[.int .i64 g, .int .i64 x, .int .i64 y, .int .i64 a, .int .i64 b, .int .i64 c, .int .i64 d]] W fun e w' => e = .returned (.int .u16 1) ∧ Below W.heap.size W w') := CB
    obtain ⟨D0, hD0⟩ : ∃ D : ByteArray, D = ⟨(u2 x).toArray⟩ := ⟨_, rfl⟩
    have C0 := Lib.hid (show ∀ W, Calls Try.prog 36 #[.int .i64 x] W fun e w' => e = .returned (.string D0) ∧ Below W.heap.size W w' from fun W => by rw [hD0]; exact sh_any x W)
    have s0 : D0.size = 2 := by rw [hD0]; exact u2_len x
    obtain ⟨D1, hD1⟩ : ∃ D : ByteArray, D = ⟨(u2 y).toArray⟩ := ⟨_, rfl⟩
    have C1 := Lib.hid (show ∀ W, Calls Try.prog 36 #[.int .i64 y] W fun e w' => e = .returned (.string D1) ∧ Below W.heap.size W w' from fun W => by rw [hD1]; exact sh_any y W)
    have s1 : D1.size = 2 := by rw [hD1]; exact u2_len y
    have y1 : ¬ 9223372036854775807 < D0.size + D1.size := by omega
    have HR := Lib.hid (show D0 ++ D1 = (⟨(u2 x ++ u2 y).toArray⟩ : ByteArray) from by rw [hD0, hD1, app_txt])
    clear hD0 hD1 s0 s1
    clear k e1 e2
    go_enter Try.func42, Try.ntmps42
    go_upto_region 2 with (go_at_call 38; (with_reducible refine (CB.out _).mono ?_); rintro e w1 ⟨rfl, hb⟩; have H := Lib.hid (S.out.next hb); obtain ⟨c1, c2⟩ := H.out.two; clear hb)
    generalize w.heap.size = bb at H c1 c2 ⊢
    go_region_held3 (fun w' => w'.cell? ⟨bb, 1, none⟩ = some (.int .i64 x) ∧ w'.cell? ⟨bb, 2, none⟩ = some (.int .i64 y))
      (first | with_reducible exact H.out.two | go_keep)
      (first
        | (go_at_call 36; (with_reducible refine (C0.out _).mono ?_); rintro e wx ⟨rfl, hb⟩; (first | have H := Lib.hid (H.out.next hb) | have H := Lib.hid (H.out.drew.next hb)); clear hb)
        | (go_at_call 36; (with_reducible refine (C1.out _).mono ?_); rintro e wx ⟨rfl, hb⟩; (first | have H := Lib.hid (H.out.next hb) | have H := Lib.hid (H.out.drew.next hb)); clear hb))
    go_wp2_with fail
    go_ret
    exact ⟨by rw [← HR.out]; rfl, H.out.bel⟩
set_option maxHeartbeats 4000000 in
set_option maxRecDepth 100000 in
theorem tellNumbers_any (g x y a b c d : Int) (w : World) : Calls Try.prog 43 #[.agg #[.int .i64 g, .int .i64 x, .int .i64 y, .int .i64 a, .int .i64 b, .int .i64 c, .int .i64 d]] w fun e w' => e = .returned (.string ⟨(nuE (g, x, y, a, b, c, d)).toArray⟩) ∧ Below w.heap.size w w' := by
  have S := Lib.hid (MS.new w g x y a b c d)
  have CB := Lib.hid (fun W => numbersBit_any g x y a b c d W)
  by_cases k1 : b ≠ 0 ∨ c ≠ 0
  · have e1 : nuB (g, x, y, a, b, c, d) = 128 := by unfold nuB; rw [if_pos k1]
    have e2 : nuE (g, x, y, a, b, c, d) = u2 a ++ u2 b ++ u2 c ++ u2 d := by unfold nuE; rw [if_pos k1]
    rw [e1] at CB
    rw [e2]
    have CB : Hid (∀ W, Calls Try.prog 39 #[.agg #[.int .i64 g, .int .i64 x, .int .i64 y, .int .i64 a, .int .i64 b, .int .i64 c, .int .i64 d]] W fun e w' => e = .returned (.int .u16 128) ∧ Below W.heap.size W w') := CB
    obtain ⟨D0, hD0⟩ : ∃ D : ByteArray, D = ⟨(u2 a).toArray⟩ := ⟨_, rfl⟩
    have C0 := Lib.hid (show ∀ W, Calls Try.prog 36 #[.int .i64 a] W fun e w' => e = .returned (.string D0) ∧ Below W.heap.size W w' from fun W => by rw [hD0]; exact sh_any a W)
    have s0 : D0.size = 2 := by rw [hD0]; exact u2_len a
    obtain ⟨D1, hD1⟩ : ∃ D : ByteArray, D = ⟨(u2 b).toArray⟩ := ⟨_, rfl⟩
    have C1 := Lib.hid (show ∀ W, Calls Try.prog 36 #[.int .i64 b] W fun e w' => e = .returned (.string D1) ∧ Below W.heap.size W w' from fun W => by rw [hD1]; exact sh_any b W)
    have s1 : D1.size = 2 := by rw [hD1]; exact u2_len b
    obtain ⟨D2, hD2⟩ : ∃ D : ByteArray, D = ⟨(u2 c).toArray⟩ := ⟨_, rfl⟩
    have C2 := Lib.hid (show ∀ W, Calls Try.prog 36 #[.int .i64 c] W fun e w' => e = .returned (.string D2) ∧ Below W.heap.size W w' from fun W => by rw [hD2]; exact sh_any c W)
    have s2 : D2.size = 2 := by rw [hD2]; exact u2_len c
    obtain ⟨D3, hD3⟩ : ∃ D : ByteArray, D = ⟨(u2 d).toArray⟩ := ⟨_, rfl⟩
    have C3 := Lib.hid (show ∀ W, Calls Try.prog 36 #[.int .i64 d] W fun e w' => e = .returned (.string D3) ∧ Below W.heap.size W w' from fun W => by rw [hD3]; exact sh_any d W)
    have s3 : D3.size = 2 := by rw [hD3]; exact u2_len d
    have y1 : ¬ 9223372036854775807 < D0.size + D1.size := by omega
    have y2 : ¬ 9223372036854775807 < D0.size + D1.size + D2.size := by omega
    have y3 : ¬ 9223372036854775807 < D0.size + D1.size + D2.size + D3.size := by omega
    have HR := Lib.hid (show D0 ++ D1 ++ D2 ++ D3 = (⟨(u2 a ++ u2 b ++ u2 c ++ u2 d).toArray⟩ : ByteArray) from by rw [hD0, hD1, hD2, hD3, app_txt, app_txt, app_txt])
    clear hD0 hD1 hD2 hD3 s0 s1 s2 s3
    clear k1 e1 e2
    go_enter Try.func43, Try.ntmps43
    go_upto_region 7 with (go_at_call 39; (with_reducible refine (CB.out _).mono ?_); rintro e w1 ⟨rfl, hb⟩; have H := Lib.hid (S.out.next hb); obtain ⟨c1, c2, c3, c4⟩ := H.out.four; clear hb)
    generalize w.heap.size = bb at H c1 c2 c3 c4 ⊢
    go_region_held3 (fun w' => w'.cell? ⟨bb, 3, none⟩ = some (.int .i64 a) ∧ w'.cell? ⟨bb, 4, none⟩ = some (.int .i64 b) ∧ w'.cell? ⟨bb, 5, none⟩ = some (.int .i64 c) ∧ w'.cell? ⟨bb, 6, none⟩ = some (.int .i64 d))
      (first | with_reducible exact H.out.four | go_keep)
      (first
        | (go_at_call 36; (with_reducible refine (C0.out _).mono ?_); rintro e wx ⟨rfl, hb⟩; (first | have H := Lib.hid (H.out.next hb) | have H := Lib.hid (H.out.drew.next hb)); clear hb)
        | (go_at_call 36; (with_reducible refine (C1.out _).mono ?_); rintro e wx ⟨rfl, hb⟩; (first | have H := Lib.hid (H.out.next hb) | have H := Lib.hid (H.out.drew.next hb)); clear hb)
        | (go_at_call 36; (with_reducible refine (C2.out _).mono ?_); rintro e wx ⟨rfl, hb⟩; (first | have H := Lib.hid (H.out.next hb) | have H := Lib.hid (H.out.drew.next hb)); clear hb)
        | (go_at_call 36; (with_reducible refine (C3.out _).mono ?_); rintro e wx ⟨rfl, hb⟩; (first | have H := Lib.hid (H.out.next hb) | have H := Lib.hid (H.out.drew.next hb)); clear hb))
    go_wp2_with fail
    go_ret
    exact ⟨by rw [← HR.out]; rfl, H.out.bel⟩
  · by_cases k2 : a = d
    rotate_left
    · have e1 : nuB (g, x, y, a, b, c, d) = 64 := by unfold nuB; rw [if_neg k1, if_pos k2]
      have e2 : nuE (g, x, y, a, b, c, d) = u2 a ++ u2 d := by unfold nuE; rw [if_neg k1, if_pos k2]
      rw [e1] at CB
      rw [e2]
      have CB : Hid (∀ W, Calls Try.prog 39 #[.agg #[.int .i64 g, .int .i64 x, .int .i64 y, .int .i64 a, .int .i64 b, .int .i64 c, .int .i64 d]] W fun e w' => e = .returned (.int .u16 64) ∧ Below W.heap.size W w') := CB
      obtain ⟨D0, hD0⟩ : ∃ D : ByteArray, D = ⟨(u2 a).toArray⟩ := ⟨_, rfl⟩
      have C0 := Lib.hid (show ∀ W, Calls Try.prog 36 #[.int .i64 a] W fun e w' => e = .returned (.string D0) ∧ Below W.heap.size W w' from fun W => by rw [hD0]; exact sh_any a W)
      have s0 : D0.size = 2 := by rw [hD0]; exact u2_len a
      obtain ⟨D1, hD1⟩ : ∃ D : ByteArray, D = ⟨(u2 d).toArray⟩ := ⟨_, rfl⟩
      have C1 := Lib.hid (show ∀ W, Calls Try.prog 36 #[.int .i64 d] W fun e w' => e = .returned (.string D1) ∧ Below W.heap.size W w' from fun W => by rw [hD1]; exact sh_any d W)
      have s1 : D1.size = 2 := by rw [hD1]; exact u2_len d
      have y1 : ¬ 9223372036854775807 < D0.size + D1.size := by omega
      have HR := Lib.hid (show D0 ++ D1 = (⟨(u2 a ++ u2 d).toArray⟩ : ByteArray) from by rw [hD0, hD1, app_txt])
      clear hD0 hD1 s0 s1
      clear k1 k2 e1 e2
      go_enter Try.func43, Try.ntmps43
      go_upto_region 5 with (go_at_call 39; (with_reducible refine (CB.out _).mono ?_); rintro e w1 ⟨rfl, hb⟩; have H := Lib.hid (S.out.next hb); obtain ⟨c1, c2⟩ := H.out.ad; clear hb)
      generalize w.heap.size = bb at H c1 c2 ⊢
      go_region_held3 (fun w' => w'.cell? ⟨bb, 3, none⟩ = some (.int .i64 a) ∧ w'.cell? ⟨bb, 6, none⟩ = some (.int .i64 d))
        (first | with_reducible exact H.out.ad | go_keep)
        (first
        | (go_at_call 36; (with_reducible refine (C0.out _).mono ?_); rintro e wx ⟨rfl, hb⟩; (first | have H := Lib.hid (H.out.next hb) | have H := Lib.hid (H.out.drew.next hb)); clear hb)
        | (go_at_call 36; (with_reducible refine (C1.out _).mono ?_); rintro e wx ⟨rfl, hb⟩; (first | have H := Lib.hid (H.out.next hb) | have H := Lib.hid (H.out.drew.next hb)); clear hb))
      go_wp2_with fail
      go_ret
      exact ⟨by rw [← HR.out]; rfl, H.out.bel⟩
    · by_cases k3 : a = 16384
      rotate_left
      · have e1 : nuB (g, x, y, a, b, c, d) = 8 := by unfold nuB; rw [if_neg k1, if_neg (fun h => h k2), if_pos k3]
        have e2 : nuE (g, x, y, a, b, c, d) = u2 a := by unfold nuE; rw [if_neg k1, if_neg (fun h => h k2), if_pos k3]
        rw [e1] at CB
        rw [e2]
        have CB : Hid (∀ W, Calls Try.prog 39 #[.agg #[.int .i64 g, .int .i64 x, .int .i64 y, .int .i64 a, .int .i64 b, .int .i64 c, .int .i64 d]] W fun e w' => e = .returned (.int .u16 8) ∧ Below W.heap.size W w') := CB
        have C0 := Lib.hid (fun W => sh_any a W)
        clear k1 k2 k3 e1 e2
        go_enter Try.func43, Try.ntmps43
        go_wp2_with (first
          | (go_at_call 39; (with_reducible refine (CB.out _).mono ?_); rintro e w1 ⟨rfl, hb⟩; have H := Lib.hid (S.out.next hb); obtain ⟨c1, c2⟩ := H.out.ad; clear hb)
          | (go_at_call 36; (with_reducible refine (C0.out _).mono ?_); rintro e w2 ⟨rfl, hb⟩; have H := Lib.hid (H.out.next hb); clear hb))
        go_ret
        exact ⟨rfl, H.out.bel⟩
      · have e1 : nuB (g, x, y, a, b, c, d) = 0 := by unfold nuB; rw [if_neg k1, if_neg (fun h => h k2), if_neg (fun h => h k3)]
        have e2 : nuE (g, x, y, a, b, c, d) = [] := by unfold nuE; rw [if_neg k1, if_neg (fun h => h k2), if_neg (fun h => h k3)]
        rw [e1] at CB
        rw [e2]
        have CB : Hid (∀ W, Calls Try.prog 39 #[.agg #[.int .i64 g, .int .i64 x, .int .i64 y, .int .i64 a, .int .i64 b, .int .i64 c, .int .i64 d]] W fun e w' => e = .returned (.int .u16 0) ∧ Below W.heap.size W w') := CB
        clear k1 k2 k3 e1 e2
        go_enter Try.func43, Try.ntmps43
        go_wp2_with (go_at_call 39; (with_reducible refine (CB.out _).mono ?_); rintro e w1 ⟨rfl, hb⟩; have H := Lib.hid (S.out.next hb); clear hb)
        go_ret
        exact ⟨rfl, H.out.bel⟩
set_option maxHeartbeats 4000000 in
set_option maxRecDepth 100000 in
theorem tellHead_any (w : World) : Calls Try.prog 18 #[] w fun e w' => e = .returned (.string ⟨hdE.toArray⟩) ∧ Below w.heap.size w w' := by
  obtain ⟨D0, hD0⟩ : ∃ D : ByteArray, D = ⟨(u2 (-1)).toArray⟩ := ⟨_, rfl⟩
  obtain ⟨D1, hD1⟩ : ∃ D : ByteArray, D = ⟨(Lib.repeatL [0] 8).toArray⟩ := ⟨_, rfl⟩
  have C0 := Lib.hid (show ∀ W, Calls Try.prog 36 #[.int .i64 (-1)] W fun e w' => e = .returned (.string D0) ∧ Below W.heap.size W w' from fun W => by rw [hD0]; exact sh_any (-1) W)
  have C1 := Lib.hid (show ∀ W, Calls Try.prog 37 #[.string ⟨#[0]⟩, .int .i64 8] W fun e w' => e = .returned (.string D1) ∧ Below W.heap.size W w' from fun W => by rw [hD1]; exact Try.strings_Repeat ⟨#[0]⟩ 8 W (by decide) (by decide))
  have y1 : ¬ 9223372036854775807 < D0.size + D1.size := by rw [hD0, hD1]; decide
  have HR := Lib.hid (show D0 ++ D1 = (⟨hdE.toArray⟩ : ByteArray) from by rw [hD0, hD1, app_txt]; rfl)
  have B0 := Lib.hid (Below.refl w.heap.size w)
  clear hD0 hD1
  go_enter Try.func18, Try.ntmps18
  go_wp2_with (first
    | (go_at_call 36; (with_reducible refine (C0.out _).mono ?_); rintro e w1 ⟨rfl, hb⟩; have B1 := Lib.hid (B0.out.trans (hb.mono B0.out.size)); clear hb)
    | (go_at_call 37; (with_reducible refine (C1.out _).mono ?_); rintro e w2 ⟨rfl, hb⟩; have B1 := Lib.hid (B1.out.trans (hb.mono B1.out.size)); clear hb))
  go_ret
  exact ⟨by rw [← HR.out]; rfl, B1.out⟩
end Go.Proofs.Ytbmeamhpmahlgaa
