/- Proved here: that HeadBack's law answers true, whatever a font says of itself. No condition. -/
import Derived.Test.YtphnapnmeidgkaaJb
namespace Go.Proofs.Ytphnapnmeidgkaa
open Go.RowKit

set_option maxHeartbeats 4000000 in
theorem back_no (h : Hd) (w : World) (hm : ¬ MayP h) : Calls Try.prog 3 #[.agg #[.int .i64 h.em, .bool h.lg, .int .i64 h.gl, .int .i64 h.me, .int .i64 h.a1, .int .i64 h.a2, .int .i64 h.a3]] w fun e w' => e = .returned (.bool true) ∧ Below w.heap.size w w' := by
  have c1 := fun W => may_any h W
  have c2 := fun W => rmay_any h W
  rw [decide_eq_false hm] at c1 c2
  have CM := Lib.hid c1
  have CR := Lib.hid c2
  have C0 := Lib.hid (fun W => make_no h W hm)
  clear c1 c2 hm
  have HA := Lib.hid (fun W => awake_any W)
  have S0 := Lib.hid (show MS w (w.alloc (.cells #[.int .i64 h.em, .bool h.lg, .int .i64 h.gl, .int .i64 h.me, .int .i64 h.a1, .int .i64 h.a2, .int .i64 h.a3] 23)) w.heap.size h from ⟨(Below.refl _ _).alloc (Nat.le_refl _) _, heap_alloc_new w _⟩)
  go_enter Try.func3, Try.ntmps3
  go_upto_region 1 with fail
  obtain ⟨b, hb⟩ : ∃ b, b = w.heap.size := ⟨_, rfl⟩
  obtain ⟨W0, hW0⟩ : ∃ W, W = w.alloc (.cells #[.int .i64 h.em, .bool h.lg, .int .i64 h.gl, .int .i64 h.me, .int .i64 h.a1, .int .i64 h.a2, .int .i64 h.a3] 23) := ⟨_, rfl⟩
  have S0 := Lib.hid (show MS w W0 b h by rw [hW0, hb]; exact S0.out)
  rw [← hb, ← hW0]
  clear hb hW0
  go_upto_region 3 with (go_at_call 5; (with_reducible refine (HA.out _).mono ?_); rintro e w1 ⟨rfl, hb⟩; have S1 := Lib.hid (S0.out.next hb); clear hb; obtain ⟨f0, f1, f2, f3, f4, f5, f6⟩ := S1.out.cells)
  go_upto_region 4 with (go_at_call 6; (with_reducible refine (C0.out _).mono ?_); rintro e w2 ⟨rfl, hb⟩; have H := Lib.hid (S1.out.next hb); clear hb; clear f0 f1 f2 f3 f4 f5 f6; obtain ⟨f0, f1, f2, f3, f4, f5, f6⟩ := H.out.cells)
  go_region_held3 (fun w' => w'.cell? ⟨b, 0, none⟩ = some (.int .i64 h.em) ∧ w'.cell? ⟨b, 1, none⟩ = some (.bool h.lg) ∧ w'.cell? ⟨b, 2, none⟩ = some (.int .i64 h.gl) ∧ w'.cell? ⟨b, 3, none⟩ = some (.int .i64 h.me) ∧ w'.cell? ⟨b, 4, none⟩ = some (.int .i64 h.a1) ∧ w'.cell? ⟨b, 5, none⟩ = some (.int .i64 h.a2) ∧ w'.cell? ⟨b, 6, none⟩ = some (.int .i64 h.a3))
    (first | with_reducible exact H.out.cells | go_keep)
    (first
      | (go_at_call 7; (with_reducible refine (CM.out _).mono ?_); rintro e wx ⟨rfl, hb⟩; (first | have H := Lib.hid (H.out.next hb) | have H := Lib.hid (H.out.drew.next hb)); clear hb)
      | (go_at_call 8; (with_reducible refine (CR.out _).mono ?_); rintro e wx ⟨rfl, hb⟩; (first | have H := Lib.hid (H.out.next hb) | have H := Lib.hid (H.out.drew.next hb)); clear hb))
  clear f0 f1 f2 f3 f4 f5 f6
  obtain ⟨f0, f1, f2, f3, f4, f5, f6⟩ := H.out.cells
  go_wp2_with (go_at_call 8; (with_reducible refine (CR.out _).mono ?_); rintro e wx ⟨rfl, hb⟩; have H := Lib.hid (H.out.next hb); clear hb)
  go_ret
  exact ⟨rfl, H.out.bel⟩
/-- What is said, in its box, and what was made of it. -/
structure LS (w W : World) (b : Nat) (h : Hd) (A : Option Addr) : Prop where
  ms : MS w W b h
  tl : Tl W A 3 (mkL h)
theorem LS.next {w W W' : World} {b : Nat} {h : Hd} {A : Option Addr} (s : LS w W b h A) (hb : Below W.heap.size W W') : LS w W' b h A := ⟨s.ms.next hb, s.tl.bel hb⟩
theorem LS.drew {w W : World} {b : Nat} {h : Hd} {A : Option Addr} (s : LS w W b h A) : LS w W.drew b h A := s.next (below_drewN (Below.refl _ _) 1)
/-- And what was read again, in its box. -/
structure LG (w W : World) (b g : Nat) (h : Hd) (A : Option Addr) : Prop where
  ls : LS w W b h A
  kb : HB W g h
theorem LG.next {w W W' : World} {b g : Nat} {h : Hd} {A : Option Addr} (s : LG w W b g h A) (hb : Below W.heap.size W W') : LG w W' b g h A := ⟨s.ls.next hb, s.kb.bel hb⟩
theorem LG.start {w W : World} {b : Nat} {h : Hd} {A : Option Addr} (s : LS w W b h A) : LG w (W.alloc (.cells #[.int .i64 h.em, .bool h.lg, .int .i64 h.gl, .int .i64 h.me, .int .i64 h.a1, .int .i64 h.a2, .int .i64 h.a3] 23)) b W.heap.size h A := ⟨s.next ((Below.refl _ _).alloc (Nat.le_refl _) _), heap_alloc_new W _⟩
theorem same_made (h : Hd) (A A' : Option Addr) (c c' : Nat) (w : World) (h1 : Tl w A 3 (mkL h)) (h2 : Tl w A' 3 (mkL h)) : Calls Try.prog 10 #[.slice A 3 c, .slice A' 3 c'] w fun e w' => e = .returned (.bool true) ∧ Below w.heap.size w w' :=
  same_any A A' 3 c c' (mkL h) w h1 h2 (by decide)
set_option maxHeartbeats 4000000 in
theorem back_yes (h : Hd) (w : World) (hm : MayP h) : Calls Try.prog 3 #[.agg #[.int .i64 h.em, .bool h.lg, .int .i64 h.gl, .int .i64 h.me, .int .i64 h.a1, .int .i64 h.a2, .int .i64 h.a3]] w fun e w' => e = .returned (.bool true) ∧ Below w.heap.size w w' := by
  have c1 := fun W => may_any h W
  have c2 := fun W => rmay_any h W
  rw [decide_eq_true hm] at c1 c2
  have CM := Lib.hid c1
  have CR := Lib.hid c2
  have C0 := Lib.hid (fun W => make_any h W hm)
  have CP := Lib.hid (fun A c W hT => parse_made h hm A c W hT)
  have CK := Lib.hid (fun W => rmake_any h W)
  clear c1 c2 hm
  have HA := Lib.hid (fun W => awake_any W)
  have S0 := Lib.hid (show MS w (w.alloc (.cells #[.int .i64 h.em, .bool h.lg, .int .i64 h.gl, .int .i64 h.me, .int .i64 h.a1, .int .i64 h.a2, .int .i64 h.a3] 23)) w.heap.size h from ⟨(Below.refl _ _).alloc (Nat.le_refl _) _, heap_alloc_new w _⟩)
  go_enter Try.func3, Try.ntmps3
  go_upto_region 1 with fail
  obtain ⟨b, hb⟩ : ∃ b, b = w.heap.size := ⟨_, rfl⟩
  obtain ⟨W0, hW0⟩ : ∃ W, W = w.alloc (.cells #[.int .i64 h.em, .bool h.lg, .int .i64 h.gl, .int .i64 h.me, .int .i64 h.a1, .int .i64 h.a2, .int .i64 h.a3] 23) := ⟨_, rfl⟩
  have S0 := Lib.hid (show MS w W0 b h by rw [hW0, hb]; exact S0.out)
  rw [← hb, ← hW0]
  clear hb hW0
  go_upto_region 3 with (go_at_call 5; (with_reducible refine (HA.out _).mono ?_); rintro e w1 ⟨rfl, hb⟩; have S1 := Lib.hid (S0.out.next hb); clear hb; obtain ⟨f0, f1, f2, f3, f4, f5, f6⟩ := S1.out.cells)
  go_upto_region 4 with (go_at_call 6; (with_reducible refine (C0.out _).mono ?_); rintro e w2 ⟨A, c, rfl, ht, hb⟩; have H := Lib.hid (show LS w w2 b h A from ⟨S1.out.next hb, ht⟩); clear ht hb; clear f0 f1 f2 f3 f4 f5 f6; obtain ⟨f0, f1, f2, f3, f4, f5, f6⟩ := H.out.ms.cells)
  go_region_held3 (fun w' => w'.cell? ⟨b, 0, none⟩ = some (.int .i64 h.em) ∧ w'.cell? ⟨b, 1, none⟩ = some (.bool h.lg) ∧ w'.cell? ⟨b, 2, none⟩ = some (.int .i64 h.gl) ∧ w'.cell? ⟨b, 3, none⟩ = some (.int .i64 h.me) ∧ w'.cell? ⟨b, 4, none⟩ = some (.int .i64 h.a1) ∧ w'.cell? ⟨b, 5, none⟩ = some (.int .i64 h.a2) ∧ w'.cell? ⟨b, 6, none⟩ = some (.int .i64 h.a3))
    (first | with_reducible exact H.out.ms.cells | go_keep)
    (first
      | (go_at_call 7; (with_reducible refine (CM.out _).mono ?_); rintro e wx ⟨rfl, hb⟩; (first | have H := Lib.hid (H.out.next hb) | have H := Lib.hid (H.out.drew.next hb)); clear hb)
      | (go_at_call 8; (with_reducible refine (CR.out _).mono ?_); rintro e wx ⟨rfl, hb⟩; (first | have H := Lib.hid (H.out.next hb) | have H := Lib.hid (H.out.drew.next hb)); clear hb))
  clear f0 f1 f2 f3 f4 f5 f6
  obtain ⟨f0, f1, f2, f3, f4, f5, f6⟩ := H.out.ms.cells
  go_upto_region 8 with (go_at_call 8; (with_reducible refine (CR.out _).mono ?_); rintro e wx ⟨rfl, hb⟩; have H := Lib.hid (H.out.next hb); clear hb)
  go_upto_region 9 with (go_at_call 9; (with_reducible refine (CP.out _ _ _ H.out.tl).mono ?_); rintro e wy ⟨rfl, hb⟩; have H := Lib.hid (LG.start (H.out.next hb)); clear hb)
  obtain ⟨g, hg⟩ : ∃ b, b = wy.heap.size := ⟨_, rfl⟩
  obtain ⟨Wy, hWy⟩ : ∃ W, W = wy.alloc (.cells #[.int .i64 h.em, .bool h.lg, .int .i64 h.gl, .int .i64 h.me, .int .i64 h.a1, .int .i64 h.a2, .int .i64 h.a3] 23) := ⟨_, rfl⟩
  have H := Lib.hid (show LG w Wy b g h A by rw [hWy, hg]; exact H.out)
  rw [← hg, ← hWy]
  clear hg hWy f0 f1 f2 f3 f4 f5 f6
  obtain ⟨f0, f1, f2, f3, f4, f5, f6⟩ := H.out.ls.ms.cells
  go_wp2_with (first
    | (go_at_call 11; (with_reducible refine (CK.out _).mono ?_); rintro e wz ⟨A2, c2, rfl, ht, hb⟩; have T2 := Lib.hid ht; have H := Lib.hid (H.out.next hb); clear ht hb)
    | (go_at_call 10; (with_reducible refine (same_made h _ _ _ _ _ H.out.ls.tl T2.out).mono ?_); rintro e wv ⟨rfl, hb⟩; have H := Lib.hid (H.out.next hb); clear hb; clear f0 f1 f2 f3 f4 f5 f6; obtain ⟨f0, f1, f2, f3, f4, f5, f6⟩ := H.out.ls.ms.cells; obtain ⟨g0, g1, g2, g3, g4, g5, g6⟩ := H.out.kb.cells))
  go_ret
  exact ⟨rfl, H.out.ls.ms.bel⟩
theorem law_back (h : Hd) (w : World) : Calls Try.prog 3 #[.agg #[.int .i64 h.em, .bool h.lg, .int .i64 h.gl, .int .i64 h.me, .int .i64 h.a1, .int .i64 h.a2, .int .i64 h.a3]] w fun e w' => e = .returned (.bool true) ∧ Below w.heap.size w w' := by
  by_cases hm : MayP h
  · exact back_yes h w hm
  · exact back_no h w hm
end Go.Proofs.Ytphnapnmeidgkaa
