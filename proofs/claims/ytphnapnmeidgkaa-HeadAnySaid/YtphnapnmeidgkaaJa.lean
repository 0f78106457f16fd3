/- Proved here: that the statements' first call, awake, answers true. No condition. -/
import Derived.Test.YtphnapnmeidgkaaId
import Derived.Test.YtphnapnmeidgkaaIf
namespace Go.Proofs.Ytphnapnmeidgkaa
open Go.RowKit

theorem mkL_small (h : Hd) : ∀ i, i < 3 → (dt (mkL h) i).length ≤ 1000000 := by
  intro i hi
  obtain rfl | rfl | rfl : i = 0 ∨ i = 1 ∨ i = 2 := by omega
  · show (dHead h).length ≤ _; rw [dHead_len]; decide
  · show (dHhea h).length ≤ _; rw [dHhea_len]; decide
  · show (dMaxp h).length ≤ _; rw [dMaxp_len]; decide
theorem parse_made (h : Hd) (hm : MayP h) (A : Option Addr) (c : Nat) (w : World) (hT : Tl w A 3 (mkL h)) :
    Calls Try.prog 9 #[.slice A 3 c] w fun e w' => e = .returned (.tuple #[.agg #[.int .i64 h.em, .bool h.lg, .int .i64 h.gl, .int .i64 h.me, .int .i64 h.a1, .int .i64 h.a2, .int .i64 h.a3], .int .i64 0]) ∧ Below w.heap.size w w' := by
  have hp := parse_any A 3 c (mkL h) w hT (by decide) (mkL_small h)
  obtain ⟨p1, p2⟩ := back h hm
  rw [p1, p2] at hp
  exact hp
def awH : Hd := ⟨1000, false, 3, 1, 800, -200, 0⟩
theorem aw_may : MayP awH := by decide
theorem aw_make (w : World) : Calls Try.prog 6 #[.agg #[.int .i64 1000, .bool false, .int .i64 3, .int .i64 1, .int .i64 800, .int .i64 (-200), .int .i64 0]] w fun e w' => ∃ A c, e = .returned (.tuple #[.slice A 3 c, .int .i64 0]) ∧ Tl w' A 3 (mkL awH) ∧ Below w.heap.size w w' := make_any awH w aw_may
theorem aw_parse (A : Option Addr) (c : Nat) (w : World) (hT : Tl w A 3 (mkL awH)) :
    Calls Try.prog 9 #[.slice A 3 c] w fun e w' => e = .returned (.tuple #[.agg #[.int .i64 1000, .bool false, .int .i64 3, .int .i64 1, .int .i64 800, .int .i64 (-200), .int .i64 0], .int .i64 0]) ∧ Below w.heap.size w w' := parse_made awH aw_may A c w hT
theorem aw_none (w : World) : Calls Try.prog 9 #[.slice none 0 0] w fun e w' => e = .returned (.tuple #[.agg #[.int .i64 0, .bool false, .int .i64 0, .int .i64 0, .int .i64 0, .int .i64 0, .int .i64 0], .int .i64 7]) ∧ Below w.heap.size w w' :=
  parse_any none 0 0 [] w ⟨rfl, fun i hi => by omega⟩ (by decide) (fun i hi => by omega)
theorem aw_yes (w : World) : Calls Try.prog 7 #[.agg #[.int .i64 1000, .bool false, .int .i64 3, .int .i64 1, .int .i64 800, .int .i64 (-200), .int .i64 0]] w fun e w' => e = .returned (.bool true) ∧ Below w.heap.size w w' := by
  have h := may_any awH w
  rw [decide_eq_true aw_may] at h
  exact h
/-- What is said, and what was read again, in boxes. -/
structure TS (w W : World) (b g : Nat) (h k : Hd) : Prop where
  ms : MS w W b h
  kb : HB W g k
theorem TS.start {w W : World} {b : Nat} {h : Hd} (s : MS w W b h) (k : Hd) : TS w (W.alloc (.cells k.cs 23)) b W.heap.size h k := ⟨s.next ((Below.refl _ _).alloc (Nat.le_refl _) _), heap_alloc_new W _⟩
theorem TS.next {w W W' : World} {b g : Nat} {h k : Hd} (s : TS w W b g h k) (hb : Below W.heap.size W W') : TS w W' b g h k := ⟨s.ms.next hb, s.kb.bel hb⟩
theorem TS.box {w W : World} {b g : Nat} {h k : Hd} (s : TS w W b g h k) (o : Obj) : TS w (W.alloc o) b g h k := s.next ((Below.refl _ _).alloc (Nat.le_refl _) _)
theorem MS.aw {w W : World} {b : Nat} (s : MS w W b awH) : W.cell? ⟨b, 0, none⟩ = some (.int .i64 1000) ∧ W.cell? ⟨b, 1, none⟩ = some (.bool false) ∧ W.cell? ⟨b, 2, none⟩ = some (.int .i64 3) ∧ W.cell? ⟨b, 3, none⟩ = some (.int .i64 1) ∧ W.cell? ⟨b, 4, none⟩ = some (.int .i64 800) ∧ W.cell? ⟨b, 5, none⟩ = some (.int .i64 (-200)) ∧ W.cell? ⟨b, 6, none⟩ = some (.int .i64 0) := s.cells
theorem TS.ks {w W : World} {b g : Nat} {h : Hd} (s : TS w W b g h awH) : W.cell? ⟨g, 0, none⟩ = some (.int .i64 1000) ∧ W.cell? ⟨g, 1, none⟩ = some (.bool false) ∧ W.cell? ⟨g, 2, none⟩ = some (.int .i64 3) ∧ W.cell? ⟨g, 3, none⟩ = some (.int .i64 1) ∧ W.cell? ⟨g, 4, none⟩ = some (.int .i64 800) ∧ W.cell? ⟨g, 5, none⟩ = some (.int .i64 (-200)) ∧ W.cell? ⟨g, 6, none⟩ = some (.int .i64 0) := s.kb.cells
set_option maxHeartbeats 4000000 in
theorem awake_any (w : World) : Calls Try.prog 5 #[] w fun e w' => e = .returned (.bool true) ∧ Below w.heap.size w w' := by
  have HM := Lib.hid (fun W => aw_make W)
  have HY := Lib.hid (fun W => aw_yes W)
  have HN := Lib.hid (fun W => aw_none W)
  have S0 := Lib.hid (show MS w (w.alloc (.cells #[.int .i64 1000, .bool false, .int .i64 3, .int .i64 1, .int .i64 800, .int .i64 (-200), .int .i64 0] 23)) w.heap.size awH from ⟨(Below.refl _ _).alloc (Nat.le_refl _) _, heap_alloc_new w _⟩)
  go_enter Try.func5, Try.ntmps5
  go_upto_region 2 with fail
  obtain ⟨b, hb⟩ : ∃ b, b = w.heap.size := ⟨_, rfl⟩
  obtain ⟨W0, hW0⟩ : ∃ W, W = w.alloc (.cells #[.int .i64 1000, .bool false, .int .i64 3, .int .i64 1, .int .i64 800, .int .i64 (-200), .int .i64 0] 23) := ⟨_, rfl⟩
  have S0 := Lib.hid (show MS w W0 b awH by rw [hW0, hb]; exact S0.out)
  rw [← hb, ← hW0]
  clear hb hW0
  obtain ⟨f0, f1, f2, f3, f4, f5, f6⟩ := S0.out.aw
  go_upto_region 3 with (go_at_call 6; (with_reducible refine (HM.out _).mono ?_); rintro e w1 ⟨A, c, rfl, ht, hb⟩; have T1 := Lib.hid ht; have S1 := Lib.hid (S0.out.next hb); clear ht hb f0 f1 f2 f3 f4 f5 f6)
  go_upto_region 4 with (go_at_call 9; (with_reducible refine (aw_parse _ _ _ T1.out).mono ?_); rintro e w2 ⟨rfl, hb⟩; have S2 := Lib.hid (S1.out.next hb); clear hb)
  have S3 := Lib.hid (TS.start S2.out awH)
  obtain ⟨g, hg⟩ : ∃ b, b = w2.heap.size := ⟨_, rfl⟩
  obtain ⟨W3, hW3⟩ : ∃ W, W = w2.alloc (.cells #[.int .i64 1000, .bool false, .int .i64 3, .int .i64 1, .int .i64 800, .int .i64 (-200), .int .i64 0] 23) := ⟨_, rfl⟩
  have S3 := Lib.hid (show TS w W3 b g awH awH by rw [hW3, hg]; exact S3.out)
  rw [← hg, ← hW3]
  clear hg hW3
  go_upto_region 5 with (go_at_call 9; (with_reducible refine (HN.out _).mono ?_); rintro e w4 ⟨rfl, hb⟩; have S4 := Lib.hid ((S3.out.next hb).box (.cells #[.int .i64 0, .bool false, .int .i64 0, .int .i64 0, .int .i64 0, .int .i64 0, .int .i64 0] 23)); clear hb)
  obtain ⟨W5, hW5⟩ : ∃ W, W = w4.alloc (.cells #[.int .i64 0, .bool false, .int .i64 0, .int .i64 0, .int .i64 0, .int .i64 0, .int .i64 0] 23) := ⟨_, rfl⟩
  rw [← hW5] at S4 ⊢
  clear hW5
  obtain ⟨f0, f1, f2, f3, f4, f5, f6⟩ := S4.out.ms.aw
  obtain ⟨g0, g1, g2, g3, g4, g5, g6⟩ := S4.out.ks
  go_wp2_with (go_at_call 7; (with_reducible refine (HY.out _).mono ?_); rintro e w6 ⟨rfl, hb⟩; have B := Lib.hid (S4.out.ms.next hb).bel; clear hb)
  go_ret
  exact ⟨rfl, B.out⟩
end Go.Proofs.Ytphnapnmeidgkaa
