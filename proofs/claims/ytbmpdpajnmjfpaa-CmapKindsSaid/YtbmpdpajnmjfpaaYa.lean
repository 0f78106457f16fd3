/- Proved here: the laws' awake returns true, in whatever memory. No condition. -/
import Derived.Test.YtbmpdpajnmjfpaaXc
import Derived.Test.YtbmpdpajnmjfpaaSc
namespace Go.Proofs.Ytbmpdpajnmjfpaa
open Go.RowKit

def awL : List (Int × Int) := [(65, 1), (66, 2)]
theorem aw_may3 : MayP awL 3 := by decide
theorem aw_may : MayP awL 1024 := by decide
theorem aw_ok (long : Bool) : okMk awL long := by cases long <;> decide
set_option maxRecDepth 100000 in
theorem aw_back (long : Bool) : parS 3 (mkB awL long) = (0, awL) := by cases long <;> decide +kernel
theorem pl_lit (w : World) : Pl (w.alloc (.cells #[.int .i64 65, .int .i64 1, .int .i64 66, .int .i64 2] 37)) (some ⟨w.heap.size, 0, none⟩) 2 awL := by
  have hc := cells_new w [.int .i64 65, .int .i64 1, .int .i64 66, .int .i64 2] 37
  refine ⟨rfl, fun i hi => ⟨_, rfl, by simp, ?_⟩⟩
  obtain rfl | rfl : i = 0 ∨ i = 1 := by omega
  · exact ⟨hc 0 _ rfl, hc 1 _ rfl⟩
  · exact ⟨hc 2 _ rfl, hc 3 _ rfl⟩
/-- Bytes that are made, and parsed again. -/
structure AwD (D : ByteArray) (n : Nat) (long : Bool) : Prop where
  size : D.size = n
  make : ∀ A c W, Pl W A 2 awL → Calls Try.prog 6 #[.slice A 2 c, .bool long] W fun e w' => e = .returned (.tuple #[.string D, .int .i64 0]) ∧ Below W.heap.size W w'
  parse : ∀ W, Calls Try.prog 12 #[.string D, .int .i64 3] W fun e w' => ∃ A c, e = .returned (.tuple #[.slice A 2 c, .int .i64 0]) ∧ Pl w' A 2 awL ∧ Below W.heap.size W w'
theorem aw_d (long : Bool) (n : Nat) (hn : (mkB awL long).length = n) (hn2 : n ≤ 1000) : AwD ⟨(mkB awL long).toArray⟩ n long := by
  have hs : ByteArray.size ⟨(mkB awL long).toArray⟩ = n := by show (mkB awL long).toArray.size = n; rw [List.size_toArray]; exact hn
  refine ⟨hs, fun A c W h => ?_, fun W => ?_⟩
  · have h1 := make_any A 2 c awL long W h
    obtain ⟨q1, q2⟩ := mk_yes (aw_ok long)
    unfold StE at h1
    rw [q1, q2] at h1
    exact h1
  · refine (parse_any ⟨(mkB awL long).toArray⟩ 3 W (by rw [hs]; omega)).mono fun e w' ⟨h1, A, m, c, h2, h3⟩ => ?_
    simp only at h2 h3
    rw [aw_back long] at h2 h3
    rw [if_pos rfl] at h3
    have hm : m = 2 := h3.len.symm
    subst hm
    exact ⟨A, c, h2, h3, h1⟩
theorem aw_find (A : Option Addr) (c : Nat) (t : Int) (W : World) (h : Pl W A 2 awL) : Calls Try.prog 10 #[.slice A 2 c, .int .i64 t] W fun e w' => e = .returned (.int .i64 (fnd awL t)) ∧ Below W.heap.size W w' := find_any A 2 c awL t W h (by omega) aw_may.rise
theorem aw_f1 (A : Option Addr) (c : Nat) (W : World) (h : Pl W A 2 awL) : Calls Try.prog 10 #[.slice A 2 c, .int .i64 66] W fun e w' => e = .returned (.int .i64 2) ∧ Below W.heap.size W w' := aw_find A c 66 W h
theorem aw_f2 (A : Option Addr) (c : Nat) (W : World) (h : Pl W A 2 awL) : Calls Try.prog 10 #[.slice A 2 c, .int .i64 67] W fun e w' => e = .returned (.int .i64 0) ∧ Below W.heap.size W w' := aw_find A c 67 W h
theorem aw_m (A : Option Addr) (c : Nat) (W : World) (h : Pl W A 2 awL) : Calls Try.prog 8 #[.slice A 2 c, .int .i64 3] W fun e w' => e = .returned (.bool true) ∧ Below W.heap.size W w' := by
  have h1 := may_any A 2 c awL 3 W h
  rw [decide_eq_true aw_may3] at h1
  exact h1
/-- While awake runs: the list, what it has read. -/
structure AwS (w W : World) (a1 : Addr) : Prop where
  bel : Below w.heap.size w W
  l : Pl W (some a1) 2 awL
theorem AwS.next {w W W' : World} {a : Addr} (h : AwS w W a) (hb : Below W.heap.size W W') : AwS w W' a := ⟨h.bel.trans (hb.mono h.bel.size), h.l.bel hb⟩
theorem Pl.one {W : World} {a : Addr} {L : List (Int × Int)} (h : Pl W (some a) 2 L) : W.cell? { block := a.block, off := a.off + 2 } = some (.int .i64 (cd L 1)) ∧ W.cell? { block := a.block, off := a.off + 2 + 1 } = some (.int .i64 (gy L 1)) ∧ W.cell? a = some (.int .i64 (cd L 0)) ∧ W.cell? { block := a.block, off := a.off + 1 } = some (.int .i64 (gy L 0)) := by
  obtain ⟨x, hx, _, h1, h2⟩ := h.get 1 (by omega)
  injection hx with hx
  subst hx
  obtain ⟨x, hx, _, h3, h4⟩ := h.get 0 (by omega)
  injection hx with hx
  subst hx
  exact ⟨h1, h2, h3, h4⟩
/-- .. and the two lists that were parsed. -/
structure AwT (w W : World) (a y1 y2 : Addr) : Prop where
  bel : Below w.heap.size w W
  l : Pl W (some a) 2 awL
  p1 : Pl W (some y1) 2 awL
  p2 : Pl W (some y2) 2 awL
theorem AwT.next {w W W' : World} {a y1 y2 : Addr} (h : AwT w W a y1 y2) (hb : Below W.heap.size W W') : AwT w W' a y1 y2 := ⟨h.bel.trans (hb.mono h.bel.size), h.l.bel hb, h.p1.bel hb, h.p2.bel hb⟩
theorem AwT.drew {w W : World} {a y1 y2 : Addr} (h : AwT w W a y1 y2) : AwT w W.drew a y1 y2 := h.next ((Below.refl _ _).drew)
theorem AwT.facts {w W : World} {a y1 y2 : Addr} (h : AwT w W a y1 y2) : W.cell? { block := a.block, off := a.off + 2 } = some (.int .i64 66) ∧ W.cell? { block := a.block, off := a.off + 2 + 1 } = some (.int .i64 2) ∧ W.cell? a = some (.int .i64 65) ∧ W.cell? { block := a.block, off := a.off + 1 } = some (.int .i64 1) ∧ W.cell? { block := y1.block, off := y1.off + 2 } = some (.int .i64 66) ∧ W.cell? { block := y1.block, off := y1.off + 2 + 1 } = some (.int .i64 2) ∧ W.cell? y2 = some (.int .i64 65) ∧ W.cell? { block := y2.block, off := y2.off + 1 } = some (.int .i64 1) := by
  obtain ⟨q0, q1, q2, q3⟩ := h.l.one
  obtain ⟨q4, q5, _, _⟩ := h.p1.one
  obtain ⟨_, _, q6, q7⟩ := h.p2.one
  exact ⟨q0, q1, q2, q3, q4, q5, q6, q7⟩
set_option maxHeartbeats 4000000 in
set_option maxRecDepth 100000 in
theorem awake_any (w : World) : Calls Try.prog 5 #[] w fun e w' => e = .returned (.bool true) ∧ Below w.heap.size w w' := by
  obtain ⟨D1, hD1⟩ : ∃ D : ByteArray, D = ⟨(mkB awL true).toArray⟩ := ⟨_, rfl⟩
  obtain ⟨D2, hD2⟩ : ∃ D : ByteArray, D = ⟨(mkB awL false).toArray⟩ := ⟨_, rfl⟩
  have H1 := Lib.hid (show AwD D1 40 true by rw [hD1]; exact aw_d true 40 (by decide +kernel) (by omega))
  have H2 := Lib.hid (show AwD D2 44 false by rw [hD2]; exact aw_d false 44 (by decide +kernel) (by omega))
  have z1 := H1.out.size
  have z2 := H2.out.size
  have z1' : ((D1.size : Int) == 40) = true := by rw [z1]; rfl
  have z2' : ((D2.size : Int) == 44) = true := by rw [z2]; rfl
  have S0 := Lib.hid (show AwS w (w.alloc (.cells #[.int .i64 65, .int .i64 1, .int .i64 66, .int .i64 2] 37)) ⟨w.heap.size, 0, none⟩ from ⟨(Below.refl _ _).alloc (Nat.le_refl _) _, pl_lit w⟩)
  clear hD1 hD2 z1 z2
  go_enter Try.func5, Try.ntmps5
  go_upto_region 2 with fail
  obtain ⟨a, ha⟩ : ∃ a : Addr, a = ⟨w.heap.size, 0, none⟩ := ⟨_, rfl⟩
  obtain ⟨W0, hW0⟩ : ∃ W, W = w.alloc (.cells #[.int .i64 65, .int .i64 1, .int .i64 66, .int .i64 2] 37) := ⟨_, rfl⟩
  rw [← hW0, ← ha] at S0
  rw [← hW0, ← ha]
  clear ha hW0
  go_upto_region 5 with (first
    | (go_at_call 6; (with_reducible refine (H1.out.make _ _ _ S0.out.l).mono ?_); rintro e w1 ⟨rfl, hb⟩; have S1 := Lib.hid (S0.out.next hb); clear hb)
    | (go_at_call 6; (with_reducible refine (H2.out.make _ _ _ S1.out.l).mono ?_); rintro e w2 ⟨rfl, hb⟩; have S2 := Lib.hid (S1.out.next hb); clear hb)
    | (go_at_call 12; (with_reducible refine (H1.out.parse _).mono ?_); rintro e w3 ⟨A1, c1, rfl, hp, hb⟩; have S3 := Lib.hid (And.intro (S2.out.next hb) hp); clear hb hp))
  go_upto_region 6 with (go_at_call 12; (with_reducible refine (H2.out.parse _).mono ?_); rintro e w4 ⟨A2, c2, rfl, hp, hb⟩; have S4 := Lib.hid (And.intro (S3.out.1.next hb) (And.intro (S3.out.2.bel hb) hp)); clear hb hp)
  obtain ⟨y1, rfl, _⟩ := S3.out.2.get 0 (by omega)
  obtain ⟨y2, rfl, _⟩ := S4.out.2.2.get 0 (by omega)
  have T := Lib.hid (show AwT w w4 a y1 y2 from ⟨S4.out.1.bel, S4.out.1.l, S4.out.2.1, S4.out.2.2⟩)
  clear S0 S1 S2 S3 S4 H1 H2
  obtain ⟨f0, f1, f2, f3, f4, f5, f6, f7⟩ := T.out.facts
  dsimp only [List.append]
  go_region_held3 (fun w' => w'.cell? { block := a.block, off := a.off + 2 } = some (.int .i64 66) ∧ w'.cell? { block := a.block, off := a.off + 2 + 1 } = some (.int .i64 2) ∧ w'.cell? a = some (.int .i64 65) ∧ w'.cell? { block := a.block, off := a.off + 1 } = some (.int .i64 1) ∧ w'.cell? { block := y1.block, off := y1.off + 2 } = some (.int .i64 66) ∧ w'.cell? { block := y1.block, off := y1.off + 2 + 1 } = some (.int .i64 2) ∧ w'.cell? y2 = some (.int .i64 65) ∧ w'.cell? { block := y2.block, off := y2.off + 1 } = some (.int .i64 1))
    (first | with_reducible exact T.out.facts | go_keep)
    (first
      | (go_at_call 10; (with_reducible refine (aw_f1 _ _ _ (by first | exact T.out.l | exact T.out.drew.l)).mono ?_); rintro e w5 ⟨rfl, hb⟩; (first | have T := Lib.hid (T.out.next hb) | have T := Lib.hid (T.out.drew.next hb)); clear hb)
      | (go_at_call 10; (with_reducible refine (aw_f2 _ _ _ (by first | exact T.out.l | exact T.out.drew.l)).mono ?_); rintro e w5 ⟨rfl, hb⟩; (first | have T := Lib.hid (T.out.next hb) | have T := Lib.hid (T.out.drew.next hb)); clear hb)
      | (go_at_call 8; (with_reducible refine (aw_m _ _ _ (by first | exact T.out.l | exact T.out.drew.l)).mono ?_); rintro e w5 ⟨rfl, hb⟩; (first | have T := Lib.hid (T.out.next hb) | have T := Lib.hid (T.out.drew.next hb)); clear hb))
  go_wp2_with fail
  go_ret
  exact ⟨rfl, T.out.bel⟩
end Go.Proofs.Ytbmpdpajnmjfpaa
