/- Proved here: what the laws CompBack, CompAny and CompMoves answer, over memory. Condition: parts that lie in memory. -/
import Derived.Test.YtbmeamhpmahlgaaXa
namespace Go.Proofs.Ytbmeamhpmahlgaa
open Go.RowKit

theorem mkB_len (L : List Prt) : (mkB L).length ≤ 1034 := by
  unfold mkB
  split
  · rename_i h
    have h1 := pkE_len L L.length
    have h2 := h.2.1.2
    rw [List.length_append]
    show 10 + _ ≤ 1034
    omega
  · simp
set_option maxHeartbeats 8000000 in
set_option maxRecDepth 100000 in
theorem law_back (A : Option Addr) (m c : Nat) (L : List Prt) (G : Int) (w : World) (hP : Prl w A m L) : Calls Try.prog 3 #[.slice A m c, .int .i64 G] w fun e w' => e = .returned (.bool true) ∧ Below w.heap.size w w' := by
  have CA := Lib.hid (awake_any w)
  by_cases hm : 100 < m
  · clear hP
    go_enter Try.func3, Try.ntmps3
    go_wp2_with (go_at_call 6; (with_reducible refine CA.out.mono ?_); rintro e w1 ⟨rfl, hb⟩; have B := Lib.hid hb; clear hb)
    go_ret
    exact ⟨rfl, B.out⟩
  · have hlen := hP.len
    have CM := Lib.hid (fun (W : World) (hb : Below w.heap.size w W) => make_any A m c L W (hP.bel hb) (by omega))
    have CR := Lib.hid (fun (W : World) (hb : Below w.heap.size w W) => rmake_any A m c L W (hP.bel hb) (by omega))
    have CY := Lib.hid (fun (W : World) (hb : Below w.heap.size w W) => may_any A m c L G W (hP.bel hb) (by omega))
    have CZ := Lib.hid (fun (W : World) (hb : Below w.heap.size w W) => rmay_any A m c L G W (hP.bel hb) (by omega))
    have hback := mk_back (L := L)
    obtain ⟨D, hD⟩ : ∃ D : ByteArray, D = ⟨(mkB L).toArray⟩ := ⟨_, rfl⟩
    have hDs : D.size ≤ 1034 := by rw [hD, txt_size]; exact mkB_len L
    rw [← hD] at CM CR
    have hDl : D.data.toList = mkB L := by rw [hD]
    rw [← hDl] at hback
    obtain ⟨bm, hbm⟩ : ∃ b, b = decide (MayL L G) := ⟨_, rfl⟩
    rw [← hbm] at CY CZ
    by_cases h0 : MayL L 1024
    · have hE : mkE L = 0 := by unfold mkE; rw [if_pos h0]
      rw [hE] at CM CR
      obtain ⟨hb1, hb2⟩ := hback h0
      have CP := Lib.hid (fun W => show Calls Try.prog 11 #[.string D, .int .i64 1024] W fun e w' => ∃ A c, e = .returned (.tuple #[.slice A m c, .int .i64 0]) ∧ Prl w' A m L ∧ Below W.heap.size W w' from (parse_any D 1024 W (by omega)).mono fun e w' ⟨⟨A, k, c, h1, h2⟩, h3⟩ => by
        rw [hb1] at h1 h2
        have hk : k = m := by rw [← h2.len]; exact hlen
        subst hk
        exact ⟨A, c, h1, h2, h3⟩)
      have CS := Lib.hid (fun (A2 : Option Addr) (c2 : Nat) (W : World) (hb : Below w.heap.size w W) (h2 : Prl W A2 m L) => same_any A2 A m c2 c L W h2 (hP.bel hb) (by omega))
      have CI := Lib.hid (fun W => is_any D W (by omega))
      rw [decide_eq_true hb2] at CI
      clear hP hlen hback hD hDs hDl hE hbm h0 hb1 hb2
      go_enter Try.func3, Try.ntmps3
      go_wp2_with (first
        | (go_at_call 6; (with_reducible refine CA.out.mono ?_); rintro e w1 ⟨rfl, hb⟩; have B := Lib.hid hb; clear hb)
        | (go_at_call 7; (with_reducible refine (CM.out _ B.out).mono ?_); rintro e w2 ⟨rfl, hb⟩; have B := Lib.hid (B.out.trans (hb.mono B.out.size)); clear hb)
        | (go_at_call 8; (with_reducible refine (CR.out _ B.out).mono ?_); rintro e w2 ⟨rfl, hb⟩; have B := Lib.hid (B.out.trans (hb.mono B.out.size)); clear hb)
        | (go_at_call 9; (with_reducible refine (CY.out _ B.out).mono ?_); rintro e w2 ⟨rfl, hb⟩; have B := Lib.hid (B.out.trans (hb.mono B.out.size)); clear hb)
        | (go_at_call 10; (with_reducible refine (CZ.out _ B.out).mono ?_); rintro e w2 ⟨rfl, hb⟩; have B := Lib.hid (B.out.trans (hb.mono B.out.size)); clear hb)
        | (go_at_call 11; (with_reducible refine (CP.out _).mono ?_); rintro e w2 ⟨A2, c2, rfl, hC, hb⟩; have B := Lib.hid (B.out.trans (hb.mono B.out.size)); have HC := Lib.hid hC; clear hC hb)
        | (go_at_call 12; (with_reducible refine (CS.out _ _ _ B.out HC.out).mono ?_); rintro e w2 ⟨rfl, hb⟩; have B := Lib.hid (B.out.trans (hb.mono B.out.size)); clear hb)
        | (go_at_call 13; (with_reducible refine (CI.out _).mono ?_); rintro e w2 ⟨rfl, rfl⟩))
      go_ret
      exact ⟨rfl, B.out⟩
    · have hE : mkE L = 1 := by unfold mkE; rw [if_neg h0]
      rw [hE] at CM CR
      clear hP hlen hback hD hDs hDl hE hbm h0
      go_enter Try.func3, Try.ntmps3
      go_wp2_with (first
        | (go_at_call 6; (with_reducible refine CA.out.mono ?_); rintro e w1 ⟨rfl, hb⟩; have B := Lib.hid hb; clear hb)
        | (go_at_call 7; (with_reducible refine (CM.out _ B.out).mono ?_); rintro e w2 ⟨rfl, hb⟩; have B := Lib.hid (B.out.trans (hb.mono B.out.size)); clear hb)
        | (go_at_call 8; (with_reducible refine (CR.out _ B.out).mono ?_); rintro e w2 ⟨rfl, hb⟩; have B := Lib.hid (B.out.trans (hb.mono B.out.size)); clear hb)
        | (go_at_call 9; (with_reducible refine (CY.out _ B.out).mono ?_); rintro e w2 ⟨rfl, hb⟩; have B := Lib.hid (B.out.trans (hb.mono B.out.size)); clear hb)
        | (go_at_call 10; (with_reducible refine (CZ.out _ B.out).mono ?_); rintro e w2 ⟨rfl, hb⟩; have B := Lib.hid (B.out.trans (hb.mono B.out.size)); clear hb))
      go_ret
      exact ⟨rfl, B.out⟩
theorem prs_nil (l : List UInt8) (G : Int) : ∀ n acc a, (prs l G n acc a).1 ≠ 0 → (prs l G n acc a).2 = []
  | 0, _, _, _ => rfl
  | n + 1, acc, a, h => by
    unfold prs at h ⊢
    by_cases c1 : (prt l G a).1 ≠ 0
    · rw [if_pos c1]
    · rw [if_neg c1] at h ⊢
      by_cases c2 : (prt l G a).2.2.1 = true
      · rw [if_pos c2] at h ⊢
        exact prs_nil l G n _ _ h
      · rw [if_neg c2] at h
        exact absurd rfl h
theorem PA_len (l : List UInt8) (G : Int) : (PA l G).2.length ≤ 64 := by
  by_cases h : (PA l G).1 = 0
  · exact (PA_may h).2.1.2
  · have : (PA l G).2 = [] := by
      unfold PA at h ⊢
      by_cases c1 : ¬ okG G
      · rw [if_pos c1]
      rw [if_neg c1] at h ⊢
      by_cases c2 : l.length < 10
      · rw [if_pos c2]
      rw [if_neg c2] at h ⊢
      by_cases c3 : ¬ isN l
      · rw [if_pos c3]
      rw [if_neg c3] at h ⊢
      exact prs_nil l G 64 [] 10 h
    rw [this]
    simp
set_option maxHeartbeats 8000000 in
set_option maxRecDepth 100000 in
theorem law_any (s : ByteArray) (G : Int) (w : World) : Calls Try.prog 4 #[.string s, .int .i64 G] w fun e w' => e = .returned (.bool true) ∧ Below w.heap.size w w' := by
  have CA := Lib.hid (awake_any w)
  by_cases hs : 1000 < s.size
  · go_enter Try.func4, Try.ntmps4
    go_wp2_with (go_at_call 6; (with_reducible refine CA.out.mono ?_); rintro e w1 ⟨rfl, hb⟩; have B := Lib.hid hb; clear hb)
    go_ret
    exact ⟨rfl, B.out⟩
  · have hmay := PA_may (l := s.data.toList) (G := G)
    have hl := PA_len s.data.toList G
    have CP := Lib.hid (fun W => parse_any s G W (by omega))
    have CQ := Lib.hid (fun W => rparse_any s G W (by omega))
    have CI := Lib.hid (fun W => is_any s W (by omega))
    have CJ := Lib.hid (fun W => ris_any s W (by omega))
    obtain ⟨bn, hbn⟩ : ∃ b, b = decide (isN s.data.toList) := ⟨_, rfl⟩
    rw [← hbn] at CI CJ
    obtain ⟨R, hR⟩ : ∃ R, R = PA s.data.toList G := ⟨_, rfl⟩
    rw [← hR] at CP CQ hmay hl
    obtain ⟨E, LL⟩ := R
    simp only at hmay hl
    have CP2 := Lib.hid (fun W => show Calls Try.prog 11 #[.string s, .int .i64 G] W fun e w' => ∃ A c, e = .returned (.tuple #[.slice A LL.length c, .int .i64 E]) ∧ Prl w' A LL.length LL ∧ Below W.heap.size W w' from (CP.out W).mono fun e w' ⟨⟨A, k, c, h1, h2⟩, h3⟩ => by
      have hk := h2.len
      simp only at hk h1 h2
      subst hk
      exact ⟨A, c, h1, h2, h3⟩)
    have CQ2 := Lib.hid (fun W => show Calls Try.prog 14 #[.string s, .int .i64 G] W fun e w' => ∃ A c, e = .returned (.tuple #[.slice A LL.length c, .int .i64 E]) ∧ Prl w' A LL.length LL ∧ Below W.heap.size W w' from (CQ.out W).mono fun e w' ⟨⟨A, k, c, h1, h2⟩, h3⟩ => by
      have hk := h2.len
      simp only at hk h1 h2
      subst hk
      exact ⟨A, c, h1, h2, h3⟩)
    obtain ⟨n, hn⟩ : ∃ n, n = LL.length := ⟨_, rfl⟩
    rw [← hn] at CP2 CQ2 hl
    have CS := Lib.hid (fun (A A2 : Option Addr) (c c2 : Nat) (W : World) (h1 : Prl W A n LL) (h2 : Prl W A2 n LL) => same_any A A2 n c c2 LL W h1 h2 (by omega))
    by_cases h0 : E = 0
    · have CY := Lib.hid (fun (A : Option Addr) (c : Nat) (W : World) (h1 : Prl W A n LL) => show Calls Try.prog 9 #[.slice A n c, .int .i64 G] W fun e w' => e = .returned (.bool true) ∧ Below W.heap.size W w' by
        have h := may_any A n c LL G W h1 (by omega)
        rw [decide_eq_true (hmay h0)] at h
        exact h)
      subst h0
      clear hR CP CQ hmay hl hn hbn
      go_enter Try.func4, Try.ntmps4
      go_wp2_with (first
        | (go_at_call 6; (with_reducible refine CA.out.mono ?_); rintro e w1 ⟨rfl, hb⟩; have B := Lib.hid hb; clear hb)
        | (go_at_call 11; (with_reducible refine (CP2.out _).mono ?_); rintro e w2 ⟨A1, c1, rfl, hC, hb⟩; have B := Lib.hid (B.out.trans (hb.mono B.out.size)); have HC := Lib.hid hC; clear hC hb)
        | (go_at_call 14; (with_reducible refine (CQ2.out _).mono ?_); rintro e w3 ⟨A2, c2, rfl, hC, hb⟩; have B := Lib.hid (B.out.trans (hb.mono B.out.size)); have HC := Lib.hid (HC.out.bel hb); have HD := Lib.hid hC; clear hC hb)
        | (go_at_call 12; (with_reducible refine (CS.out _ _ _ _ _ HC.out HD.out).mono ?_); rintro e w4 ⟨rfl, hb⟩; have B := Lib.hid (B.out.trans (hb.mono B.out.size)); have HC := Lib.hid (HC.out.bel hb); clear hb)
        | (go_at_call 13; (with_reducible refine (CI.out _).mono ?_); rintro e w4 ⟨rfl, rfl⟩)
        | (go_at_call 15; (with_reducible refine (CJ.out _).mono ?_); rintro e w4 ⟨rfl, rfl⟩)
        | (go_at_call 9; (with_reducible refine (CY.out _ _ _ HC.out).mono ?_); rintro e w5 ⟨rfl, hb⟩; have B := Lib.hid (B.out.trans (hb.mono B.out.size)); clear hb))
      go_ret
      exact ⟨rfl, B.out⟩
    · have e1 : (E != 0) = true := by simp [h0]
      clear hR CP CQ hmay hl hn h0 hbn
      go_enter Try.func4, Try.ntmps4
      go_wp2_with (first
        | (go_at_call 6; (with_reducible refine CA.out.mono ?_); rintro e w1 ⟨rfl, hb⟩; have B := Lib.hid hb; clear hb)
        | (go_at_call 11; (with_reducible refine (CP2.out _).mono ?_); rintro e w2 ⟨A1, c1, rfl, hC, hb⟩; have B := Lib.hid (B.out.trans (hb.mono B.out.size)); have HC := Lib.hid hC; clear hC hb)
        | (go_at_call 14; (with_reducible refine (CQ2.out _).mono ?_); rintro e w3 ⟨A2, c2, rfl, hC, hb⟩; have B := Lib.hid (B.out.trans (hb.mono B.out.size)); have HC := Lib.hid (HC.out.bel hb); have HD := Lib.hid hC; clear hC hb)
        | (go_at_call 12; (with_reducible refine (CS.out _ _ _ _ _ HC.out HD.out).mono ?_); rintro e w4 ⟨rfl, hb⟩; have B := Lib.hid (B.out.trans (hb.mono B.out.size)); have HC := Lib.hid (HC.out.bel hb); clear hb)
        | (go_at_call 13; (with_reducible refine (CI.out _).mono ?_); rintro e w4 ⟨rfl, rfl⟩)
        | (go_at_call 15; (with_reducible refine (CJ.out _).mono ?_); rintro e w4 ⟨rfl, rfl⟩))
      go_ret
      exact ⟨rfl, B.out⟩
/-- A part that isn't turned is moved alone. -/
theorem mvA_still (g dx dy x y : Int) (h : (mvA (g, dx, dy, 16384, 0, 0, 16384) x y).2.2 = 0) : (mvA (g, dx, dy, 16384, 0, 0, 16384) x y).1 = x + dx ∧ (mvA (g, dx, dy, 16384, 0, 0, 16384) x y).2.1 = y + dy ∧ (-100000 ≤ x + dx ∧ x + dx ≤ 100000) ∧ (-100000 ≤ y + dy ∧ y + dy ≤ 100000) := by
  have r1 : rn (16384 * x + 0 * y) = x := by unfold rn; rw [Int.zero_mul]; omega
  have r2 : rn (0 * x + 16384 * y) = y := by unfold rn; rw [Int.zero_mul]; omega
  have e : mvR (g, dx, dy, 16384, 0, 0, 16384) x y = (x + dx, y + dy) := by
    show (rn (16384 * x + 0 * y) + dx, rn (0 * x + 16384 * y) + dy) = _
    rw [r1, r2]
  unfold mvA at h ⊢
  rw [e] at h ⊢
  by_cases c1 : ¬ (okP (g, dx, dy, 16384, 0, 0, 16384) 1024 ∧ okU x ∧ okU y)
  · rw [if_pos c1] at h; cases h
  rw [if_neg c1] at h ⊢
  by_cases c2 : ¬ (okU (x + dx, y + dy).1 ∧ okU (x + dx, y + dy).2)
  · rw [if_pos c2] at h; cases h
  rw [if_neg c2]
  obtain ⟨⟨h1, h2⟩, h3, h4⟩ := Classical.byContradiction c2
  have h1 : -32767 ≤ x + dx := h1
  have h2 : x + dx ≤ 32767 := h2
  have h3 : -32767 ≤ y + dy := h3
  have h4 : y + dy ≤ 32767 := h4
  exact ⟨rfl, rfl, ⟨by omega, by omega⟩, by omega, by omega⟩
set_option maxHeartbeats 8000000 in
set_option maxRecDepth 100000 in
theorem law_moves (g dx dy a b c d x y : Int) (w : World) : Calls Try.prog 5 #[.agg #[.int .i64 g, .int .i64 dx, .int .i64 dy, .int .i64 a, .int .i64 b, .int .i64 c, .int .i64 d], .int .i64 x, .int .i64 y] w fun e w' => e = .returned (.bool true) ∧ Below w.heap.size w w' := by
  have S0 := Lib.hid (MS.new w g dx dy a b c d)
  have CA := Lib.hid (fun W => awake_any W)
  have CM := Lib.hid (fun W => move_any g dx dy a b c d x y W)
  have CR := Lib.hid (fun W => rmove_any g dx dy a b c d x y W)
  have CN := Lib.hid (fun W => move_any g dx dy 16384 0 0 16384 x y W)
  have hst := mvA_still g dx dy x y
  obtain ⟨M, hM⟩ : ∃ M, M = mvA (g, dx, dy, a, b, c, d) x y := ⟨_, rfl⟩
  rw [← hM] at CM CR
  obtain ⟨M2, hM2⟩ : ∃ M, M = mvA (g, dx, dy, 16384, 0, 0, 16384) x y := ⟨_, rfl⟩
  rw [← hM2] at CN hst
  obtain ⟨r1, r2, E⟩ := M
  obtain ⟨s1, s2, F⟩ := M2
  dsimp only at CM CR CN hst
  by_cases hF : F = 0
  · obtain ⟨q1, q2, q3, q4⟩ := hst hF
    have p1 : IntKind.i64.wrap (x + dx) = s1 := by rw [q1]; exact i64_in _ (by omega)
    have p2 : IntKind.i64.wrap (y + dy) = s2 := by rw [q2]; exact i64_in _ (by omega)
    subst hF
    clear hst hM hM2 q1 q2 q3 q4
    go_enter Try.func5, Try.ntmps5
    go_upto_region 7 with (first
      | (go_at_call 6; (with_reducible refine (CA.out _).mono ?_); rintro e w1 ⟨rfl, hb⟩; have S := Lib.hid (S0.out.next hb); clear hb; obtain ⟨c0, c1, c2, c3, c4, c5, c6⟩ := S.out.cells)
      | (go_at_call 16; (with_reducible refine (CM.out _).mono ?_); rintro e w2 ⟨rfl, hb⟩; have S := Lib.hid (S.out.next hb); clear hb; obtain ⟨c0, c1, c2, c3, c4, c5, c6⟩ := S.out.cells)
      | (go_at_call 17; (with_reducible refine (CR.out _).mono ?_); rintro e w3 ⟨rfl, hb⟩; have S := Lib.hid (S.out.next hb); clear hb; obtain ⟨c0, c1, c2, c3, c4, c5, c6⟩ := S.out.cells))
    obtain ⟨_, _, _, f3, f4, f5, f6⟩ := S.out.box.frs
    have S4 := Lib.hid (show MS w ((((w3.setCell ⟨w.heap.size, 3, none⟩ (.int .i64 16384)).setCell ⟨w.heap.size, 4, none⟩ (.int .i64 0)).setCell ⟨w.heap.size, 5, none⟩ (.int .i64 0)).setCell ⟨w.heap.size, 6, none⟩ (.int .i64 16384)) w.heap.size (g, dx, dy, 16384, 0, 0, 16384) from
      ⟨(((S.out.bel.setCell (p := ⟨w.heap.size, 3, none⟩) (Nat.le_refl _) (.int .i64 16384)).setCell (p := ⟨w.heap.size, 4, none⟩) (Nat.le_refl _) (.int .i64 0)).setCell (p := ⟨w.heap.size, 5, none⟩) (Nat.le_refl _) (.int .i64 0)).setCell (p := ⟨w.heap.size, 6, none⟩) (Nat.le_refl _) (.int .i64 16384),
        (((S.out.box.set3 16384).set4 0).set5 0).set6 16384⟩)
    go_upto_region 8 with fail
    generalize ((((w3.setCell ⟨w.heap.size, 3, none⟩ (.int .i64 16384)).setCell ⟨w.heap.size, 4, none⟩ (.int .i64 0)).setCell ⟨w.heap.size, 5, none⟩ (.int .i64 0)).setCell ⟨w.heap.size, 6, none⟩ (.int .i64 16384)) = W5 at S4 ⊢
    clear c0 c1 c2 c3 c4 c5 c6 f3 f4 f5 f6
    obtain ⟨c0, c1, c2, c3, c4, c5, c6⟩ := S4.out.cells
    dsimp only at c0 c1 c2 c3 c4 c5 c6
    go_wp2_with (go_at_call 16; (with_reducible refine (CN.out _).mono ?_); rintro e w6 ⟨rfl, hb⟩; have S6 := Lib.hid (S4.out.next hb); clear hb c0 c1 c2 c3 c4 c5 c6; obtain ⟨c0, c1, c2, c3, c4, c5, c6⟩ := S6.out.cells)
    go_ret
    exact ⟨rfl, S6.out.bel⟩
  · have e1 : (F != 0) = true := by simp [hF]
    clear hst hM hM2 hF
    go_enter Try.func5, Try.ntmps5
    go_upto_region 7 with (first
      | (go_at_call 6; (with_reducible refine (CA.out _).mono ?_); rintro e w1 ⟨rfl, hb⟩; have S := Lib.hid (S0.out.next hb); clear hb; obtain ⟨c0, c1, c2, c3, c4, c5, c6⟩ := S.out.cells)
      | (go_at_call 16; (with_reducible refine (CM.out _).mono ?_); rintro e w2 ⟨rfl, hb⟩; have S := Lib.hid (S.out.next hb); clear hb; obtain ⟨c0, c1, c2, c3, c4, c5, c6⟩ := S.out.cells)
      | (go_at_call 17; (with_reducible refine (CR.out _).mono ?_); rintro e w3 ⟨rfl, hb⟩; have S := Lib.hid (S.out.next hb); clear hb; obtain ⟨c0, c1, c2, c3, c4, c5, c6⟩ := S.out.cells))
    obtain ⟨_, _, _, f3, f4, f5, f6⟩ := S.out.box.frs
    have S4 := Lib.hid (show MS w ((((w3.setCell ⟨w.heap.size, 3, none⟩ (.int .i64 16384)).setCell ⟨w.heap.size, 4, none⟩ (.int .i64 0)).setCell ⟨w.heap.size, 5, none⟩ (.int .i64 0)).setCell ⟨w.heap.size, 6, none⟩ (.int .i64 16384)) w.heap.size (g, dx, dy, 16384, 0, 0, 16384) from
      ⟨(((S.out.bel.setCell (p := ⟨w.heap.size, 3, none⟩) (Nat.le_refl _) (.int .i64 16384)).setCell (p := ⟨w.heap.size, 4, none⟩) (Nat.le_refl _) (.int .i64 0)).setCell (p := ⟨w.heap.size, 5, none⟩) (Nat.le_refl _) (.int .i64 0)).setCell (p := ⟨w.heap.size, 6, none⟩) (Nat.le_refl _) (.int .i64 16384),
        (((S.out.box.set3 16384).set4 0).set5 0).set6 16384⟩)
    go_upto_region 8 with fail
    generalize ((((w3.setCell ⟨w.heap.size, 3, none⟩ (.int .i64 16384)).setCell ⟨w.heap.size, 4, none⟩ (.int .i64 0)).setCell ⟨w.heap.size, 5, none⟩ (.int .i64 0)).setCell ⟨w.heap.size, 6, none⟩ (.int .i64 16384)) = W5 at S4 ⊢
    clear c0 c1 c2 c3 c4 c5 c6 f3 f4 f5 f6
    obtain ⟨c0, c1, c2, c3, c4, c5, c6⟩ := S4.out.cells
    dsimp only at c0 c1 c2 c3 c4 c5 c6
    go_wp2_with (go_at_call 16; (with_reducible refine (CN.out _).mono ?_); rintro e w6 ⟨rfl, hb⟩; have S6 := Lib.hid (S4.out.next hb); clear hb c0 c1 c2 c3 c4 c5 c6; obtain ⟨c0, c1, c2, c3, c4, c5, c6⟩ := S6.out.cells)
    go_ret
    exact ⟨rfl, S6.out.bel⟩
end Go.Proofs.Ytbmeamhpmahlgaa
