/- Proved here: what the laws GlyfBack and GlyfAny answer, over memory. Condition: contours that lie in memory; a text of at most a billion bytes. -/
import Derived.Test.YtcpphbogadjgfaaWa
import Derived.Test.YtcpphbogadjgfaaUd
import Derived.Test.YtcpphbogadjgfaaSb
namespace Go.Proofs.Ytcpphbogadjgfaa
open Go.RowKit

theorem MayG.lens {LL : List (List Pt)} (h : MayG LL) : LL.length ≤ 256 ∧ ∀ i, i < LL.length → (ct LL i).length ≤ 4096 := ⟨h.1, fun i hi => by
  have := (h.2 i hi).1.2
  simp only [tot] at this
  omega⟩
set_option maxHeartbeats 8000000 in
set_option maxRecDepth 100000 in
theorem law_back (A : Option Addr) (m c : Nat) (LL : List (List Pt)) (w : World) (hP : Ctl w A m LL) (hm : m < 9223372036854775808) : Calls Try.prog 3 #[.slice A m c] w fun e w' => e = .returned (.bool true) ∧ Below w.heap.size w w' := by
  have CA := Lib.hid (awake_any w)
  have CF := Lib.hid (fun (W : World) (hb : Below w.heap.size w W) => few_any A m c LL W (hP.bel hb) hm)
  by_cases hF : FewG LL
  · rw [decide_eq_true hF] at CF
    have hlen := hP.len
    have hm2 : m ≤ 20 := by have := hF.2; omega
    have hl : ∀ i, i < m → (ct LL i).length ≤ 5000 := fun i hi => by have := hF.1 i (by omega); omega
    have CM := Lib.hid (fun (W : World) (hb : Below w.heap.size w W) => make_any A m c LL W (hP.bel hb) (by omega) hl)
    have CR := Lib.hid (fun (W : World) (hb : Below w.heap.size w W) => rmake_any A m c LL W (hP.bel hb) (by omega) hl)
    have CY := Lib.hid (fun (W : World) (hb : Below w.heap.size w W) => may_any A m c LL W (hP.bel hb) (by omega) hl)
    have CZ := Lib.hid (fun (W : World) (hb : Below w.heap.size w W) => rmay_any A m c LL W (hP.bel hb) (by omega) hl)
    have hback := mk_back (LL := LL)
    have hsz : (mkB LL).length ≤ 1000000 := by
      unfold mkB
      split
      · rename_i h
        have h1 : tot LL LL.length ≤ 4096 := by
          obtain ⟨k, hk⟩ : ∃ k, LL.length = k + 1 := ⟨LL.length - 1, by have := h.2.1; omega⟩
          rw [hk]
          exact (h.1.2 k (by omega)).1.2
        have h2 := tpB_len h1
        have h3 := h.1.1
        simp only [List.length_append, u2_len, boxB_len, plc_len]
        omega
      · simp
    obtain ⟨D, hD⟩ : ∃ D : ByteArray, D = ⟨(mkB LL).toArray⟩ := ⟨_, rfl⟩
    have hDs : D.size ≤ 1000000 := by rw [hD]; show (mkB LL).toArray.size ≤ 1000000; rw [List.size_toArray]; exact hsz
    rw [← hD] at CM CR
    have hDl : D.data.toList = mkB LL := by rw [hD]
    rw [← hDl] at hback
    obtain ⟨E, hE⟩ : ∃ E, E = mkE LL := ⟨_, rfl⟩
    rw [← hE] at CM CR hback
    obtain ⟨bm, hbm⟩ : ∃ b, b = decide (MayG LL) := ⟨_, rfl⟩
    rw [← hbm] at CY CZ
    by_cases h0 : E = 0
    · have CP := Lib.hid (fun W => show Calls Try.prog 12 #[.string D] W fun e w' => ∃ A c, e = .returned (.tuple #[.slice A m c, .int .i64 0]) ∧ Ctl w' A m LL ∧ Below W.heap.size W w' from (parse_any D W (by omega)).mono fun e w' ⟨A, k, c, h1, h2, h3⟩ => by
        rw [hback h0] at h1 h2
        have hk : k = m := by rw [← h2.len]; exact hlen
        subst hk
        exact ⟨A, c, h1, h2, h3⟩)
      have CS := Lib.hid (fun (A2 : Option Addr) (c2 : Nat) (W : World) (hb : Below w.heap.size w W) (h2 : Ctl W A2 m LL) => same_any A2 A m c2 c LL W h2 (hP.bel hb) (by omega) (fun i hi => by have := hl i hi; omega))
      subst h0
      clear hP hm hF hlen hm2 hl hback hsz hD hDs hDl hE hbm
      go_enter Try.func3, Try.ntmps3
      go_wp2_with (first
        | (go_at_call 6; (with_reducible refine CA.out.mono ?_); rintro e w1 ⟨rfl, hb⟩; have B := Lib.hid hb; clear hb)
        | (go_at_call 7; (with_reducible refine (CF.out _ B.out).mono ?_); rintro e w2 ⟨rfl, rfl⟩)
        | (go_at_call 8; (with_reducible refine (CM.out _ B.out).mono ?_); rintro e w2 ⟨rfl, hb⟩; have B := Lib.hid (B.out.trans (hb.mono B.out.size)); clear hb)
        | (go_at_call 9; (with_reducible refine (CR.out _ B.out).mono ?_); rintro e w2 ⟨rfl, hb⟩; have B := Lib.hid (B.out.trans (hb.mono B.out.size)); clear hb)
        | (go_at_call 10; (with_reducible refine (CY.out _ B.out).mono ?_); rintro e w2 ⟨rfl, hb⟩; have B := Lib.hid (B.out.trans (hb.mono B.out.size)); clear hb)
        | (go_at_call 11; (with_reducible refine (CZ.out _ B.out).mono ?_); rintro e w2 ⟨rfl, hb⟩; have B := Lib.hid (B.out.trans (hb.mono B.out.size)); clear hb)
        | (go_at_call 12; (with_reducible refine (CP.out _).mono ?_); rintro e w2 ⟨A2, c2, rfl, hC, hb⟩; have B := Lib.hid (B.out.trans (hb.mono B.out.size)); have HC := Lib.hid hC; clear hC hb)
        | (go_at_call 13; (with_reducible refine (CS.out _ _ _ B.out HC.out).mono ?_); rintro e w2 ⟨rfl, hb⟩; have B := Lib.hid (B.out.trans (hb.mono B.out.size)); clear hb))
      go_ret
      exact ⟨rfl, B.out⟩
    · have e1 : (E != 0) = true := by simp [h0]
      clear hP hm hF hlen hm2 hl hback hsz hD hDs hDl hE hbm h0
      go_enter Try.func3, Try.ntmps3
      go_wp2_with (first
        | (go_at_call 6; (with_reducible refine CA.out.mono ?_); rintro e w1 ⟨rfl, hb⟩; have B := Lib.hid hb; clear hb)
        | (go_at_call 7; (with_reducible refine (CF.out _ B.out).mono ?_); rintro e w2 ⟨rfl, rfl⟩)
        | (go_at_call 8; (with_reducible refine (CM.out _ B.out).mono ?_); rintro e w2 ⟨rfl, hb⟩; have B := Lib.hid (B.out.trans (hb.mono B.out.size)); clear hb)
        | (go_at_call 9; (with_reducible refine (CR.out _ B.out).mono ?_); rintro e w2 ⟨rfl, hb⟩; have B := Lib.hid (B.out.trans (hb.mono B.out.size)); clear hb)
        | (go_at_call 10; (with_reducible refine (CY.out _ B.out).mono ?_); rintro e w2 ⟨rfl, hb⟩; have B := Lib.hid (B.out.trans (hb.mono B.out.size)); clear hb)
        | (go_at_call 11; (with_reducible refine (CZ.out _ B.out).mono ?_); rintro e w2 ⟨rfl, hb⟩; have B := Lib.hid (B.out.trans (hb.mono B.out.size)); clear hb))
      go_ret
      exact ⟨rfl, B.out⟩
  · rw [decide_eq_false hF] at CF
    clear hP hm hF
    go_enter Try.func3, Try.ntmps3
    go_wp2_with (first
      | (go_at_call 6; (with_reducible refine CA.out.mono ?_); rintro e w1 ⟨rfl, hb⟩; have B := Lib.hid hb; clear hb)
      | (go_at_call 7; (with_reducible refine (CF.out _ B.out).mono ?_); rintro e w2 ⟨rfl, rfl⟩))
    go_ret
    exact ⟨rfl, B.out⟩
set_option maxHeartbeats 8000000 in
set_option maxRecDepth 100000 in
theorem law_any (s : ByteArray) (w : World) : Calls Try.prog 4 #[.string s] w fun e w' => e = .returned (.bool true) ∧ Below w.heap.size w w' := by
  have CA := Lib.hid (awake_any w)
  by_cases hs : 1000 < s.size
  · go_enter Try.func4, Try.ntmps4
    go_wp2_with (go_at_call 6; (with_reducible refine CA.out.mono ?_); rintro e w1 ⟨rfl, hb⟩; have B := Lib.hid hb; clear hb)
    go_ret
    exact ⟨rfl, B.out⟩
  · have hmay := prs_may s.data.toList
    obtain ⟨hm, hl⟩ := hmay.lens
    have CP := Lib.hid (fun W => parse_any s W (by omega))
    have CQ := Lib.hid (fun W => rparse_any s W (by omega))
    obtain ⟨R, hR⟩ : ∃ R, R = prs s.data.toList := ⟨_, rfl⟩
    rw [← hR] at CP CQ hmay hm hl
    obtain ⟨E, LL⟩ := R
    simp only at hmay hm hl
    have CP2 := Lib.hid (fun W => show Calls Try.prog 12 #[.string s] W fun e w' => ∃ A c, e = .returned (.tuple #[.slice A LL.length c, .int .i64 E]) ∧ Ctl w' A LL.length LL ∧ Below W.heap.size W w' from (CP.out W).mono fun e w' ⟨A, k, c, h1, h2, h3⟩ => by
      have hk := h2.len
      simp only at hk h1 h2
      subst hk
      exact ⟨A, c, h1, h2, h3⟩)
    have CQ2 := Lib.hid (fun W => show Calls Try.prog 14 #[.string s] W fun e w' => ∃ A c, e = .returned (.tuple #[.slice A LL.length c, .int .i64 E]) ∧ Ctl w' A LL.length LL ∧ Below W.heap.size W w' from (CQ.out W).mono fun e w' ⟨A, k, c, h1, h2, h3⟩ => by
      have hk := h2.len
      simp only at hk h1 h2
      subst hk
      exact ⟨A, c, h1, h2, h3⟩)
    obtain ⟨n, hn⟩ : ∃ n, n = LL.length := ⟨_, rfl⟩
    rw [← hn] at CP2 CQ2 hm hl
    have CS := Lib.hid (fun (A A2 : Option Addr) (c c2 : Nat) (W : World) (h1 : Ctl W A n LL) (h2 : Ctl W A2 n LL) => same_any A A2 n c c2 LL W h1 h2 (by omega) (fun i hi => by have := hl i hi; omega))
    have CY := Lib.hid (fun (A : Option Addr) (c : Nat) (W : World) (h1 : Ctl W A n LL) => show Calls Try.prog 10 #[.slice A n c] W fun e w' => e = .returned (.bool true) ∧ Below W.heap.size W w' by
      have h := may_any A n c LL W h1 (by omega) (fun i hi => by have := hl i hi; omega)
      rw [decide_eq_true hmay] at h
      exact h)
    by_cases h0 : E = 0
    · subst h0
      clear hR CP CQ hmay hm hl hn
      go_enter Try.func4, Try.ntmps4
      go_wp2_with (first
        | (go_at_call 6; (with_reducible refine CA.out.mono ?_); rintro e w1 ⟨rfl, hb⟩; have B := Lib.hid hb; clear hb)
        | (go_at_call 12; (with_reducible refine (CP2.out _).mono ?_); rintro e w2 ⟨A1, c1, rfl, hC, hb⟩; have B := Lib.hid (B.out.trans (hb.mono B.out.size)); have HC := Lib.hid hC; clear hC hb)
        | (go_at_call 14; (with_reducible refine (CQ2.out _).mono ?_); rintro e w3 ⟨A2, c2, rfl, hC, hb⟩; have B := Lib.hid (B.out.trans (hb.mono B.out.size)); have HC := Lib.hid (HC.out.bel hb); have HD := Lib.hid hC; clear hC hb)
        | (go_at_call 13; (with_reducible refine (CS.out _ _ _ _ _ HC.out HD.out).mono ?_); rintro e w4 ⟨rfl, hb⟩; have B := Lib.hid (B.out.trans (hb.mono B.out.size)); have HC := Lib.hid (HC.out.bel hb); clear hb)
        | (go_at_call 10; (with_reducible refine (CY.out _ _ _ HC.out).mono ?_); rintro e w5 ⟨rfl, hb⟩; have B := Lib.hid (B.out.trans (hb.mono B.out.size)); clear hb))
      go_ret
      exact ⟨rfl, B.out⟩
    · have e1 : (E != 0) = true := by simp [h0]
      clear hR CP CQ hmay hm hl hn h0
      go_enter Try.func4, Try.ntmps4
      go_wp2_with (first
        | (go_at_call 6; (with_reducible refine CA.out.mono ?_); rintro e w1 ⟨rfl, hb⟩; have B := Lib.hid hb; clear hb)
        | (go_at_call 12; (with_reducible refine (CP2.out _).mono ?_); rintro e w2 ⟨A1, c1, rfl, hC, hb⟩; have B := Lib.hid (B.out.trans (hb.mono B.out.size)); have HC := Lib.hid hC; clear hC hb)
        | (go_at_call 14; (with_reducible refine (CQ2.out _).mono ?_); rintro e w3 ⟨A2, c2, rfl, hC, hb⟩; have B := Lib.hid (B.out.trans (hb.mono B.out.size)); have HC := Lib.hid (HC.out.bel hb); have HD := Lib.hid hC; clear hC hb)
        | (go_at_call 13; (with_reducible refine (CS.out _ _ _ _ _ HC.out HD.out).mono ?_); rintro e w4 ⟨rfl, hb⟩; have B := Lib.hid (B.out.trans (hb.mono B.out.size)); have HC := Lib.hid (HC.out.bel hb); clear hb))
      go_ret
      exact ⟨rfl, B.out⟩
end Go.Proofs.Ytcpphbogadjgfaa
