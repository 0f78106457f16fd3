/- Proved here: what package poly's Rest answers and leaves in memory. Condition: two polynomials of at most 100 numbers, of at most 1000 and 200 digits, that lie in memory. -/
import Derived.Test.YtpobhegllhhdgaaGreatQj
namespace Go.Proofs.YtpobhegllhhdgaaGreat
open Go.RowKit

/-- A polynomial and no error are answered. -/
def ReE (K : Kd) (R : List Int) (l : Nat) (w : World) (e : Ending) (w' : World) : Prop :=
  ∃ A c, e = .returned (.tuple #[.slice A R.length c, .int .i64 0]) ∧ Pol K w' (.slice A R.length c) R l ∧ Below w.heap.size w w'
set_option maxRecDepth 100000 in
theorem prest_zero (v : Value) (B : Option Addr) (m2 c2 : Nat) (M : List Int) (k : Nat) (w : World) (h' : Pol .a w (.slice B m2 c2) M k) (h0 : trz M = []) :
    Calls Tryz.prog 32 #[v, .slice B m2 c2] w fun e w' => e = .returned (.tuple #[.slice none 0 0, .int .i64 13]) ∧ Below w.heap.size w w' := by
  have H' := Lib.hid h'
  have H0 := Lib.hid (show pl M = 0 by rw [← trz_len, h0]; rfl)
  clear h' h0
  go_enter Tryz.func32, Tryz.ntmps32
  go_wp2_with (go_at_call 54; (with_reducible refine (trim_any B m2 c2 M k _ H'.out).mono ?_); rintro e w1 ⟨rfl, hb⟩; have HB := Lib.hid hb; rw [H0.out]; clear hb)
  go_ret2
  exact ⟨rfl, HB.out⟩
/-- Digits that a rest's steps add: K a step, as long as there is one to come. -/
def bt (K m y s : Nat) : Nat := K * (m - max y s)
theorem bt_start (K m s : Nat) : bt K m m s = 0 := by unfold bt; rw [show m - max m s = 0 by omega, Nat.mul_zero]
theorem bt_le (K m y s : Nat) : bt K m y s ≤ K * (m - s) := Nat.mul_le_mul_left K (by omega)
theorem bt_step {K m y s y' : Nat} (h1 : s < y) (h2 : y ≤ m) (h3 : y' < y) : bt K m y s + K ≤ bt K m y' s := by
  unfold bt
  rw [← Nat.mul_succ]
  exact Nat.mul_le_mul_left K (by omega)
set_option maxRecDepth 100000 in
set_option maxHeartbeats 1000000 in
theorem prest_yes (A B : Option Addr) (m c m2 c2 : Nat) (L M : List Int) (l k : Nat) (w : World) (h : Pol .a w (.slice A m c) L l) (h' : Pol .a w (.slice B m2 c2) M k) (hm : m ≤ 100) (hm2 : m2 ≤ 100) (hl : l + 1 + (k + 1) * (pl L + 1 - pl M) ≤ 50000) (hk : k ≤ 40000) (h0 : 0 < pl M) :
    Calls Tryz.prog 32 #[.slice A m c, .slice B m2 c2] w (ReE .c (restP (trz L) (trz M)) (l + 1 + (k + 1) * (pl L + 1 - pl M)) w) := by
  obtain ⟨y2, hy2⟩ : ∃ y2, pl M = y2 + 1 := ⟨pl M - 1, by omega⟩
  obtain ⟨S, hS⟩ : ∃ S, S = (k + 1) * (pl L + 1 - pl M) := ⟨_, rfl⟩
  rw [← hS] at hl ⊢
  have HBS := Lib.hid (show ∀ y, bt (k + 1) (pl L) y y2 ≤ S from fun y => by rw [hS, hy2, show pl L + 1 - (y2 + 1) = pl L - y2 by omega]; exact bt_le _ _ _ _)
  clear hS
  have H := Lib.hid h
  have hQ := h'.trz
  obtain ⟨Q, hq⟩ : ∃ Q, Q = trz M := ⟨_, rfl⟩
  obtain ⟨z, hz⟩ : ∃ z, z = pl M := ⟨_, rfl⟩
  obtain ⟨T, hT⟩ : ∃ T, T = trz L := ⟨_, rfl⟩
  obtain ⟨x, hx⟩ : ∃ x, x = T.length := ⟨_, rfl⟩
  have hxm : x ≤ m := by rw [hx, hT, trz_len, h.cap.1]; exact pl_le L
  have HZY := Lib.hid (show z = y2 + 1 by omega)
  have hxL : x = pl L := by rw [hx, hT, trz_len]
  rw [← hxL] at HBS
  have hzm : z ≤ m2 := by rw [hz, h'.cap.1]; exact pl_le M
  have HZ := Lib.hid (And.intro hz (show z = Q.length by rw [hq, trz_len, hz]))
  rw [← hq, ← hz] at hQ
  rw [← hq, ← hT]
  have HQ := Lib.hid hQ
  have H' := Lib.hid h'
  have HT := Lib.hid (And.intro hT hx)
  have hz0 : 0 < z := by omega
  have hzz : ((z : Int) == 0) = false := by simp; omega
  clear h h' h0 hQ hq hz hT hx hy2 hxL
  go_enter Tryz.func32, Tryz.ntmps32
  go_wp2_with (first
    | (go_at_call 54; (with_reducible refine (trim_any B m2 c2 M k _ H'.out).mono ?_); rintro e w1 ⟨rfl, hb⟩; have HB := Lib.hid hb; rw [← HZ.out.1]; clear hb)
    | (go_at_call 67; (with_reducible refine (own_any A m c L l _ (H.out.bel HB.out) (by omega) (by omega)).mono ?_); rintro e w2 he; rw [← HT.out.1] at he; obtain ⟨A', c', rfl, hP, hb⟩ := he; rw [← HT.out.2] at hP ⊢; have HB := Lib.hid (bel_tr HB.out hb); have HP := Lib.hid hP; clear hb hP))
  go_loopw [0] (fun p wr => ∃ (P : List Int) (A1 : Option Addr) (c1 y : Nat), p = .slice A1 y c1 ∧ y = P.length ∧ Pol .c wr (.slice A1 y c1) P (l + 1 + bt (k + 1) x y y2) ∧ y ≤ x ∧ restP T Q = restP P Q ∧ Below w.heap.size w wr) (fun p _ => lenOf p)
  case atStart => exact ⟨T, A', c', x, rfl, HT.out.2, HP.out.le (by omega), Nat.le_refl _, rfl, HB.out⟩
  case round =>
    obtain ⟨P, A1, c1, y, rfl, hy, hP, hyx, hr, hb⟩ := hrel
    have HY := Lib.hid (And.intro hy hr)
    have HP := Lib.hid hP
    have HB := Lib.hid hb
    clear hy hr hP hb
    have hbs := HBS.out y
    by_cases hge : z ≤ y
    · have HD := Lib.hid (fun W h h' => plow_any A1 B y c1 z c2 (y - 1) (z - 1) (y - z) P Q (l + 1 + bt (k + 1) x y y2) k W h h' (by omega) (by omega) (by omega) (by omega) (by omega) (by omega))
      have HS := Lib.hid (show restP P Q = restP (stepR P Q) Q ∧ (stepR P Q).length < y from by
        have e1 := HZ.out.2
        have e2 := HY.out.1
        exact ⟨restP_step (by omega) (by omega), by have := stepR_len P Q; omega⟩)
      go_wp2_with (go_at_call 68; (with_reducible refine (HD.out _ HP.out (HQ.out.bel HB.out)).mono ?_); rintro e w3 he; obtain ⟨A3, c3, rfl, hq, hb⟩ := he; have HQ3 := Lib.hid hq; have HB := Lib.hid (bel_tr HB.out hb); clear hq hb)
      have hs1 := HS.out.2
      exact ⟨⟨stepR P Q, A3, c3, (stepR P Q).length, rfl, rfl, HQ3.out.le (by have := bt_step (K := k + 1) (m := x) (y := y) (s := y2) (y' := (stepR P Q).length) (by have := HZY.out; omega) (by omega) (by omega); omega), by omega, HY.out.2.trans HS.out.1, HB.out⟩, by simp [lenOf]; omega⟩
    · go_wp2_with fail
      go_ret2
      have hy := HY.out.1
      have e1 := HZ.out.2
      rw [HY.out.2, restP_stop (by omega)]
      subst hy
      exact ⟨A1, c1, rfl, HP.out.le (by omega), HB.out⟩
end Go.Proofs.YtpobhegllhhdgaaGreat
