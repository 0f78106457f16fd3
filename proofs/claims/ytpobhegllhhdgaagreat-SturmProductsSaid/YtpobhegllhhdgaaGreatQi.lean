/- Proved here: what package poly's Without answers and leaves in memory. Condition: a polynomial of at most 100 numbers of at most 19999 digits, that lies in memory, and a fraction of 64 bits. -/
import Derived.Test.YtpobhegllhhdgaaGreatQh
namespace Go.Proofs.YtpobhegllhhdgaaGreat
open Go.RowKit

/-- How long a slice is. -/
def lenOf : Value → Nat
  | .slice _ m _ => m
  | _ => 0
/-- A polynomial without a root, and how often, is answered. -/
def WoE (K : Kd) (R : List Int × Nat) (l : Nat) (w : World) (e : Ending) (w' : World) : Prop :=
  ∃ A c, e = .returned (.tuple #[.slice A R.1.length c, .int .i64 (R.2 : Int), .int .i64 0]) ∧ Pol K w' (.slice A R.1.length c) R.1 l ∧ Below w.heap.size w w'
theorem wo_next {n d : Int} (hm : Maybe n d) {P : List Int} (hc : Cf P) (h0 : 0 < P.length) (h : hor n d P = 0) :
    1 < P.length ∧ Cf (syn n d (P.drop 1)) ∧ (syn n d (P.drop 1)).length + 1 = P.length ∧ woP n d P = ((woP n d (syn n d (P.drop 1))).1, (woP n d (syn n d (P.drop 1))).2 + 1) := by
  have h1 : 1 < P.length := by
    rcases P with _ | ⟨c, _ | ⟨c2, cs⟩⟩
    · simp at h0
    · exfalso
      refine hor_one (n := n) (d := d) (c := c) ?_ h
      have := cf_top hc (by simp)
      simpa [co] using this
    · simp
  refine ⟨h1, ?_, by rw [syn_len, List.length_drop]; omega, woP_step h h1⟩
  have e := drop_cons (T := P) (k := 0) h0
  rw [List.drop_zero] at e
  rw [e] at h
  refine syn_cf ((root_iff hm.1 hm.2 _ _).1 h).1 (.inr ?_)
  rw [co_drop, List.length_drop, show 0 + 1 + (P.length - (0 + 1) - 1) = P.length - 1 by omega]
  exact cf_top hc h0
set_option maxRecDepth 100000 in
theorem pwo_no (v : Value) (n d : Int) (w : World) (hn : Fit n) (hd : Fit d) (hm : ¬ Maybe n d) :
    Calls Tryz.prog 81 #[v, .agg #[.int .i64 n, .int .i64 d]] w fun e w' => e = .returned (.tuple #[.slice none 0 0, .int .i64 0, .int .i64 1]) ∧ Below w.heap.size w w' := by
  have hmd : decide (Maybe n d) = false := decide_eq_false hm
  have HM := Lib.hid (fun W => p_may n d W hn hd)
  rw [hmd] at HM
  have HB := Lib.hid (show Rt (w.alloc (.cells #[.int .i64 n, .int .i64 d] 24)) w.heap.size n d ∧ Below w.heap.size w (w.alloc (.cells #[.int .i64 n, .int .i64 d] 24)) from ⟨Rt.new w n d, bel_a _ _⟩)
  obtain ⟨f0, f1⟩ := rt_facts HB.out.1
  clear hm hmd hn hd
  go_enter Tryz.func81, Tryz.ntmps81
  go_wp2_with (go_at_call 39; (with_reducible refine (HM.out _).mono ?_); rintro e w1 ⟨rfl, hb⟩; have HB := Lib.hid (bel_tr HB.out.2 hb); clear hb)
  go_ret3
  exact ⟨rfl, HB.out⟩
set_option maxRecDepth 100000 in
theorem pwo_zero (A : Option Addr) (m c : Nat) (L : List Int) (l : Nat) (n d : Int) (w : World) (h : Pol .a w (.slice A m c) L l) (hm : m ≤ 1000) (hl : l ≤ 50000) (hn : Fit n) (hd : Fit d) (hmb : Maybe n d) (h0 : trz L = []) :
    Calls Tryz.prog 81 #[.slice A m c, .agg #[.int .i64 n, .int .i64 d]] w fun e w' => e = .returned (.tuple #[.slice none 0 0, .int .i64 0, .int .i64 13]) ∧ Below w.heap.size w w' := by
  have hmd : decide (Maybe n d) = true := decide_eq_true hmb
  have HM := Lib.hid (fun W => p_may n d W hn hd)
  rw [hmd] at HM
  have H := Lib.hid h
  have H0 := Lib.hid h0
  have HB := Lib.hid (show Rt (w.alloc (.cells #[.int .i64 n, .int .i64 d] 24)) w.heap.size n d ∧ Below w.heap.size w (w.alloc (.cells #[.int .i64 n, .int .i64 d] 24)) from ⟨Rt.new w n d, bel_a _ _⟩)
  obtain ⟨f0, f1⟩ := rt_facts HB.out.1
  clear h hmd hn hd hmb h0
  go_enter Tryz.func81, Tryz.ntmps81
  go_wp2_with (first
    | (go_at_call 39; (with_reducible refine (HM.out _).mono ?_); rintro e w1 ⟨rfl, hb⟩; have HB := Lib.hid (And.intro (HB.out.1.below hb HB.out.1.lt) (bel_tr HB.out.2 hb)); clear hb f0 f1; obtain ⟨f0, f1⟩ := rt_facts HB.out.1)
    | (go_at_call 67; (with_reducible refine (own_any A m c L l _ (H.out.bel HB.out.2) hm hl).mono ?_); rintro e w2 he; rw [H0.out] at he; obtain ⟨A', c', rfl, hP, hb⟩ := he; have HB2 := Lib.hid (bel_tr HB.out.2 hb); clear hb hP; try simp only [List.length_nil]))
  go_ret3
  exact ⟨rfl, HB2.out⟩
set_option maxRecDepth 100000 in
set_option maxHeartbeats 1000000 in
theorem pwo_yes (A : Option Addr) (m c : Nat) (L : List Int) (l : Nat) (n d : Int) (w : World) (h : Pol .a w (.slice A m c) L l) (hm : m ≤ 100) (hl : l ≤ 19999) (hn : Fit n) (hd : Fit d) (hmb : Maybe n d) (h0 : 0 < pl L) :
    Calls Tryz.prog 81 #[.slice A m c, .agg #[.int .i64 n, .int .i64 d]] w (WoE .c (woP n d (trz L)) (l + 30001) w) := by
  have hmd : decide (Maybe n d) = true := decide_eq_true hmb
  have HM := Lib.hid (fun W => p_may n d W hn hd)
  rw [hmd] at HM
  have H := Lib.hid h
  have HMB := Lib.hid hmb
  have hplm : pl L ≤ m := by rw [h.cap.1]; exact pl_le L
  have HB := Lib.hid (show Rt (w.alloc (.cells #[.int .i64 n, .int .i64 d] 24)) w.heap.size n d ∧ Below w.heap.size w (w.alloc (.cells #[.int .i64 n, .int .i64 d] 24)) from ⟨Rt.new w n d, bel_a _ _⟩)
  obtain ⟨f0, f1⟩ := rt_facts HB.out.1
  obtain ⟨T, hT⟩ : ∃ T, T = trz L := ⟨_, rfl⟩
  have HT := Lib.hid hT
  have hTl : T.length = pl L := by rw [hT, trz_len]
  have hTc : Cf T := by rw [hT]; exact cf_trz L
  rw [← hT]
  have HC := Lib.hid hTc
  obtain ⟨x, hx⟩ : ∃ x, x = T.length := ⟨_, rfl⟩
  have HXT := Lib.hid hx
  have hx0 : 0 < x := by omega
  have hxm : x ≤ m := by omega
  have hxz : ((x : Int) == 0) = false := by simp; omega
  clear h hmd hmb hT hTc h0 hTl hplm hx
  go_enter Tryz.func81, Tryz.ntmps81
  go_wp2_with (first
    | (go_at_call 39; (with_reducible refine (HM.out _).mono ?_); rintro e w1 ⟨rfl, hb⟩; have HB := Lib.hid (And.intro (HB.out.1.below hb HB.out.1.lt) (bel_tr HB.out.2 hb)); clear hb f0 f1; obtain ⟨f0, f1⟩ := rt_facts HB.out.1)
    | (go_at_call 67; (with_reducible refine (own_any A m c L l _ (H.out.bel HB.out.2) (by omega) (by omega)).mono ?_); rintro e w2 he; rw [← HT.out] at he; obtain ⟨A', c', rfl, hP, hb⟩ := he; rw [← HXT.out] at hP ⊢; have HB := Lib.hid (And.intro (HB.out.1.below hb HB.out.1.lt) (bel_tr HB.out.2 hb)); have HP := Lib.hid hP; clear hb hP f0 f1; obtain ⟨f0, f1⟩ := rt_facts HB.out.1))
  go_loopw [0, 7] (fun p t wr => ∃ (P : List Int) (k : Nat) (A1 : Option Addr) (c1 y : Nat), p = .slice A1 y c1 ∧ t = .int .i64 (k : Int) ∧ y = P.length ∧ Pol .c wr (.slice A1 y c1) P (l + 1 + 300 * (x - y)) ∧ Cf P ∧ 0 < y ∧ y ≤ x ∧ k ≤ x - y ∧
    woP n d T = ((woP n d P).1, (woP n d P).2 + k) ∧ Below w.heap.size w wr ∧ Rt wr w.heap.size n d) (fun p _ _ => lenOf p)
  case atStart => exact ⟨T, 0, A', c', x, rfl, rfl, HXT.out, HP.out.le (by omega), HC.out, hx0, Nat.le_refl _, Nat.zero_le _, rfl, HB.out.2, HB.out.1⟩
  case round =>
    obtain ⟨P, k, A1, c1, y, rfl, rfl, hy, hP, hC, hy0, hyx, hkx, hw, hb, hr⟩ := hrel
    have HY := Lib.hid (And.intro hy (And.intro hC hw))
    have HP := Lib.hid hP
    have HB := Lib.hid (And.intro hr hb)
    clear hy hC hw hP hb hr f0 f1
    obtain ⟨f0, f1⟩ := rt_facts HB.out.1
    by_cases hz : hor n d P = 0
    · have hdz : decide (hor n d P = 0) = true := decide_eq_true hz
      have HW := Lib.hid (wo_next HMB.out HY.out.2.1 (by rw [← HY.out.1]; exact hy0) hz)
      have HD := Lib.hid (fun W h => pdivide_any A1 y (y - 1) c1 P (l + 1 + 300 * (x - y)) n d W h (by omega) (by omega) (by omega) hn hd HMB.out)
      have HZ := Lib.hid hz
      clear hz
      go_wp2_with (go_at_call 106; (with_reducible refine (HD.out _ HP.out).mono ?_); rintro e w3 he; obtain ⟨A3, m3, c3, rfl, hb, hq⟩ := he; have HQ := Lib.hid (hq HZ.out); have HB := Lib.hid (And.intro (HB.out.1.below hb HB.out.1.lt) (bel_tr HB.out.2 hb)); rw [hdz]; clear hb hq)
      go_roundw
      case rel =>
        obtain ⟨h1, h2, h3, h4⟩ := HW.out
        have hm3 := HQ.out.cap.1
        have hy := HY.out.1
        exact ⟨syn n d (P.drop 1), k + 1, A3, c3, m3, rfl, by simp, hm3, HQ.out.le (by omega), h2, by omega, by omega, by omega, by rw [HY.out.2.2, h4]; simp; omega, HB.out.2, HB.out.1⟩
      case measure =>
        have hm3 := HQ.out.cap.1
        have hy := HY.out.1
        have h3 := HW.out.2.2.1
        simp [lenOf]
        omega
    · have hdz : decide (hor n d P = 0) = false := decide_eq_false hz
      have HD := Lib.hid (fun W h => pdivide_any A1 y (y - 1) c1 P (l + 1 + 300 * (x - y)) n d W h (by omega) (by omega) (by omega) hn hd HMB.out)
      have HZ := Lib.hid hz
      clear hz
      go_wp2_with (go_at_call 106; (with_reducible refine (HD.out _ HP.out).mono ?_); rintro e w3 he; obtain ⟨A3, m3, c3, rfl, hb, hq⟩ := he; have HP := Lib.hid (HP.out.bel hb); have HB := Lib.hid (And.intro (HB.out.1.below hb HB.out.1.lt) (bel_tr HB.out.2 hb)); rw [hdz]; clear hb hq)
      go_ret3
      have e1 := woP_stop (n := n) (d := d) (p := P) (fun h => HZ.out h.1)
      have e2 := HY.out.2.2
      rw [e1] at e2
      have hy := HY.out.1
      subst hy
      rw [e2]
      exact ⟨A1, c1, by simp, HP.out.le (by omega), HB.out.2⟩
end Go.Proofs.YtpobhegllhhdgaaGreat
