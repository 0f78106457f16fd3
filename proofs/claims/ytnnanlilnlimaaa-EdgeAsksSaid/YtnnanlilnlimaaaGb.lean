/- Proved here: what the laws EdgeMakes and EdgeAsks answer, over memory. Condition: contours, and edges, that lie in memory. -/
import Derived.Test.YtnnanlilnlimaaaEp
import Derived.Test.YtnnanlilnlimaaaGa
namespace Go.Proofs.Ytnnanlilnlimaaa
open Go.RowKit

theorem EdP_len (LL : List (List Pt)) (px : Int) : (EdP LL px).2.length ≤ 8192 := by
  unfold EdP
  by_cases h : okEd LL px
  · have := (EdP_may (LL := LL) (px := px) (by unfold EdP; rw [if_pos h])).1
    unfold EdP at this
    rw [if_pos h] at this ⊢
    exact this
  · rw [if_neg h]; exact Nat.zero_le _
set_option maxHeartbeats 8000000 in
set_option maxRecDepth 100000 in
theorem law_makes (A : Option Addr) (m c : Nat) (LL : List (List Pt)) (px : Int) (w : World) (hP : Ctl w A m LL) (hmx : m ≤ maxLen) : Calls Try.prog 3 #[.slice A m c, .int .i64 px] w fun e w' => e = .returned (.bool true) ∧ Below w.heap.size w w' := by
  have hlen := hP.len
  have CA := Lib.hid (awake_any w)
  have CF := Lib.hid (fun W (hb : Below w.heap.size w W) => few_any A m c LL W (hP.bel hb) hmx)
  by_cases hF : FewC LL
  rotate_left
  · rw [decide_eq_false hF] at CF
    clear hP hF hlen
    go_enter Try.func3, Try.ntmps3
    go_wp2_with (first
      | (go_at_call 6; (with_reducible refine CA.out.mono ?_); rintro e w1 ⟨rfl, hb⟩; have B := Lib.hid hb; clear hb)
      | (go_at_call 7; (with_reducible refine (CF.out _ B.out).mono ?_); rintro e w1 ⟨rfl, hb⟩; have B := Lib.hid (B.out.trans (hb.mono B.out.size)); clear hb))
    go_ret
    exact ⟨rfl, B.out⟩
  rw [decide_eq_true hF] at CF
  have hm : m ≤ 20 := by have := hF.2; omega
  have hl : ∀ i, i < m → (ct LL i).length ≤ 5000 := fun i hi => by have := hF.1 i (by omega); omega
  have CE := Lib.hid (fun W (hb : Below w.heap.size w W) => edges_any A m c LL px W (hP.bel hb) (by omega) hl)
  have CR := Lib.hid (fun W (hb : Below w.heap.size w W) => redges_any A m c LL px W (hP.bel hb) (by omega) hl)
  have hl8 := EdP_len LL px
  have hmy := @EdP_may LL px
  obtain ⟨R, hR⟩ : ∃ R, R = EdP LL px := ⟨_, rfl⟩
  rw [← hR] at CE CR hl8 hmy
  obtain ⟨E, L⟩ := R
  dsimp only at hl8 hmy
  have CS := Lib.hid (fun A1 A2 k1 k2 c1 c2 (W : World) (h1 : Edl W A1 k1 L) (h2 : Edl W A2 k2 L) => show Calls Try.prog 10 #[.slice A1 k1 c1, .slice A2 k2 c2] W fun e w' => e = .returned (.bool true) ∧ Below W.heap.size W w' from by
    have h := esame_any A1 A2 k1 k2 c1 c2 L L W h1 h2 (by have := h1.len; omega) (by have := h2.len; omega)
    rw [decide_eq_true rfl] at h
    exact h)
  by_cases hE : E = 0
  · subst hE
    have hM := hmy rfl
    have CM := Lib.hid (fun A1 k1 c1 (W : World) (h1 : Edl W A1 k1 L) => show Calls Try.prog 11 #[.slice A1 k1 c1] W fun e w' => e = .returned (.bool true) ∧ Below W.heap.size W w' from by
      have h := pmay_any A1 k1 c1 L W h1 (by have := h1.len; omega)
      rw [(mayB_iff L).2 hM] at h
      exact h)
    have CC := Lib.hid (fun A1 k1 c1 (W : World) (h1 : Edl W A1 k1 L) => show Calls Try.prog 12 #[.slice A1 k1 c1] W fun e w' => e = .returned (.bool true) ∧ Below W.heap.size W w' from by
      have h := pclosed_any A1 k1 c1 L W h1 (by have := h1.len; omega)
      rw [(closed_iff L).2 hM.2.2] at h
      exact h)
    clear hP hlen hF hl hl8 hmy hR hM
    go_enter Try.func3, Try.ntmps3
    go_wp2_with (first
      | (go_at_call 6; (with_reducible refine CA.out.mono ?_); rintro e w1 ⟨rfl, hb⟩; have B := Lib.hid hb; clear hb)
      | (go_at_call 7; (with_reducible refine (CF.out _ B.out).mono ?_); rintro e w1 ⟨rfl, hb⟩; have B := Lib.hid (B.out.trans (hb.mono B.out.size)); clear hb)
      | (go_at_call 8; (with_reducible refine (CE.out _ B.out).mono ?_); rintro e w1 ⟨A1, k1, c1, rfl, hC, hb⟩; have B := Lib.hid (B.out.trans (hb.mono B.out.size)); have HC1 := Lib.hid hC; clear hb hC)
      | (go_at_call 9; (with_reducible refine (CR.out _ B.out).mono ?_); rintro e w1 ⟨A2, k2, c2, rfl, hC, hb⟩; have B := Lib.hid (B.out.trans (hb.mono B.out.size)); have HC2 := Lib.hid hC; have HC1 := Lib.hid (HC1.out.bel hb); clear hb hC)
      | (go_at_call 10; (with_reducible refine (CS.out _ _ _ _ _ _ _ HC1.out HC2.out).mono ?_); rintro e w1 ⟨rfl, hb⟩; have B := Lib.hid (B.out.trans (hb.mono B.out.size)); have HC1 := Lib.hid (HC1.out.bel hb); clear hb)
      | (go_at_call 11; (with_reducible refine (CM.out _ _ _ _ HC1.out).mono ?_); rintro e w1 ⟨rfl, hb⟩; have B := Lib.hid (B.out.trans (hb.mono B.out.size)); have HC1 := Lib.hid (HC1.out.bel hb); clear hb)
      | (go_at_call 12; (with_reducible refine (CC.out _ _ _ _ HC1.out).mono ?_); rintro e w1 ⟨rfl, hb⟩; have B := Lib.hid (B.out.trans (hb.mono B.out.size)); clear hb))
    go_ret
    exact ⟨rfl, B.out⟩
  · have e0 : (E != 0) = true := by simp [hE]
    have e1 : (E == E) = true := by simp
    clear hP hlen hF hl hl8 hmy hR hE
    go_enter Try.func3, Try.ntmps3
    go_wp2_with (first
      | (go_at_call 6; (with_reducible refine CA.out.mono ?_); rintro e w1 ⟨rfl, hb⟩; have B := Lib.hid hb; clear hb)
      | (go_at_call 7; (with_reducible refine (CF.out _ B.out).mono ?_); rintro e w1 ⟨rfl, hb⟩; have B := Lib.hid (B.out.trans (hb.mono B.out.size)); clear hb)
      | (go_at_call 8; (with_reducible refine (CE.out _ B.out).mono ?_); rintro e w1 ⟨A1, k1, c1, rfl, hC, hb⟩; have B := Lib.hid (B.out.trans (hb.mono B.out.size)); have HC1 := Lib.hid hC; clear hb hC)
      | (go_at_call 9; (with_reducible refine (CR.out _ B.out).mono ?_); rintro e w1 ⟨A2, k2, c2, rfl, hC, hb⟩; have B := Lib.hid (B.out.trans (hb.mono B.out.size)); have HC2 := Lib.hid hC; have HC1 := Lib.hid (HC1.out.bel hb); clear hb hC)
      | (go_at_call 10; (with_reducible refine (CS.out _ _ _ _ _ _ _ HC1.out HC2.out).mono ?_); rintro e w1 ⟨rfl, hb⟩; have B := Lib.hid (B.out.trans (hb.mono B.out.size)); have HC1 := Lib.hid (HC1.out.bel hb); clear hb))
    go_ret
    exact ⟨rfl, B.out⟩
set_option maxHeartbeats 8000000 in
set_option maxRecDepth 100000 in
theorem law_asks (A : Option Addr) (m c : Nat) (L : List Edg) (w : World) (hP : Edl w A m L) (hmx : m ≤ maxLen) : Calls Try.prog 4 #[.slice A m c] w fun e w' => e = .returned (.bool true) ∧ Below w.heap.size w w' := by
  have CA := Lib.hid (awake_any w)
  unfold maxLen at hmx
  by_cases h6 : 60 < m
  · have e1 : decide (60 < (m : Int)) = true := decide_eq_true (by omega)
    clear hP
    go_enter Try.func4, Try.ntmps4
    go_wp2_with (go_at_call 6; (with_reducible refine CA.out.mono ?_); rintro e w1 ⟨rfl, hb⟩; have B := Lib.hid hb; clear hb)
    go_ret
    exact ⟨rfl, B.out⟩
  have e1 : decide (60 < (m : Int)) = false := decide_eq_false (by omega)
  have CB := Lib.hid (fun W (hb : Below w.heap.size w W) => pbox_any A m c L W (hP.bel hb) (by omega))
  have CR := Lib.hid (fun W (hb : Below w.heap.size w W) => rbox_any A m c L W (hP.bel hb) (by omega))
  have CC := Lib.hid (fun W (hb : Below w.heap.size w W) => pclosed_any A m c L W (hP.bel hb) (by omega))
  have CD := Lib.hid (fun W (hb : Below w.heap.size w W) => closed_any A m c L W (hP.bel hb) (by omega))
  have CM := Lib.hid (fun W (hb : Below w.heap.size w W) => pmay_any A m c L W (hP.bel hb) (by omega))
  have CN := Lib.hid (fun W (hb : Below w.heap.size w W) => emay_any A m c L W (hP.bel hb) (by omega))
  obtain ⟨R, hR⟩ : ∃ R, R = boxP L := ⟨_, rfl⟩
  obtain ⟨q, hq⟩ : ∃ q, q = closed L := ⟨_, rfl⟩
  obtain ⟨y, hy⟩ : ∃ y, y = mayB L := ⟨_, rfl⟩
  rw [← hR] at CB CR
  rw [← hq] at CC CD
  rw [← hy] at CM CN
  obtain ⟨⟨lx, ly⟩, ⟨gx, gy⟩, o⟩ := R
  have s1 : (o == o) = true := by simp
  have s2 : (q == q) = true := by simp
  have s3 : (y == y) = true := by simp
  clear hP hR hq hy
  go_enter Try.func4, Try.ntmps4
  go_upto_region 5 with (go_at_call 6; (with_reducible refine CA.out.mono ?_); rintro e w1 ⟨rfl, hb⟩; have B := Lib.hid hb; clear hb)
  go_upto_region 6 with (go_at_call 13; (with_reducible refine (CB.out _ B.out).mono ?_); rintro e w2 ⟨he, hb⟩; subst he; have B2 := Lib.hid (B.out.trans (hb.mono B.out.size)); clear hb)
  have ha3 : Below w2.heap.size w2 ((w2.alloc (.cells #[.int .i64 lx, .int .i64 ly] 35)).alloc (.cells #[.int .i64 gx, .int .i64 gy] 35)) := ((Below.refl _ _).alloc (Nat.le_refl _) _).alloc (by simp) _
  have HP3 := Lib.hid (show Pbx ((w2.alloc (.cells #[.int .i64 lx, .int .i64 ly] 35)).alloc (.cells #[.int .i64 gx, .int .i64 gy] 35)) w2.heap.size (lx, ly) from (Pbx.new w2 (lx, ly)).bel ((Below.refl _ _).alloc (Nat.le_refl _) _))
  have HQ3 := Lib.hid (show Pbx ((w2.alloc (.cells #[.int .i64 lx, .int .i64 ly] 35)).alloc (.cells #[.int .i64 gx, .int .i64 gy] 35)) (w2.heap.size + 1) (gx, gy) from by
    have h := Pbx.new (w2.alloc (.cells #[.int .i64 lx, .int .i64 ly] 35)) (gx, gy)
    rw [size_a] at h
    exact h)
  have HB3 := Lib.hid (B2.out.trans (ha3.mono B2.out.size))
  obtain ⟨b, hb⟩ : ∃ b, b = w2.heap.size := ⟨_, rfl⟩
  obtain ⟨W3, hW3⟩ : ∃ W, W = (w2.alloc (.cells #[.int .i64 lx, .int .i64 ly] 35)).alloc (.cells #[.int .i64 gx, .int .i64 gy] 35) := ⟨_, rfl⟩
  rw [← hW3] at HP3 HQ3 HB3 ⊢
  rw [← hb] at HP3 HQ3 ⊢
  clear ha3 hb hW3
  go_upto_region 7 with (go_at_call 14; (with_reducible refine (CR.out _ HB3.out).mono ?_); rintro e w4 ⟨he, hb⟩; subst he; have B4 := Lib.hid (HB3.out.trans (hb.mono HB3.out.size)); have HP4 := Lib.hid (HP3.out.bel hb); have HQ4 := Lib.hid (HQ3.out.bel hb); clear hb)
  have ha5 : Below w4.heap.size w4 ((w4.alloc (.cells #[.int .i64 lx, .int .i64 ly] 35)).alloc (.cells #[.int .i64 gx, .int .i64 gy] 35)) := ((Below.refl _ _).alloc (Nat.le_refl _) _).alloc (by simp) _
  have HR5 := Lib.hid (show Pbx ((w4.alloc (.cells #[.int .i64 lx, .int .i64 ly] 35)).alloc (.cells #[.int .i64 gx, .int .i64 gy] 35)) w4.heap.size (lx, ly) from (Pbx.new w4 (lx, ly)).bel ((Below.refl _ _).alloc (Nat.le_refl _) _))
  have HS5 := Lib.hid (show Pbx ((w4.alloc (.cells #[.int .i64 lx, .int .i64 ly] 35)).alloc (.cells #[.int .i64 gx, .int .i64 gy] 35)) (w4.heap.size + 1) (gx, gy) from by
    have h := Pbx.new (w4.alloc (.cells #[.int .i64 lx, .int .i64 ly] 35)) (gx, gy)
    rw [size_a] at h
    exact h)
  have HP5 := Lib.hid (HP4.out.bel ha5)
  have HQ5 := Lib.hid (HQ4.out.bel ha5)
  have HB5 := Lib.hid (B4.out.trans (ha5.mono B4.out.size))
  obtain ⟨d, hd⟩ : ∃ b, b = w4.heap.size := ⟨_, rfl⟩
  obtain ⟨W5, hW5⟩ : ∃ W, W = (w4.alloc (.cells #[.int .i64 lx, .int .i64 ly] 35)).alloc (.cells #[.int .i64 gx, .int .i64 gy] 35) := ⟨_, rfl⟩
  rw [← hW5] at HP5 HQ5 HR5 HS5 HB5 ⊢
  rw [← hd] at HR5 HS5 ⊢
  clear ha5 hd hW5
  obtain ⟨c0, c1, _, _⟩ := HP5.out.cells
  obtain ⟨d0, d1, _, _⟩ := HQ5.out.cells
  obtain ⟨f0, f1, _, _⟩ := HR5.out.cells
  obtain ⟨g0, g1, _, _⟩ := HS5.out.cells
  dsimp only at c0 c1 d0 d1 f0 f1 g0 g1
  go_wp2_with (first
    | (go_at_call 12; (with_reducible refine (CC.out _ HB5.out).mono ?_); rintro e w6 ⟨rfl, hb⟩; have B6 := Lib.hid (HB5.out.trans (hb.mono HB5.out.size)); clear hb)
    | (go_at_call 15; (with_reducible refine (CD.out _ B6.out).mono ?_); rintro e w7 ⟨rfl, hb⟩; have B7 := Lib.hid (B6.out.trans (hb.mono B6.out.size)); clear hb)
    | (go_at_call 11; (with_reducible refine (CM.out _ B7.out).mono ?_); rintro e w8 ⟨rfl, hb⟩; have B8 := Lib.hid (B7.out.trans (hb.mono B7.out.size)); clear hb)
    | (go_at_call 16; (with_reducible refine (CN.out _ B8.out).mono ?_); rintro e w9 ⟨rfl, hb⟩; have B9 := Lib.hid (B8.out.trans (hb.mono B8.out.size)); clear hb))
  go_ret
  exact ⟨rfl, B9.out⟩
end Go.Proofs.Ytnnanlilnlimaaa
