/- Proved here: what the laws FlatOutlines and FlatParses answer, over memory. Condition: shapes, and places, that lie in memory. -/
import Derived.Test.YtlfnagfcggmeaaaGc
namespace Go.Proofs.Ytlfnagfcggmeaaa
open Go.RowKit

theorem outA_bnd (SS : List Shp) (G : Int) : (outA SS G).2.length ≤ 256 ∧ ∀ i, i < (outA SS G).2.length → (ct (outA SS G).2 i).length ≤ 4096 := by
  unfold outA
  by_cases h : okG15 SS G
  · rw [if_pos h]
    have hb := goP_bnd h.1 false 9 G [] 0 (by omega) (by omega)
    by_cases h0 : (goP SS false 9 G [] 0).1 = 0
    · exact (hb.2 h0).2
    · show (goP SS false 9 G [] 0).2.1.length ≤ 256 ∧ _
      rw [(goP_nil SS false 8 G [] 0 h0).1]
      exact OutOk.nil
  · rw [if_neg h]
    exact OutOk.nil
set_option maxHeartbeats 8000000 in
set_option maxRecDepth 100000 in
theorem law_outlines (A : Option Addr) (m c : Nat) (SS : List Shp) (G : Int) (w : World) (hP : Shl w A m SS) : Calls Try.prog 3 #[.slice A m c, .int .i64 G] w fun e w' => e = .returned (.bool true) ∧ Below w.heap.size w w' := by
  have CA := Lib.hid (awake_any w)
  have CF := Lib.hid (fun W (hb : Below w.heap.size w W) => few_any A m c SS W (hP.bel hb))
  have hlen := hP.len
  by_cases hF : FewS SS
  rotate_left
  · rw [decide_eq_false hF] at CF
    clear hP hlen hF
    go_enter Try.func3, Try.ntmps3
    go_wp2_with (first
      | (go_at_call 6; (with_reducible refine CA.out.mono ?_); rintro e w1 ⟨rfl, hb⟩; have B := Lib.hid hb; clear hb)
      | (go_at_call 7; (with_reducible refine (CF.out _ B.out).mono ?_); rintro e w1 ⟨rfl, hb⟩; have B := Lib.hid (B.out.trans (hb.mono B.out.size)); clear hb))
    go_ret
    exact ⟨rfl, B.out⟩
  rw [decide_eq_true hF] at CF
  have hL := hF.lim
  have hm : m ≤ 20 := by rw [← hlen]; exact hF.1
  have CO := Lib.hid (fun W (hb : Below w.heap.size w W) => outline_any A m c SS G W (hP.bel hb) hL (by omega))
  have CR := Lib.hid (fun W (hb : Below w.heap.size w W) => routline_any A m c SS G W (hP.bel hb) hL (by omega))
  have CD := Lib.hid (fun W (hb : Below w.heap.size w W) => depth_any A m c SS G W (hP.bel hb) hL (by omega))
  have CE := Lib.hid (fun W (hb : Below w.heap.size w W) => rdepth_any A m c SS G W (hP.bel hb) hL (by omega))
  have CM := Lib.hid (fun W (hb : Below w.heap.size w W) => mayShapes_any A m c SS W (hP.bel hb) hL (by omega))
  have CN := Lib.hid (fun W (hb : Below w.heap.size w W) => smay_any A m c SS W (hP.bel hb) hL (by omega))
  obtain ⟨hb1, hb2⟩ := outA_bnd SS G
  obtain ⟨RO, hRO⟩ : ∃ R, R = outA SS G := ⟨_, rfl⟩
  obtain ⟨RD, hRD⟩ : ∃ R, R = depA SS G := ⟨_, rfl⟩
  obtain ⟨bm, hbm⟩ : ∃ b, b = decide (MayS SS) := ⟨_, rfl⟩
  rw [← hRO] at CO CR hb1 hb2
  rw [← hRD] at CD CE
  rw [← hbm] at CM CN
  obtain ⟨EO, LO⟩ := RO
  obtain ⟨ED, d⟩ := RD
  dsimp only at CD CE hb1 hb2
  have CS := Lib.hid (fun A1 A2 k1 k2 c1 c2 (W : World) (h1 : Ctl W A1 k1 LO) (h2 : Ctl W A2 k2 LO) => show Calls Try.prog 12 #[.slice A1 k1 c1, .slice A2 k2 c2] W fun e w' => e = .returned (.bool true) ∧ Below W.heap.size W w' from by
    have e1 := h1.len
    have e2 := h2.len
    subst e1 e2
    exact same_any A1 A2 LO.length c1 c2 LO W h1 h2 (by omega) (fun i hi => by have := hb2 i hi; omega))
  clear hP hlen hF hL hb1 hb2 hRO hRD hbm
  go_enter Try.func3, Try.ntmps3
  go_wp2_with (first
    | (go_at_call 6; (with_reducible refine CA.out.mono ?_); rintro e w1 ⟨rfl, hb⟩; have B := Lib.hid hb; clear hb)
    | (go_at_call 7; (with_reducible refine (CF.out _ B.out).mono ?_); rintro e w1 ⟨rfl, hb⟩; have B := Lib.hid (B.out.trans (hb.mono B.out.size)); clear hb)
    | (go_at_call 8; (with_reducible refine (CO.out _ B.out).mono ?_); rintro e w1 ⟨A1, k1, c1, rfl, hC, hb⟩; have B := Lib.hid (B.out.trans (hb.mono B.out.size)); have HC1 := Lib.hid hC; clear hb hC)
    | (go_at_call 9; (with_reducible refine (CR.out _ B.out).mono ?_); rintro e w1 ⟨A2, k2, c2, rfl, hC, hb⟩; have B := Lib.hid (B.out.trans (hb.mono B.out.size)); have HC2 := Lib.hid hC; have HC1 := Lib.hid (HC1.out.bel hb); clear hb hC)
    | (go_at_call 10; (with_reducible refine (CD.out _ B.out).mono ?_); rintro e w1 ⟨rfl, hb⟩; have B := Lib.hid (B.out.trans (hb.mono B.out.size)); have HC2 := Lib.hid (HC2.out.bel hb); have HC1 := Lib.hid (HC1.out.bel hb); clear hb)
    | (go_at_call 11; (with_reducible refine (CE.out _ B.out).mono ?_); rintro e w1 ⟨rfl, hb⟩; have B := Lib.hid (B.out.trans (hb.mono B.out.size)); have HC2 := Lib.hid (HC2.out.bel hb); have HC1 := Lib.hid (HC1.out.bel hb); clear hb)
    | (go_at_call 12; (with_reducible refine (CS.out _ _ _ _ _ _ _ HC1.out HC2.out).mono ?_); rintro e w1 ⟨rfl, hb⟩; have B := Lib.hid (B.out.trans (hb.mono B.out.size)); clear hb)
    | (go_at_call 13; (with_reducible refine (CM.out _ B.out).mono ?_); rintro e w1 ⟨rfl, hb⟩; have B := Lib.hid (B.out.trans (hb.mono B.out.size)); clear hb)
    | (go_at_call 14; (with_reducible refine (CN.out _ B.out).mono ?_); rintro e w1 ⟨rfl, hb⟩; have B := Lib.hid (B.out.trans (hb.mono B.out.size)); clear hb))
  go_ret
  exact ⟨rfl, B.out⟩
set_option maxHeartbeats 8000000 in
set_option maxRecDepth 100000 in
theorem law_parses (s : ByteArray) (A : Option Addr) (m c : Nat) (ps : List Int) (w : World) (hP : Il .i64 w A m ps) : Calls Try.prog 4 #[.string s, .slice A m c] w fun e w' => e = .returned (.bool true) ∧ Below w.heap.size w w' := by
  have CA := Lib.hid (awake_any w)
  by_cases h1 : 1000 < s.size
  · have e1 : decide (1000 < (s.size : Int)) = true := decide_eq_true (by omega)
    clear hP
    go_enter Try.func4, Try.ntmps4
    go_wp2_with (go_at_call 6; (with_reducible refine CA.out.mono ?_); rintro e w1 ⟨rfl, hb⟩; have B := Lib.hid hb; clear hb)
    go_ret
    exact ⟨rfl, B.out⟩
  have e1 : decide (1000 < (s.size : Int)) = false := decide_eq_false (by omega)
  by_cases h2 : 20 < m
  · clear hP
    go_enter Try.func4, Try.ntmps4
    go_wp2_with (go_at_call 6; (with_reducible refine CA.out.mono ?_); rintro e w1 ⟨rfl, hb⟩; have B := Lib.hid hb; clear hb)
    go_ret
    exact ⟨rfl, B.out⟩
  have CP := Lib.hid (fun W (hb : Below w.heap.size w W) => parseShapes_any s A m c ps W (by omega) (hP.bel hb) (by omega))
  have CR := Lib.hid (fun W (hb : Below w.heap.size w W) => sparse_any s A m c ps W (by omega) (hP.bel hb) (by omega))
  obtain ⟨hl1, hl2⟩ := PF_lim s.data.toList ps
  have hmay := @PF_may s.data.toList ps
  obtain ⟨R, hR⟩ : ∃ R, R = PF s.data.toList ps := ⟨_, rfl⟩
  rw [← hR] at CP CR hl1 hl2 hmay
  obtain ⟨E, SS⟩ := R
  dsimp only at hl1 hl2 hmay
  have CS := Lib.hid (fun A1 A2 k1 k2 c1 c2 (W : World) (h1 : Shl W A1 k1 SS) (h2 : Shl W A2 k2 SS) => show Calls Try.prog 17 #[.slice A1 k1 c1, .slice A2 k2 c2] W fun e w' => e = .returned (.bool true) ∧ Below W.heap.size W w' from by
    have e1 := h1.len
    have e2 := h2.len
    subst e1 e2
    exact ssame_any A1 A2 SS.length c1 c2 SS W h1 h2 (fun i hi => by
      obtain ⟨l1, l2, l3⟩ := hl1 i hi
      exact ⟨by omega, fun j hj => Nat.le_trans (l2 j hj) (by omega), by omega⟩) (by omega))
  have CM := Lib.hid (fun A1 k1 c1 (W : World) (h1 : Shl W A1 k1 SS) => mayShapes_any A1 k1 c1 SS W h1 hl1 (by rw [← h1.len]; omega))
  clear hP hR hl1 hl2
  by_cases hE : E = 0
  · subst hE
    rw [decide_eq_true (hmay rfl)] at CM
    clear hmay
    go_enter Try.func4, Try.ntmps4
    go_wp2_with (first
      | (go_at_call 6; (with_reducible refine CA.out.mono ?_); rintro e w1 ⟨rfl, hb⟩; have B := Lib.hid hb; clear hb)
      | (go_at_call 15; (with_reducible refine (CP.out _ B.out).mono ?_); rintro e w1 ⟨A1, k1, c1, rfl, hC, hb⟩; have B := Lib.hid (B.out.trans (hb.mono B.out.size)); have HC1 := Lib.hid hC; clear hb hC)
      | (go_at_call 16; (with_reducible refine (CR.out _ B.out).mono ?_); rintro e w1 ⟨A2, k2, c2, rfl, hC, hb⟩; have B := Lib.hid (B.out.trans (hb.mono B.out.size)); have HC2 := Lib.hid hC; have HC1 := Lib.hid (HC1.out.bel hb); clear hb hC)
      | (go_at_call 17; (with_reducible refine (CS.out _ _ _ _ _ _ _ HC1.out HC2.out).mono ?_); rintro e w1 ⟨rfl, hb⟩; have B := Lib.hid (B.out.trans (hb.mono B.out.size)); have HC1 := Lib.hid (HC1.out.bel hb); clear hb)
      | (go_at_call 13; (with_reducible refine (CM.out _ _ _ _ HC1.out).mono ?_); rintro e w1 ⟨rfl, hb⟩; have B := Lib.hid (B.out.trans (hb.mono B.out.size)); clear hb))
    go_ret
    exact ⟨rfl, B.out⟩
  · have e0 : (E != 0) = true := by simp [hE]
    clear hmay
    go_enter Try.func4, Try.ntmps4
    go_wp2_with (first
      | (go_at_call 6; (with_reducible refine CA.out.mono ?_); rintro e w1 ⟨rfl, hb⟩; have B := Lib.hid hb; clear hb)
      | (go_at_call 15; (with_reducible refine (CP.out _ B.out).mono ?_); rintro e w1 ⟨A1, k1, c1, rfl, hC, hb⟩; have B := Lib.hid (B.out.trans (hb.mono B.out.size)); have HC1 := Lib.hid hC; clear hb hC)
      | (go_at_call 16; (with_reducible refine (CR.out _ B.out).mono ?_); rintro e w1 ⟨A2, k2, c2, rfl, hC, hb⟩; have B := Lib.hid (B.out.trans (hb.mono B.out.size)); have HC2 := Lib.hid hC; have HC1 := Lib.hid (HC1.out.bel hb); clear hb hC)
      | (go_at_call 17; (with_reducible refine (CS.out _ _ _ _ _ _ _ HC1.out HC2.out).mono ?_); rintro e w1 ⟨rfl, hb⟩; have B := Lib.hid (B.out.trans (hb.mono B.out.size)); have HC1 := Lib.hid (HC1.out.bel hb); clear hb))
    go_ret
    exact ⟨rfl, B.out⟩
end Go.Proofs.Ytlfnagfcggmeaaa
