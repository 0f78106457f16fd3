/- Proved here: whether contours may be, in the program. Condition: at most 1000 contours that lie in memory, of at most 5000 points each · a glyph's bytes (plain); what Make answers. Condition: at most 1000 contours that lie in memory, of at most 5000 points each · what tellShape answers of a shape without parts, and tellPairs of any pairs. Condition: at most 1000 contours of at most 5000 points · what the font's only makes of shapes without parts. Condition: at most 100000 shapes. -/
import Derived.Test.YtfhaloclbbmbeaaGreatM42
import Derived.Test.YtfhaloclbbmbeaaGreatM45
import Derived.Test.YtfhaloclbbmbeaaGreatM22
import Derived.Test.YtfhaloclbbmbeaaGreatM41
namespace Go.Proofs.YtfhaloclbbmbeaaGreat
open Go.RowKit
namespace N13
set_option maxHeartbeats 4000000 in
theorem may_any (A : Option Addr) (m c : Nat) (LL : List (List Pt)) (w : World) (hP : Ctl w A m LL) (hm : m ≤ 1000) (hl : ∀ i, i < m → (ct LL i).length ≤ 5000) :
    Calls Tryz.prog 124 #[.slice A m c] w fun e w' => e = .returned (.bool (decide (MayG LL))) ∧ Below w.heap.size w w' := by
  have hlen := hP.len
  by_cases h256 : 256 < m
  · rw [decide_eq_false (show ¬ MayG LL from fun h => by have := h.1; omega)]
    clear hlen hP hl
    go_enter Tryz.func124, Tryz.ntmps124
    go_wp2_with fail
    go_ret
    exact ⟨rfl, Below.refl _ _⟩
  · have HY := Lib.hid (show (∀ i, i < m → okC LL i) → decide (MayG LL) = true from fun h => decide_eq_true ⟨by omega, by rw [hlen]; exact h⟩)
    have HN := Lib.hid (show ∀ k, k < m → ¬ okC LL k → decide (MayG LL) = false from fun k hk h => decide_eq_false fun h2 => h (h2.2 k (by omega)))
    have HI := Lib.hid hP
    have HL := Lib.hid hl
    have CU := Lib.hid (fun x W => unit_any x W)
    clear hlen hP hl
    go_enter Tryz.func124, Tryz.ntmps124
    go_wp2_with fail
    go_loopw [3, 13] (fun v i wr => ∃ k : Nat, i = .int .i64 (k : Int) ∧ k ≤ m ∧ v = .int .i64 (tot LL k : Int) ∧ tot LL k ≤ 4096 ∧ (∀ i, i < k → okC LL i) ∧ Below w.heap.size w wr) (fun _ i _ => m - (intOf i).toNat)
    case atStart => exact ⟨0, rfl, Nat.zero_le _, rfl, by simp [tot], fun i hi => by omega, Below.refl _ _⟩
    case round =>
      obtain ⟨k, rfl, hk, rfl, ht, hok, hb⟩ := hrel
      have HB := Lib.hid hb
      have HOK := Lib.hid hok
      by_cases hgo : k < m
      · obtain ⟨a, B, c0, rfl, hc, hpt⟩ := HI.out.at_ hb hgo
        have HSU := Lib.hid (show okC LL k → ∀ i, i < k + 1 → okC LL i from all_succ hok)
        have HNK := Lib.hid (HN.out k hgo)
        have hn5 := HL.out k hgo
        have HO := Lib.hid (show okC LL k ↔ (1 ≤ (ct LL k).length ∧ tot LL k + (ct LL k).length ≤ 4096) ∧ ∀ j, j < (ct LL k).length → okP (ct LL k) j from Iff.rfl)
        have HT := Lib.hid (show tot LL (k + 1) = tot LL k + (ct LL k).length from rfl)
        obtain ⟨L, hL⟩ : ∃ L, L = ct LL k := ⟨_, rfl⟩
        rw [← hL] at hc hpt hn5 HO HT
        obtain ⟨n, hn⟩ : ∃ n, n = L.length := ⟨_, rfl⟩
        rw [← hn] at hc hpt hn5 HO HT
        obtain ⟨t, ht2⟩ : ∃ t, t = tot LL k := ⟨_, rfl⟩
        rw [← ht2] at ht HO HT ⊢
        have HPt := Lib.hid hpt
        have e1 : IntKind.i64.wrap ((t : Int) + (n : Int)) = ((t + n : Nat) : Int) := by rw [i64_in _ (by omega)]; omega
        obtain ⟨u, hu⟩ : ∃ u, u = t + n := ⟨_, rfl⟩
        rw [← hu] at e1 HO HT
        clear hb hok hpt hL hn ht2 hu ht
        by_cases hn0 : n = 0
        · have e2 : ((n : Int) == 0) = true := by simp [hn0]
          have HX := Lib.hid (HNK.out fun h => by have := HO.out.1 h; omega)
          clear hn0
          go_wp2_with fail
          go_ret
          exact ⟨by rw [HX.out]; rfl, HB.out⟩
        · have e2 : ((n : Int) == 0) = false := by simp [hn0]
          by_cases hu4 : 4096 < u
          · have HX := Lib.hid (HNK.out fun h => by have := HO.out.1 h; omega)
            clear hn0
            go_wp2_with fail
            go_ret
            exact ⟨by rw [HX.out]; rfl, HB.out⟩
          · have hn1 := Lib.hid (show 1 ≤ n ∧ u ≤ 4096 by omega)
            clear hn0
            go_wp2_with fail
            go_loopw [30] (fun v wi => ∃ j : Nat, v = .int .i64 (j : Int) ∧ j ≤ n ∧ (∀ i, i < j → okP L i) ∧ Below wr.heap.size wr wi) (fun v _ => n - (intOf v).toNat)
            case atStart => exact ⟨0, rfl, Nat.zero_le _, fun i hi => by omega, Below.refl _ _⟩
            case round =>
              obtain ⟨j, rfl, hj, hokj, hbi⟩ := hrel
              have HBi := Lib.hid (HB.out.trans (hbi.mono HB.out.size))
              have HBj := Lib.hid hbi
              have HOKj := Lib.hid hokj
              by_cases hgj : j < n
              · obtain ⟨b, rfl, d0, d1, d2⟩ := HPt.out.at_ hbi hgj
                have HSj := Lib.hid (show okP L j → ∀ i, i < j + 1 → okP L i from all_succ hokj)
                have HPj := Lib.hid (show okP L j ↔ okU (px L j) ∧ okU (py L j) from Iff.rfl)
                have HNj := Lib.hid (show ¬ okP L j → decide (MayG LL) = false from fun h => HNK.out fun h2 => h ((HO.out.1 h2).2 j hgj))
                obtain ⟨x, hx⟩ : ∃ x, x = px L j := ⟨_, rfl⟩
                obtain ⟨y, hy⟩ : ∃ y, y = py L j := ⟨_, rfl⟩
                obtain ⟨o, ho⟩ : ∃ o, o = po L j := ⟨_, rfl⟩
                rw [← hx] at d0 HPj
                rw [← hy] at d1 HPj
                rw [← ho] at d2
                clear hbi hokj hx hy ho
                by_cases hx1 : okU x
                · have CX := Lib.hid (fun W => CU.out x W)
                  rw [decide_eq_true hx1] at CX
                  by_cases hy1 : okU y
                  · have CY := Lib.hid (fun W => CU.out y W)
                    rw [decide_eq_true hy1] at CY
                    have HX := Lib.hid (HSj.out (HPj.out.2 ⟨hx1, hy1⟩))
                    clear hx1 hy1
                    go_wp2_with (first
                      | (go_at_call 192; (with_reducible refine (CX.out _).mono ?_); rintro e w1 ⟨rfl, rfl⟩)
                      | (go_at_call 192; (with_reducible refine (CY.out _).mono ?_); rintro e w1 ⟨rfl, rfl⟩))
                    exact ⟨⟨j + 1, by simp, by omega, HX.out, HBj.out.alloc HBj.out.size _⟩, by simp [intOf]; omega⟩
                  · have CY := Lib.hid (fun W => CU.out y W)
                    rw [decide_eq_false hy1] at CY
                    have HX := Lib.hid (HNj.out fun h => hy1 (HPj.out.1 h).2)
                    clear hx1 hy1
                    go_wp2_with (first
                      | (go_at_call 192; (with_reducible refine (CX.out _).mono ?_); rintro e w1 ⟨rfl, rfl⟩)
                      | (go_at_call 192; (with_reducible refine (CY.out _).mono ?_); rintro e w1 ⟨rfl, rfl⟩))
                    go_ret
                    exact ⟨by rw [HX.out]; rfl, HBi.out.alloc HBi.out.size _⟩
                · have CX := Lib.hid (fun W => CU.out x W)
                  rw [decide_eq_false hx1] at CX
                  have HX := Lib.hid (HNj.out fun h => hx1 (HPj.out.1 h).1)
                  clear hx1
                  go_wp2_with (go_at_call 192; (with_reducible refine (CX.out _).mono ?_); rintro e w1 ⟨rfl, rfl⟩)
                  go_ret
                  exact ⟨by rw [HX.out]; rfl, HBi.out.alloc HBi.out.size _⟩
              · obtain rfl : j = n := by omega
                have HX := Lib.hid (HSU.out (HO.out.2 ⟨hn1.out, hokj⟩))
                clear hbi hokj
                go_wp2_with fail
                exact ⟨⟨k + 1, by simp, by omega, by rw [HT.out], by rw [HT.out]; exact hn1.out.2, HX.out, HBi.out⟩, by simp [intOf]; omega⟩
      · obtain rfl : k = m := by omega
        have HX := Lib.hid (HY.out hok)
        clear hb hok
        go_wp2_with fail
        go_ret
        exact ⟨by rw [HX.out]; rfl, HB.out⟩
end N13
end Go.Proofs.YtfhaloclbbmbeaaGreat
namespace Go.Proofs.YtfhaloclbbmbeaaGreat
open Go.RowKit
namespace N13
def mkE (LL : List (List Pt)) : Int := if MayG LL then (if LL.length = 0 then 0 else tpE LL LL.length) else 1
def mkB (LL : List (List Pt)) : List UInt8 := if MayG LL ∧ LL.length ≠ 0 ∧ okSt 0 0 (preP LL LL.length) then u2 (LL.length : Int) ++ boxB LL LL.length ++ plc LL LL.length ++ u2 0 ++ tpB LL LL.length else []
end N13
theorem u2_nat (n : Nat) (h : n < 65536) : u2 (n : Int) = byt 2 n := by
  unfold u2
  rw [show ((n : Int) % 65536).toNat = n by omega]
theorem tpB_len {LL : List (List Pt)} {m : Nat} (h : tot LL m ≤ 4096) : (tpB LL m).length ≤ 30000 := by
  unfold tpB
  have q7 := encF_len (preP LL m) 0 0
  have q8 := encX_len (preP LL m) 0
  have q9 := encY_len (preP LL m) 0
  rw [preP_len] at q7 q8 q9
  split
  · simp only [List.length_append]; omega
  · simp
namespace N13
set_option maxHeartbeats 4000000 in
set_option maxRecDepth 100000 in
theorem make_any (A : Option Addr) (m c : Nat) (LL : List (List Pt)) (w : World) (hP : Ctl w A m LL) (hm : m ≤ 1000) (hl : ∀ i, i < m → (ct LL i).length ≤ 5000) :
    Calls Tryz.prog 173 #[.slice A m c] w fun e w' => e = .returned (.tuple #[.string ⟨(mkB LL).toArray⟩, .int .i64 (mkE LL)]) ∧ Below w.heap.size w w' := by
  have hlen := hP.len
  have CM := Lib.hid (may_any A m c LL w hP hm hl)
  have B0 := Lib.hid (Below.refl w.heap.size w)
  by_cases hM : MayG LL
  · rw [decide_eq_true hM] at CM
    by_cases h0 : m = 0
    · have tE : mkE LL = 0 := by unfold mkE; rw [if_pos hM, if_pos (by omega)]
      have tB : mkB LL = [] := by unfold mkB; rw [if_neg (fun h => h.2.1 (by omega))]
      rw [tE, tB]
      subst h0
      clear hP hl hM tE tB
      go_enter Tryz.func173, Tryz.ntmps173
      go_wp2_with (go_at_call 124; (with_reducible refine CM.out.mono ?_); rintro e w1 ⟨rfl, hb⟩; have B1 := Lib.hid hb; clear hb)
      go_ret2
      exact ⟨rfl, B1.out⟩
    · have e0 : ((m : Int) == 0) = false := by simp [h0]
      have hm0 : 0 < m := by omega
      have CT := Lib.hid (fun W (hb : Below w.heap.size w W) => tellPoints_any A m c LL W (hP.bel hb) hm0 hM)
      by_cases hk : okSt 0 0 (preP LL m)
      · have tE : mkE LL = 0 := by unfold mkE; rw [if_pos hM, if_neg (by omega), hlen]; unfold tpE; rw [if_pos hk]
        have tB : mkB LL = u2 (m : Int) ++ boxB LL m ++ plc LL m ++ u2 0 ++ tpB LL m := by unfold mkB; rw [hlen, if_pos ⟨hM, h0, hk⟩]
        have tP : tpE LL m = 0 := by unfold tpE; rw [if_pos hk]
        rw [tP] at CT
        rw [tE]
        have hm2 : m ≤ 256 := by have := hM.1; omega
        have hall := hM.2
        rw [hlen] at hall
        have htm : tot LL m ≤ 4096 := by
          cases m with
          | zero => exact Nat.zero_le _
          | succ k => exact (hall k (by omega)).1.2
        have h1 := (hall 0 hm0).1.1
        have CBx := Lib.hid (fun W (hb : Below w.heap.size w W) => tellBox_any A m c LL W (hP.bel hb) hm2 hm0 htm h1)
        have CPl := Lib.hid (fun W (hb : Below w.heap.size w W) => tellPlaces_any A m c LL W (hP.bel hb) hm2 htm)
        have z1 := boxB_len LL m
        have z2 := plc_len LL m
        have z3 := tpB_len htm
        obtain ⟨D1, hD1⟩ : ∃ D : ByteArray, D = ⟨(byt 2 m).toArray⟩ := ⟨_, rfl⟩
        obtain ⟨D2, hD2⟩ : ∃ D : ByteArray, D = ⟨(boxB LL m).toArray⟩ := ⟨_, rfl⟩
        obtain ⟨D3, hD3⟩ : ∃ D : ByteArray, D = ⟨(plc LL m).toArray⟩ := ⟨_, rfl⟩
        obtain ⟨D4, hD4⟩ : ∃ D : ByteArray, D = ⟨(byt 2 0).toArray⟩ := ⟨_, rfl⟩
        obtain ⟨D5, hD5⟩ : ∃ D : ByteArray, D = ⟨(tpB LL m).toArray⟩ := ⟨_, rfl⟩
        rw [← hD2] at CBx
        rw [← hD3] at CPl
        rw [← hD5] at CT
        have C1 := Lib.hid (show ∀ W, Calls Tryz.prog 102 #[.int .u16 (m : Int)] W fun e w' => e = .returned (.string D1) ∧ Below W.heap.size W w' from fun W => by rw [hD1]; exact p16_any m W (by omega))
        have C4 := Lib.hid (show ∀ W, Calls Tryz.prog 102 #[.int .u16 0] W fun e w' => e = .returned (.string D4) ∧ Below W.heap.size W w' from fun W => by rw [hD4]; exact p16_any 0 W (by omega))
        have s1 : D1.size = 2 := by rw [hD1]; show (byt 2 m).toArray.size = 2; rw [List.size_toArray, byt_len]
        have s2 : D2.size = 8 := by rw [hD2]; show (boxB LL m).toArray.size = 8; rw [List.size_toArray]; exact z1
        have s3 : D3.size = 2 * m := by rw [hD3]; show (plc LL m).toArray.size = 2 * m; rw [List.size_toArray]; exact z2
        have s4 : D4.size = 2 := by rw [hD4]; show (byt 2 0).toArray.size = 2; rw [List.size_toArray, byt_len]
        have s5 : D5.size ≤ 30000 := by rw [hD5]; show (tpB LL m).toArray.size ≤ 30000; rw [List.size_toArray]; exact z3
        have y1 : ¬ 9223372036854775807 < D1.size + D2.size := by omega
        have y2 : ¬ 9223372036854775807 < D1.size + D2.size + D3.size := by omega
        have y3 : ¬ 9223372036854775807 < D1.size + D2.size + D3.size + D4.size := by omega
        have y4 : ¬ 9223372036854775807 < D1.size + D2.size + D3.size + D4.size + D5.size := by omega
        have HR := Lib.hid (show D1 ++ D2 ++ D3 ++ D4 ++ D5 = ⟨(mkB LL).toArray⟩ by rw [hD1, hD2, hD3, hD4, hD5, app_txt, app_txt, app_txt, app_txt, tB, u2_nat m (by omega)]; rfl)
        have e1 : IntKind.u16.wrap (m : Int) = (m : Int) := wrap_u16n m (by omega)
        clear hP hl hM hk tE tB tP hall htm h1 z1 z2 z3 hD1 hD2 hD3 hD4 hD5 s1 s2 s3 s4 s5 h0
        go_enter Tryz.func173, Tryz.ntmps173
        go_wp2_with (first
          | (go_at_call 124; (with_reducible refine CM.out.mono ?_); rintro e w1 ⟨rfl, hb⟩; have B1 := Lib.hid hb; clear hb)
          | (go_at_call 232; (with_reducible refine (CT.out _ B1.out).mono ?_); rintro e w2 ⟨rfl, hb⟩; have B1 := Lib.hid (B1.out.trans (hb.mono B1.out.size)); clear hb)
          | (go_at_call 102; (with_reducible refine (C1.out _).mono ?_); rintro e w2 ⟨rfl, hb⟩; have B1 := Lib.hid (B1.out.trans (hb.mono B1.out.size)); clear hb)
          | (go_at_call 102; (with_reducible refine (C4.out _).mono ?_); rintro e w2 ⟨rfl, hb⟩; have B1 := Lib.hid (B1.out.trans (hb.mono B1.out.size)); clear hb)
          | (go_at_call 233; (with_reducible refine (CBx.out _ B1.out).mono ?_); rintro e w2 ⟨rfl, hb⟩; have B1 := Lib.hid (B1.out.trans (hb.mono B1.out.size)); clear hb)
          | (go_at_call 234; (with_reducible refine (CPl.out _ B1.out).mono ?_); rintro e w2 ⟨rfl, hb⟩; have B1 := Lib.hid (B1.out.trans (hb.mono B1.out.size)); clear hb))
        go_ret2
        exact ⟨by rw [← HR.out]; rfl, B1.out⟩
      · have tE : mkE LL = 2 := by unfold mkE; rw [if_pos hM, if_neg (by omega), hlen]; unfold tpE; rw [if_neg hk]
        have tB : mkB LL = [] := by unfold mkB; rw [if_neg (fun h => hk (by rw [← hlen]; exact h.2.2))]
        have tP : tpE LL m = 2 := by unfold tpE; rw [if_neg hk]
        rw [tP] at CT
        rw [tE, tB]
        clear hP hl hM tE tB tP h0 hk
        go_enter Tryz.func173, Tryz.ntmps173
        go_wp2_with (first
          | (go_at_call 124; (with_reducible refine CM.out.mono ?_); rintro e w1 ⟨rfl, hb⟩; have B1 := Lib.hid hb; clear hb)
          | (go_at_call 232; (with_reducible refine (CT.out _ B1.out).mono ?_); rintro e w2 ⟨rfl, hb⟩; have B1 := Lib.hid (B1.out.trans (hb.mono B1.out.size)); clear hb))
        go_ret2
        exact ⟨rfl, B1.out⟩
  · rw [decide_eq_false hM] at CM
    have tE : mkE LL = 1 := by unfold mkE; rw [if_neg hM]
    have tB : mkB LL = [] := by unfold mkB; rw [if_neg (fun h => hM h.1)]
    rw [tE, tB]
    clear hP hl hM tE tB
    go_enter Tryz.func173, Tryz.ntmps173
    go_wp2_with (go_at_call 124; (with_reducible refine CM.out.mono ?_); rintro e w1 ⟨rfl, hb⟩; have B1 := Lib.hid hb; clear hb)
    go_ret2
    exact ⟨rfl, B1.out⟩
end N13
end Go.Proofs.YtfhaloclbbmbeaaGreat
namespace Go.Proofs.YtfhaloclbbmbeaaGreat
open Go.RowKit
namespace Ft
theorem cells_two (w : World) (u v : Value) (T : TypeId) : (w.alloc (.cells #[u, v] T)).cell? ⟨w.heap.size, 0, none⟩ = some u ∧ (w.alloc (.cells #[u, v] T)).cell? ⟨w.heap.size, 1, none⟩ = some v := by
  have h := cells_new w [u, v] T
  have h0 := h 0 _ rfl
  have h1 := h 1 _ rfl
  rw [add_at] at h0 h1
  exact ⟨h0, h1⟩
theorem tellShape_any (B B' : Option Addr) (n c c' : Nat) (CC : List (List Pt)) (w : World) (hC : Ctl w B n CC) (hn : n ≤ 1000) (hl : ∀ i, i < n → (ct CC i).length ≤ 5000) :
    Calls Tryz.prog 96 #[.agg #[.slice B n c, .slice B' 0 c']] w fun e w' => e = .returned (.tuple #[.string ⟨(N13.mkB CC).toArray⟩, .int .i64 (N13.mkE CC)]) ∧ Below w.heap.size w w' := by
  have hb : Below w.heap.size w (w.alloc (.cells #[.slice B n c, .slice B' 0 c'] 73)) := (Below.refl _ _).alloc (Nat.le_refl _) _
  have HM := Lib.hid (N13.make_any B n c CC _ (hC.bel hb) hn hl)
  have HB := Lib.hid hb
  obtain ⟨f0, f1⟩ := cells_two w (.slice B n c) (.slice B' 0 c') 73
  obtain ⟨D, hD⟩ : ∃ D : ByteArray, D = ⟨(N13.mkB CC).toArray⟩ := ⟨_, rfl⟩
  obtain ⟨E, hE⟩ : ∃ E, E = N13.mkE CC := ⟨_, rfl⟩
  rw [← hD, ← hE] at HM ⊢
  clear hC hl hb hD hE
  go_enter Tryz.func96, Tryz.ntmps96
  go_wp2_with (go_at_call 173; (with_reducible refine HM.out.mono ?_); rintro e w1 ⟨rfl, hb⟩; have HB := Lib.hid (HB.out.trans (hb.mono HB.out.size)); clear hb)
  go_ret2
  exact ⟨rfl, HB.out⟩
theorem tellPairs_any (ad : Addr) (k c : Nat) (L : List (Int × Int)) (w : World) (hP : Pl w (some ad) (k + 1) L) (hk : k ≤ 1000000) (hx : cd L k ≤ 65534) :
    Calls Tryz.prog 49 #[.slice (some ad) (k + 1) c] w (StE (N12.mkE L false) (N12.mkS L false) w) := by
  have HM := Lib.hid (fun W (hb : Below w.heap.size w W) => N12.make_any (some ad) (k + 1) c L false W (hP.bel hb))
  obtain ⟨D, hD⟩ : ∃ D : ByteArray, D = ⟨(N12.mkS L false).toArray⟩ := ⟨_, rfl⟩
  obtain ⟨E, hE⟩ : ∃ E, E = N12.mkE L false := ⟨_, rfl⟩
  unfold StE at HM ⊢
  rw [← hD, ← hE] at HM ⊢
  have HB := Lib.hid (Below.refl w.heap.size w)
  obtain ⟨ad2, e0, h1, h2, h3⟩ := hP.get k (by omega)
  injection e0 with e0
  subst e0
  obtain ⟨x, hx2⟩ : ∃ x, x = cd L k := ⟨_, rfl⟩
  rw [← hx2] at h2 hx
  have e1 : IntKind.i64.wrap (((k + 1 : Nat) : Int) - 1) = (k : Int) := by rw [i64_in _ (by omega)]; omega
  have e2 : decide (((0 : Nat) : Int) < ((k + 1 : Nat) : Int)) = true := decide_eq_true (by omega)
  have e2' : (0 : Int) < ((k + 1 : Nat) : Int) := by omega
  have e3 : ¬ 65534 < x := by omega
  have e4 : (0 : Int) ≤ (k : Int) := by omega
  have e5 : (k : Int) < ((k + 1 : Nat) : Int) := by omega
  have e6 : k < k + 1 := by omega
  clear hP hD hE h3 hx2 h1 hx
  go_enter Tryz.func49, Tryz.ntmps49
  go_wp2_with (first
    | (go_at_call 104; (with_reducible refine (HM.out _ HB.out).mono ?_); rintro e w1 ⟨rfl, hb⟩; have HB := Lib.hid (HB.out.trans (hb.mono HB.out.size)); clear hb))
  go_ret2
  exact ⟨rfl, HB.out⟩
end Ft
end Go.Proofs.YtfhaloclbbmbeaaGreat
namespace Go.Proofs.YtfhaloclbbmbeaaGreat
open Go.RowKit
namespace N15
def Leaf (SS : List Shp) : Prop := ∀ i, i < SS.length → (sh SS i).2 = []
def onlyS (SS : List Shp) (g : Nat) : List Shp := (List.replicate SS.length ([], [])).set g (sh SS g)
theorem onlyS_len (SS : List Shp) (g : Nat) : (onlyS SS g).length = SS.length := by simp [onlyS]
theorem sh_self {SS : List Shp} {g : Nat} (h : g < SS.length) : sh (onlyS SS g) g = sh SS g := by simp [sh, onlyS, h]
theorem sh_not {SS : List Shp} {g i : Nat} (h : i ≠ g) : sh (onlyS SS g) i = ([], []) := by
  unfold sh onlyS
  rw [List.getD_eq_getElem?_getD, List.getElem?_set_ne (by omega), List.getElem?_replicate]
  split <;> rfl
theorem info4 : (Tryz.prog.info? 4).map (fun i => (i.zero, i.size, i.bytes)) = some (some (.bool false), 1, 1) := by kernel_rfl
theorem mkBools (n : Nat) (hn : n ≤ 100000) (W : World) : (Instr.makeSlice 289 (.int .i64 (n : Int)) (.int .i64 (n : Int))).run Tryz.prog W = .ok (.slice (some ⟨W.heap.size, 0, none⟩) n n) (W.alloc (.cells (madeCells (Value.bool false).cells n) 4)) := by
  obtain ⟨i0, hi0, hz0, hz1, hz2⟩ := info_parts info4
  have := run_makeSlice (P := Tryz.prog) W 289 4 i0 (.bool false) Tryz.underlying289 hi0 hz0 .i64 .i64 (n : Int) (n : Int) (by omega) (Int.le_refl _) (by rw [hz1]; omega) (by rw [hz2]; omega) (by omega)
  rw [this, hz1, Int.toNat_natCast, Nat.mul_one]
structure OnS (w W : World) (ob b3 : Nat) (g : Nat) (cs : List Value) : Prop where
  bel : Below w.heap.size w W
  ge : w.heap.size ≤ ob
  rv : Rv W ob 73 cs
  op : W.cell? ⟨b3, 0, none⟩ = some (.int .i64 (g : Int))
def zrs (m : Nat) : List Value := (madeCells #[.slice none 0 0, .slice none 0 0] (m * 2)).toList
theorem zrs_len (m : Nat) : (zrs m).length = m * 2 := by unfold zrs; rw [Array.length_toList, size_madeCells]
theorem zrs_get {m j : Nat} (h : j < m * 2) : (zrs m)[j]? = some (.slice none 0 0) := by
  unfold zrs
  rcases Nat.mod_two_eq_zero_or_one j with e | e <;> simp [madeCells, h, e]
set_option maxHeartbeats 4000000 in
set_option maxRecDepth 100000 in
theorem only_any (A : Option Addr) (m c : Nat) (SS : List Shp) (g : Nat) (w : World) (hS : Shl w A m SS) (hm : m ≤ 100000) (hg : g < m) (hL : Leaf SS) :
    Calls Tryz.prog 151 #[.slice A m c, .int .i64 (g : Int)] w fun e w' => ∃ A' c', e = .returned (.slice A' m c') ∧ Shl w' A' m (onlyS SS g) ∧ Below w.heap.size w w' := by
  have hlen := hS.len
  obtain ⟨ad, B, k1, B', k2, hA, hlt, c0, c1, hC, hP⟩ := hS.get g hg
  have hp0 : (sh SS g).2 = [] := hL g (by omega)
  subst hA
  have HC := Lib.hid hC
  have HP := Lib.hid hP
  rw [hp0] at c1
  have c1 : w.cell? (ad.add (g * 2 + 1)) = some (.slice B' 0 k2) := c1
  have HF := Lib.hid (show ∀ W, Below w.heap.size w W → W.cell? (ad.add (g * 2)) = some (.slice B (sh SS g).1.length k1) ∧ W.cell? (ad.add (g * 2 + 1)) = some (.slice B' 0 k2) from fun W hb => ⟨(hb.cell (cell_lt c0)).trans c0, (hb.cell (cell_lt c1)).trans c1⟩)
  obtain ⟨n1, hn1⟩ : ∃ n, n = (sh SS g).1.length := ⟨_, rfl⟩
  rw [← hn1] at HF
  have HN1 := Lib.hid hn1
  have hmk1 := mkShps m hm
  have hmk2 := mkBools m hm
  clear c0 c1 hC hP hn1
  go_enter Tryz.func151, Tryz.ntmps151
  go_upto_region 3 with fail
  obtain ⟨W2, hW2⟩ : ∃ W, W = (w.alloc (.cells (madeCells #[.slice none 0 0, .slice none 0 0] (m * 2)) 73)).alloc (.cells (madeCells #[.bool false] m) 4) := ⟨_, rfl⟩
  have hb1 : Below w.heap.size w (w.alloc (.cells (madeCells #[.slice none 0 0, .slice none 0 0] (m * 2)) 73)) := (Below.refl _ _).alloc (Nat.le_refl _) _
  have HB2 := Lib.hid (show Below w.heap.size w W2 by rw [hW2]; exact hb1.alloc (by simp) _)
  have HO2 := Lib.hid (show Rv W2 w.heap.size 73 (zrs m) by rw [hW2]; exact (Rv.new w _ 73).bel ((Below.refl _ _).alloc (Nat.le_refl _) _))
  have HM2 := Lib.hid (show Rv W2 (w.heap.size + 1) 4 (madeCells #[.bool false] m).toList by
    rw [hW2]
    have := Rv.new (w.alloc (.cells (madeCells #[.slice none 0 0, .slice none 0 0] (m * 2)) 73)) (madeCells #[.bool false] m) 4
    simpa using this)
  have hsz : W2.heap.size = w.heap.size + 1 + 1 := by rw [hW2]; simp
  rw [← hW2]
  have m0 : W2.cell? ⟨w.heap.size + 1, g, none⟩ = some (.bool false) := HM2.out.get (by simp [madeCells, hg, Nat.mod_one])
  have m1 : W2.frozen? ⟨w.heap.size + 1, g, none⟩ = false := HM2.out.fr _
  have g0 : (0 : Int) ≤ (g : Int) := by omega
  have g1 : (g : Int) < (m : Int) := by omega
  obtain ⟨ob, hob⟩ : ∃ b, b = w.heap.size := ⟨_, rfl⟩
  rw [← hob] at HO2 HM2 m0 m1 ⊢
  have HOb := Lib.hid hob
  have HSz := Lib.hid (show W2.heap.size = ob + 1 + 1 by rw [hob]; exact hsz)
  have HLn := Lib.hid hlen
  have HG := Lib.hid hg
  have HAd := Lib.hid hlt
  have HSS := Lib.hid hS
  have HLf := Lib.hid hp0
  clear hW2 hb1 hob hsz hlen hlt hS hp0 hL hmk1 hmk2
  go_upto_region 4 with fail
  obtain ⟨W4, hW4⟩ : ∃ W, W = (W2.setCell ⟨ob + 1, g, none⟩ (.bool true)).alloc (.cells #[.int .i64 (g : Int)] 3) := ⟨_, rfl⟩
  have hz3 : (W2.setCell ⟨ob + 1, g, none⟩ (.bool true)).heap.size = ob + 1 + 1 := by rw [← HSz.out]; simp [World.setCell]
  have hS4 : OnS w W4 ob (ob + 1 + 1) g (zrs m) := by
    rw [hW4]
    have h1 : Below w.heap.size w (W2.setCell ⟨ob + 1, g, none⟩ (.bool true)) := below_st HB2.out (by rw [← HOb.out]; omega)
    have h2 : Rv (W2.setCell ⟨ob + 1, g, none⟩ (.bool true)) ob 73 (zrs m) := HO2.out.far (by omega) _ _
    refine ⟨h1.alloc h1.size _, by rw [HOb.out]; omega, h2.bel ((Below.refl _ _).alloc (Nat.le_refl _) _), ?_⟩
    have := cells_new (W2.setCell ⟨ob + 1, g, none⟩ (.bool true)) [.int .i64 (g : Int)] 3 0 _ rfl
    rw [hz3] at this
    exact this
  have HS4 := Lib.hid hS4
  clear m0 m1 hS4
  go_wp2_with fail
  rw [← hW4]
  clear hW4 hz3
  have hsl : ∀ W : World, (Instr.slice 40 (.slice (some ⟨ob + 1 + 1, 0, none⟩) 1 1) (some (.int .i64 1)) none none).run Tryz.prog W = .ok (.slice (some ⟨ob + 1 + 1, 0, none⟩) 0 0) W := fun W => by kernel_rfl
  go_loopw [7] (fun v wr => (v = .slice (some ⟨ob + 1 + 1, 0, none⟩) 1 1 ∧ wr = W4) ∨ (v = .slice (some ⟨ob + 1 + 1, 0, none⟩) 0 0 ∧ Below w.heap.size w wr ∧ Rv wr ob 73 (((zrs m).set (g * 2) (.slice B n1 k1)).set (g * 2 + 1) (.slice B' 0 k2)))) (fun v _ => match v with | .slice _ n _ => n | _ => 0)
  case atStart => exact .inl ⟨rfl, rfl⟩
  case round =>
    rcases hrel with ⟨rfl, rfl⟩ | ⟨rfl, hb, hr⟩
    · have s0 := HS4.out.op
      obtain ⟨c0, c1⟩ := HF.out _ HS4.out.bel
      rw [← add_next] at c1
      have hgm := HG.out
      have o0 : wr.cell? ⟨ob, g * 2, none⟩ = some (.slice none 0 0) := HS4.out.rv.get (zrs_get (by omega))
      have o1 : wr.cell? ⟨ob, g * 2 + 1, none⟩ = some (.slice none 0 0) := HS4.out.rv.get (zrs_get (by omega))
      have o2 : wr.frozen? ⟨ob, g * 2, none⟩ = false := HS4.out.rv.fr _
      have o3 : wr.frozen? ⟨ob, g * 2 + 1, none⟩ = false := HS4.out.rv.fr _
      go_upto_region 9 with fail
      obtain ⟨W5, hW5⟩ : ∃ W, W = (wr.setCell ⟨ob, g * 2, none⟩ (.slice B n1 k1)).setCell ⟨ob, g * 2 + 1, none⟩ (.slice B' 0 k2) := ⟨_, rfl⟩
      have HB5 := Lib.hid (show Below w.heap.size w W5 by rw [hW5]; exact below_st (below_st HS4.out.bel HS4.out.ge) HS4.out.ge)
      have HR5 := Lib.hid (show Rv W5 ob 73 (((zrs m).set (g * 2) (.slice B n1 k1)).set (g * 2 + 1) (.slice B' 0 k2)) by rw [hW5]; exact (HS4.out.rv.set _ _).set _ _)
      rw [← hW5]
      clear s0 c0 c1 o0 o1 o2 o3 hW5
      obtain ⟨c0, c1⟩ := HF.out _ HB5.out
      rw [← add_next] at c1
      go_wp2_with fail
      go_loopw [7, 43] (fun u v wi => u = .slice (some ⟨ob + 1 + 1, 0, none⟩) 0 0 ∧ v = .int .i64 0 ∧ wi = W5) (fun _ _ _ => 0)
      case atStart => exact ⟨rfl, rfl, rfl⟩
      case round =>
        obtain ⟨rfl, rfl, rfl⟩ := hrel
        clear c0 c1
        go_wp2_with fail
        exact ⟨.inr ⟨rfl, HB5.out, HR5.out⟩, by simp⟩
    · have HB6 := Lib.hid hb
      have HR6 := Lib.hid hr
      clear hb hr
      go_wp2_with fail
      go_ret
      have hg2 := HG.out
      have hl2 := HLn.out
      refine ⟨some ⟨ob, 0, none⟩, m, rfl, ⟨by rw [onlyS_len]; exact hl2, fun i hi => ?_⟩, HB6.out⟩
      by_cases h : i = g
      · subst h
        rw [sh_self (by omega)]
        have hn := HN1.out
        have hz := HLf.out
        refine ⟨_, B, k1, B', k2, rfl, HR6.out.lt, ?_, ?_, ?_, ?_⟩
        · rw [add_at, ← hn]; exact HR6.out.get (by rw [List.getElem?_set_ne (by omega), List.getElem?_set_self (by rw [zrs_len]; omega)])
        · rw [add_at, hz]; exact HR6.out.get (by rw [List.getElem?_set_self (by rw [List.length_set, zrs_len]; omega)]; rfl)
        · exact HC.out.bel HB6.out
        · exact HP.out.bel HB6.out
      · rw [sh_not h]
        refine ⟨_, none, 0, none, 0, rfl, HR6.out.lt, ?_, ?_, Ctl.nil _, C.Prl.nil _⟩
        · rw [add_at]; exact HR6.out.get (by rw [List.getElem?_set_ne (by omega), List.getElem?_set_ne (by omega)]; exact zrs_get (by omega))
        · rw [add_at]; exact HR6.out.get (by rw [List.getElem?_set_ne (by omega), List.getElem?_set_ne (by omega)]; exact zrs_get (by omega))
end N15
end Go.Proofs.YtfhaloclbbmbeaaGreat
