/- Proved here: whether contours may be, in the program. Condition: at most 1000 contours that lie in memory, of at most 5000 points each · what readStep and readUnits answer. Condition: a reader of a text of at most a billion bytes; at most 100000 points. -/
import Derived.Test.YtfhaloclbbmbeaaGreatM26
import Derived.Test.YtfhaloclbbmbeaaGreatM27
namespace Go.Proofs.YtfhaloclbbmbeaaGreat
open Go.RowKit
theorem unit_any (x : Int) (w : World) : Calls Tryz.prog 192 #[.int .i64 x] w fun e w' => e = .returned (.bool (decide (okU x))) ∧ w = w' := by
  by_cases h1 : -32767 ≤ x
  · by_cases h2 : x ≤ 32767
    · rw [decide_eq_true (show okU x from ⟨h1, h2⟩)]
      go_enter Tryz.func192, Tryz.ntmps192
      go_wp2_with fail
      go_ret
      exact ⟨rfl, rfl⟩
    · rw [decide_eq_false (fun h : okU x => h2 h.2)]
      go_enter Tryz.func192, Tryz.ntmps192
      go_wp2_with fail
      go_ret
      exact ⟨rfl, rfl⟩
  · rw [decide_eq_false (fun h : okU x => h1 h.1)]
    go_enter Tryz.func192, Tryz.ntmps192
    go_wp2_with fail
    go_ret
    exact ⟨rfl, rfl⟩
namespace N15
set_option maxHeartbeats 4000000 in
theorem may_any (A : Option Addr) (m c : Nat) (LL : List (List Pt)) (w : World) (hP : Ctl w A m LL) (hm : m ≤ 1000) (hl : ∀ i, i < m → (ct LL i).length ≤ 5000) :
    Calls Tryz.prog 124 #[.slice A m c] w fun e w' => e = .returned (.bool (decide (MayG LL))) ∧ Below w.heap.size w w' := by
  have hlen := hP.len
  by_cases h256 : 256 < m
  · rw [decide_eq_false (show ¬ MayG LL from fun h => by have := h.1; omega)]
    clear hlen hP hl
    go_enter Tryz.func124, Tryz.ntmps124
    go_wp2_with fail
    go_ret
    exact ⟨rfl, Below.refl _ _⟩
  · have HY := Lib.hid (show (∀ i, i < m → okC LL i) → decide (MayG LL) = true from fun h => decide_eq_true ⟨by omega, by rw [hlen]; exact h⟩)
    have HN := Lib.hid (show ∀ k, k < m → ¬ okC LL k → decide (MayG LL) = false from fun k hk h => decide_eq_false fun h2 => h (h2.2 k (by omega)))
    have HI := Lib.hid hP
    have HL := Lib.hid hl
    have CU := Lib.hid (fun x W => unit_any x W)
    clear hlen hP hl
    go_enter Tryz.func124, Tryz.ntmps124
    go_wp2_with fail
    go_loopw [3, 13] (fun v i wr => ∃ k : Nat, i = .int .i64 (k : Int) ∧ k ≤ m ∧ v = .int .i64 (tot LL k : Int) ∧ tot LL k ≤ 4096 ∧ (∀ i, i < k → okC LL i) ∧ Below w.heap.size w wr) (fun _ i _ => m - (intOf i).toNat)
    case atStart => exact ⟨0, rfl, Nat.zero_le _, rfl, by simp [tot], fun i hi => by omega, Below.refl _ _⟩
    case round =>
      obtain ⟨k, rfl, hk, rfl, ht, hok, hb⟩ := hrel
      have HB := Lib.hid hb
      have HOK := Lib.hid hok
      by_cases hgo : k < m
      · obtain ⟨a, B, c0, rfl, hc, hpt⟩ := HI.out.at_ hb hgo
        have HSU := Lib.hid (show okC LL k → ∀ i, i < k + 1 → okC LL i from all_succ hok)
        have HNK := Lib.hid (HN.out k hgo)
        have hn5 := HL.out k hgo
        have HO := Lib.hid (show okC LL k ↔ (1 ≤ (ct LL k).length ∧ tot LL k + (ct LL k).length ≤ 4096) ∧ ∀ j, j < (ct LL k).length → okP (ct LL k) j from Iff.rfl)
        have HT := Lib.hid (show tot LL (k + 1) = tot LL k + (ct LL k).length from rfl)
        obtain ⟨L, hL⟩ : ∃ L, L = ct LL k := ⟨_, rfl⟩
        rw [← hL] at hc hpt hn5 HO HT
        obtain ⟨n, hn⟩ : ∃ n, n = L.length := ⟨_, rfl⟩
        rw [← hn] at hc hpt hn5 HO HT
        obtain ⟨t, ht2⟩ : ∃ t, t = tot LL k := ⟨_, rfl⟩
        rw [← ht2] at ht HO HT ⊢
        have HPt := Lib.hid hpt
        have e1 : IntKind.i64.wrap ((t : Int) + (n : Int)) = ((t + n : Nat) : Int) := by rw [i64_in _ (by omega)]; omega
        obtain ⟨u, hu⟩ : ∃ u, u = t + n := ⟨_, rfl⟩
        rw [← hu] at e1 HO HT
        clear hb hok hpt hL hn ht2 hu ht
        by_cases hn0 : n = 0
        · have e2 : ((n : Int) == 0) = true := by simp [hn0]
          have HX := Lib.hid (HNK.out fun h => by have := HO.out.1 h; omega)
          clear hn0
          go_wp2_with fail
          go_ret
          exact ⟨by rw [HX.out]; rfl, HB.out⟩
        · have e2 : ((n : Int) == 0) = false := by simp [hn0]
          by_cases hu4 : 4096 < u
          · have HX := Lib.hid (HNK.out fun h => by have := HO.out.1 h; omega)
            clear hn0
            go_wp2_with fail
            go_ret
            exact ⟨by rw [HX.out]; rfl, HB.out⟩
          · have hn1 := Lib.hid (show 1 ≤ n ∧ u ≤ 4096 by omega)
            clear hn0
            go_wp2_with fail
            go_loopw [30] (fun v wi => ∃ j : Nat, v = .int .i64 (j : Int) ∧ j ≤ n ∧ (∀ i, i < j → okP L i) ∧ Below wr.heap.size wr wi) (fun v _ => n - (intOf v).toNat)
            case atStart => exact ⟨0, rfl, Nat.zero_le _, fun i hi => by omega, Below.refl _ _⟩
            case round =>
              obtain ⟨j, rfl, hj, hokj, hbi⟩ := hrel
              have HBi := Lib.hid (HB.out.trans (hbi.mono HB.out.size))
              have HBj := Lib.hid hbi
              have HOKj := Lib.hid hokj
              by_cases hgj : j < n
              · obtain ⟨b, rfl, d0, d1, d2⟩ := HPt.out.at_ hbi hgj
                have HSj := Lib.hid (show okP L j → ∀ i, i < j + 1 → okP L i from all_succ hokj)
                have HPj := Lib.hid (show okP L j ↔ okU (px L j) ∧ okU (py L j) from Iff.rfl)
                have HNj := Lib.hid (show ¬ okP L j → decide (MayG LL) = false from fun h => HNK.out fun h2 => h ((HO.out.1 h2).2 j hgj))
                obtain ⟨x, hx⟩ : ∃ x, x = px L j := ⟨_, rfl⟩
                obtain ⟨y, hy⟩ : ∃ y, y = py L j := ⟨_, rfl⟩
                obtain ⟨o, ho⟩ : ∃ o, o = po L j := ⟨_, rfl⟩
                rw [← hx] at d0 HPj
                rw [← hy] at d1 HPj
                rw [← ho] at d2
                clear hbi hokj hx hy ho
                by_cases hx1 : okU x
                · have CX := Lib.hid (fun W => CU.out x W)
                  rw [decide_eq_true hx1] at CX
                  by_cases hy1 : okU y
                  · have CY := Lib.hid (fun W => CU.out y W)
                    rw [decide_eq_true hy1] at CY
                    have HX := Lib.hid (HSj.out (HPj.out.2 ⟨hx1, hy1⟩))
                    clear hx1 hy1
                    go_wp2_with (first
                      | (go_at_call 192; (with_reducible refine (CX.out _).mono ?_); rintro e w1 ⟨rfl, rfl⟩)
                      | (go_at_call 192; (with_reducible refine (CY.out _).mono ?_); rintro e w1 ⟨rfl, rfl⟩))
                    exact ⟨⟨j + 1, by simp, by omega, HX.out, HBj.out.alloc HBj.out.size _⟩, by simp [intOf]; omega⟩
                  · have CY := Lib.hid (fun W => CU.out y W)
                    rw [decide_eq_false hy1] at CY
                    have HX := Lib.hid (HNj.out fun h => hy1 (HPj.out.1 h).2)
                    clear hx1 hy1
                    go_wp2_with (first
                      | (go_at_call 192; (with_reducible refine (CX.out _).mono ?_); rintro e w1 ⟨rfl, rfl⟩)
                      | (go_at_call 192; (with_reducible refine (CY.out _).mono ?_); rintro e w1 ⟨rfl, rfl⟩))
                    go_ret
                    exact ⟨by rw [HX.out]; rfl, HBi.out.alloc HBi.out.size _⟩
                · have CX := Lib.hid (fun W => CU.out x W)
                  rw [decide_eq_false hx1] at CX
                  have HX := Lib.hid (HNj.out fun h => hx1 (HPj.out.1 h).1)
                  clear hx1
                  go_wp2_with (go_at_call 192; (with_reducible refine (CX.out _).mono ?_); rintro e w1 ⟨rfl, rfl⟩)
                  go_ret
                  exact ⟨by rw [HX.out]; rfl, HBi.out.alloc HBi.out.size _⟩
              · obtain rfl : j = n := by omega
                have HX := Lib.hid (HSU.out (HO.out.2 ⟨hn1.out, hokj⟩))
                clear hbi hokj
                go_wp2_with fail
                exact ⟨⟨k + 1, by simp, by omega, by rw [HT.out], by rw [HT.out]; exact hn1.out.2, HX.out, HBi.out⟩, by simp [intOf]; omega⟩
      · obtain rfl : k = m := by omega
        have HX := Lib.hid (HY.out hok)
        clear hb hok
        go_wp2_with fail
        go_ret
        exact ⟨by rw [HX.out]; rfl, HB.out⟩
end N15
end Go.Proofs.YtfhaloclbbmbeaaGreat
namespace Go.Proofs.YtfhaloclbbmbeaaGreat
open Go.RowKit
def widB (b1 b2 : Bool) : Nat := if b1 then 1 else if b2 then 0 else 2
def stpB (l : List UInt8) (a : Nat) (b1 b2 : Bool) : Int := if b1 then (if b2 then (bat l a : Int) else -(bat l a : Int)) else if b2 then 0 else sg16 (n2 l a)
theorem stpB_in (l : List UInt8) (a : Nat) (b1 b2 : Bool) : -32768 ≤ stpB l a b1 b2 ∧ stpB l a b1 b2 ≤ 32767 := by
  have h1 := bat_lt l a
  have h2 := sg16_in _ (n2_lt l a)
  unfold stpB
  cases b1 <;> cases b2 <;> simp <;> omega
namespace N15
theorem readStep_in (g : Nat) (s : ByteArray) (a : Nat) (b1 b2 : Bool) (w : World) (h : Rd 278 w g s a false) (hs : s.size ≤ 1000000000) (ha : a + widB b1 b2 ≤ s.size) :
    Calls Tryz.prog 301 #[.pointer (some ⟨g, 0, none⟩), .bool b1, .bool b2] w fun e w' => e = .returned (.int .i64 (stpB s.data.toList a b1 b2)) ∧ Rd 278 w' g s (a + widB b1 b2) false ∧ Onl g w w' := by
  have hb := bat_lt s.data.toList a
  have hg := sg16_in _ (n2_lt s.data.toList a)
  have H0 := Lib.hid h
  have HO := Lib.hid (Onl.refl g w)
  cases b1
  · cases b2
    · have C1 := Lib.hid (i16_in g s a w h hs ha)
      show Calls _ _ _ _ fun e w' => e = .returned (.int .i64 (sg16 (n2 s.data.toList a))) ∧ Rd 278 w' g s (a + 2) false ∧ Onl g w w'
      obtain ⟨z, hz⟩ : ∃ z, z = sg16 (n2 s.data.toList a) := ⟨_, rfl⟩
      rw [← hz] at C1 hg ⊢
      obtain ⟨hg1, hg2⟩ := hg
      have e1 : IntKind.i64.wrap z = z := i64_in _ (by omega)
      clear hz h ha
      go_enter Tryz.func301, Tryz.ntmps301
      go_wp2_with (go_at_call 254; (with_reducible refine C1.out.mono ?_); rintro e w2 ⟨rfl, hr, ho⟩; have H2 := Lib.hid (And.intro hr ho); clear hr ho)
      go_ret
      exact ⟨rfl, H2.out.1, H2.out.2⟩
    · show Calls _ _ _ _ fun e w' => e = .returned (.int .i64 0) ∧ Rd 278 w' g s (a + 0) false ∧ Onl g w w'
      clear h ha
      go_enter Tryz.func301, Tryz.ntmps301
      go_wp2_with fail
      go_ret
      exact ⟨rfl, H0.out, HO.out⟩
  · have C1 := Lib.hid (u8_in g s a w h hs ha)
    cases b2
    · show Calls _ _ _ _ fun e w' => e = .returned (.int .i64 (-(bat s.data.toList a : Int))) ∧ Rd 278 w' g s (a + 1) false ∧ Onl g w w'
      obtain ⟨z, hz⟩ : ∃ z, z = bat s.data.toList a := ⟨_, rfl⟩
      rw [← hz] at C1 hb ⊢
      clear hz h ha hg
      go_enter Tryz.func301, Tryz.ntmps301
      go_wp2_with (go_at_call 300; (with_reducible refine C1.out.mono ?_); rintro e w2 ⟨rfl, hr, ho⟩; have H2 := Lib.hid (And.intro hr ho); clear hr ho)
      go_ret
      exact ⟨rfl, H2.out.1, H2.out.2⟩
    · show Calls _ _ _ _ fun e w' => e = .returned (.int .i64 (bat s.data.toList a : Int)) ∧ Rd 278 w' g s (a + 1) false ∧ Onl g w w'
      obtain ⟨z, hz⟩ : ∃ z, z = bat s.data.toList a := ⟨_, rfl⟩
      rw [← hz] at C1 hb ⊢
      clear hz h ha hg
      go_enter Tryz.func301, Tryz.ntmps301
      go_wp2_with (go_at_call 300; (with_reducible refine C1.out.mono ?_); rintro e w2 ⟨rfl, hr, ho⟩; have H2 := Lib.hid (And.intro hr ho); clear hr ho)
      go_ret
      exact ⟨rfl, H2.out.1, H2.out.2⟩
theorem readStep_out (g : Nat) (s : ByteArray) (a : Nat) (b1 b2 : Bool) (w : World) (h : Rd 278 w g s a false) (hs : s.size ≤ 1000000000) (ha : a ≤ s.size) (ho : s.size < a + widB b1 b2) :
    Calls Tryz.prog 301 #[.pointer (some ⟨g, 0, none⟩), .bool b1, .bool b2] w fun e w' => e = .returned (.int .i64 0) ∧ Rd 278 w' g s a true ∧ Onl g w w' := by
  cases b1
  · cases b2
    · have C1 := Lib.hid (i16_out g s a w h hs ha ho)
      clear h ha ho
      go_enter Tryz.func301, Tryz.ntmps301
      go_wp2_with (go_at_call 254; (with_reducible refine C1.out.mono ?_); rintro e w2 ⟨rfl, hr, ho⟩; have H2 := Lib.hid (And.intro hr ho); clear hr ho)
      go_ret
      exact ⟨rfl, H2.out.1, H2.out.2⟩
    · exact absurd ho (by simp [widB]; omega)
  · have C1 := Lib.hid (u8_out g s a w h hs ha ho)
    clear h ha ho
    cases b2
    all_goals
      go_enter Tryz.func301, Tryz.ntmps301
      go_wp2_with (go_at_call 300; (with_reducible refine C1.out.mono ?_); rintro e w2 ⟨rfl, hr, ho⟩; have H2 := Lib.hid (And.intro hr ho); clear hr ho)
      go_ret
      exact ⟨rfl, H2.out.1, H2.out.2⟩
structure FiL (n : Nat) (acc : List Int) (cs : List Value) : Prop where
  len : cs.length = n
  get : ∀ i, i < acc.length → cs[i]? = some (.int .i64 (co acc i))
theorem FiL.push {n : Nat} {acc : List Int} {cs : List Value} (h : FiL n acc cs) (hk : acc.length < n) (v : Int) : FiL n (acc ++ [v]) (cs.set acc.length (.int .i64 v)) := by
  refine ⟨by rw [List.length_set]; exact h.len, fun i hi => ?_⟩
  rw [List.length_append] at hi
  have hi : i < acc.length + 1 := hi
  rw [List.getElem?_set, co_app]
  by_cases hik : acc.length = i
  · subst hik
    rw [if_pos rfl, if_pos (by rw [h.len]; exact hk), if_neg (by omega), Nat.sub_self]
    rfl
  · rw [if_neg hik, if_pos (by omega)]
    exact h.get i (by omega)
theorem FiL.start (n : Nat) (z : Array Value) : FiL n [] (madeCells z n).toList := ⟨by rw [Array.length_toList, size_madeCells], fun i hi => by simp at hi⟩
theorem FiL.il {n : Nat} {acc : List Int} {cs : List Value} {w : World} {h T : Nat} (k : FiL n acc cs) (hn : acc.length = n) (r : Rv w h T cs) : Il .i64 w (some ⟨h, 0, none⟩) n acc :=
  ⟨hn, fun i hi => ⟨_, rfl, r.lt, by rw [add_at]; exact r.get (k.get i (by omega))⟩⟩
set_option maxHeartbeats 8000000 in
set_option maxRecDepth 100000 in
theorem readUnits_any (g : Nat) (A : Option Addr) (n c : Nat) (fl : List Int) (sh sm : Nat) (s : ByteArray) (a0 : Nat) (w : World) (hm : (sh = 2 ∧ sm = 16) ∨ (sh = 4 ∧ sm = 32)) (hI : Il .u8 w A n fl) (hA : Nb A g) (hF : FlOk fl) (h : Rd 278 w g s a0 false) (hs : s.size ≤ 1000000000) (ha : a0 ≤ s.size) (hn : n ≤ 100000) :
    Calls Tryz.prog 296 #[.pointer (some ⟨g, 0, none⟩), .slice A n c, .int .u8 (sh : Int), .int .u8 (sm : Int)] w (FgP 278 .i64 (unts s.data.toList sh sm fl [] a0 0) g s w) := by
  have hlen := hI.len
  have HI := Lib.hid (And.intro hI hA)
  have HFl := Lib.hid hF
  have HS := Lib.hid hs
  have HM := Lib.hid hm
  obtain ⟨z0, hmk⟩ := mkInt n (by omega) (n : Int) rfl
  have S := Lib.hid (RoS.row (RoS.start h ha) (madeCells z0 n) 3)
  have SF := Lib.hid (FiL.start n z0)
  obtain ⟨R, hR⟩ : ∃ R, R = unts s.data.toList sh sm fl [] a0 0 := ⟨_, rfl⟩
  rw [← hR]
  have HR0 := Lib.hid hR.symm
  have HE := Lib.hid (show ∀ x r w', R = (x, r) → x ≠ 0 → Onl g w w' → FgP 278 .i64 R g s w (.returned (.tuple #[.slice none 0 0, .int .i64 x])) w' from fun x r w' h1 h2 h3 => fgP_err h1 h2 h3)
  have HF := Lib.hid (show ∀ acc a h cs w', R = (0, acc, a) → acc.length = n → FiL n acc cs → RmS w w' g s a false h 3 cs → FgP 278 .i64 R g s w (.returned (.tuple #[.slice (some ⟨h, 0, none⟩) n n, .int .i64 0])) w' from fun acc a h cs w' h1 h0 h2 h3 => by
    subst h1
    exact ⟨h3.r.onl, _, n, n, rfl, fun _ => ⟨⟨h2.il h0 h3.row, fun ad had => by injection had with had; subst had; show h ≠ g; have := h3.hh; have := h3.r.lg; omega⟩, h3.r.rd, h3.r.le⟩⟩)
  have HLn := Lib.hid hlen
  clear h hs ha hR hI hA hF hm hlen
  go_enter Tryz.func296, Tryz.ntmps296
  go_upto_region 2 with fail
  obtain ⟨h9, hh9⟩ : ∃ b, b = w.heap.size := ⟨_, rfl⟩
  obtain ⟨W0, hW0⟩ : ∃ W, W = w.alloc (.cells (madeCells z0 n) 3) := ⟨_, rfl⟩
  have S : Hid (RmS w W0 g s a0 false h9 3 (madeCells z0 n).toList) := by rw [hW0, hh9]; exact S
  rw [← hW0, ← hh9]
  clear hW0 hh9 hmk
  go_wp2_with fail
  go_loopw [11, 19] (fun v u wr => ∃ (i : Nat) (acc : List Int) (a : Nat) (z : Int) (cs : List Value), u = .int .i64 (i : Int) ∧ i ≤ n ∧ v = .int .i64 z ∧ okU z ∧ acc.length = i ∧ unts s.data.toList sh sm (fl.drop i) acc a z = R ∧ FiL n acc cs ∧ RmS w wr g s a false h9 3 cs) (fun _ u _ => n - (intOf u).toNat)
  case atStart => exact ⟨0, [], a0, 0, _, rfl, Nat.zero_le _, rfl, ⟨by decide, by decide⟩, rfl, HR0.out, SF.out, S.out⟩
  case round =>
    obtain ⟨i, acc, a, z, cs, rfl, hi, rfl, hz, hal, hR, hfi, hS⟩ := hrel
    have hle := hS.r.le
    have HS1 := Lib.hid hS
    have HFi := Lib.hid hfi
    have HAL := Lib.hid hal
    have HR := Lib.hid hR
    by_cases hgo : i < n
    · obtain ⟨ad, rfl, hc⟩ := HI.out.1.ro HI.out.2 hS.r.onl hgo
      have hil : i < fl.length := by rw [HLn.out]; exact hgo
      have hd := drop_co hil
      rw [hd] at hR
      obtain ⟨hf1, hf2⟩ := HFl.out i hil
      obtain ⟨f, hf⟩ : ∃ f : Nat, co fl i = (f : Int) := ⟨(co fl i).toNat, by omega⟩
      rw [hf] at hc hR
      have hf256 : f < 256 := by omega
      have e1 : (bits .and .u8 (f : Int) (sh : Int) != 0) = isS (f : Int) sh := and_bit f hf256 sh (by rcases HM.out with ⟨h, _⟩ | ⟨h, _⟩ <;> rw [h] <;> simp)
      have e2 : (bits .and .u8 (f : Int) (sm : Int) != 0) = isS (f : Int) sm := and_bit f hf256 sm (by rcases HM.out with ⟨_, h⟩ | ⟨_, h⟩ <;> rw [h] <;> simp)
      have hR2 : (if s.data.toList.length < a + widB (isS (f : Int) sh) (isS (f : Int) sm) then ((3, [], 0) : Int × List Int × Nat) else if okU (z + stpB s.data.toList a (isS (f : Int) sh) (isS (f : Int) sm)) then unts s.data.toList sh sm (fl.drop (i + 1)) (acc ++ [z + stpB s.data.toList a (isS (f : Int) sh) (isS (f : Int) sm)]) (a + widB (isS (f : Int) sh) (isS (f : Int) sm)) (z + stpB s.data.toList a (isS (f : Int) sh) (isS (f : Int) sm)) else (2, [], 0)) = R := hR
      rw [size_list] at hR2
      obtain ⟨b1, hb1⟩ : ∃ b, b = isS (f : Int) sh := ⟨_, rfl⟩
      obtain ⟨b2, hb2⟩ : ∃ b, b = isS (f : Int) sm := ⟨_, rfl⟩
      rw [← hb1] at e1 hR2
      rw [← hb2] at e2 hR2
      obtain ⟨hz1, hz2⟩ := hz
      obtain ⟨hv1, hv2⟩ := stpB_in s.data.toList a b1 b2
      by_cases c2 : s.size < a + widB b1 b2
      · rw [if_pos c2] at hR2
        have CS := Lib.hid (readStep_out g s a b1 b2 wr hS.r.rd HS.out hle c2)
        have HX := Lib.hid (fun w' ho => HE.out 3 _ w' hR2.symm (by decide) ho)
        clear hS hfi hal hR hR2 hle hd hf1 hf2 hf hb1 hb2 hv1 hv2 c2
        go_wp2_with (first
          | (go_at_call 301; (with_reducible refine CS.out.mono ?_); rintro e w2 ⟨rfl, hr, ho⟩; have H2 := Lib.hid (HS1.out.read hr ho HS1.out.r.le); clear hr ho)
          | (go_at_call 211; (with_reducible refine (err_bad _ _ _ _ H2.out.r.rd).mono ?_); rintro e w3 ⟨rfl, rfl⟩))
        go_ret2
        exact HX.out _ H2.out.r.onl
      · rw [if_neg c2] at hR2
        have CS := Lib.hid (readStep_in g s a b1 b2 wr hS.r.rd HS.out (by omega))
        have HA1 := Lib.hid (show a + widB b1 b2 ≤ s.size by omega)
        obtain ⟨v, hv⟩ : ∃ v, v = stpB s.data.toList a b1 b2 := ⟨_, rfl⟩
        rw [← hv] at CS hR2 hv1 hv2
        have CU := Lib.hid (fun W => unit_any (z + v) W)
        by_cases c3 : okU (z + v)
        · rw [if_pos c3] at hR2
          rw [decide_eq_true c3] at CU
          have HX := Lib.hid (And.intro hR2 c3)
          have hcl : i < cs.length := by rw [hfi.len]; exact hgo
          clear hS hfi hal hR hR2 hle hd hf1 hf2 hf hb1 hb2 c2 c3 hv
          go_wp2_with (first
            | (go_at_call 301; (with_reducible refine CS.out.mono ?_); rintro e w2 ⟨rfl, hr, ho⟩; have H2 := Lib.hid (HS1.out.read hr ho HA1.out); obtain ⟨u0, hu0⟩ := H2.out.row.has hcl; have fr0 := H2.out.row.fr i; clear hr ho)
            | (go_at_call 211; (with_reducible refine (err_ok _ _ _ _ H2.out.r.rd).mono ?_); rintro e w3 ⟨rfl, rfl⟩)
            | (go_at_call 192; (with_reducible refine (CU.out _).mono ?_); rintro e w3 ⟨rfl, rfl⟩))
          exact ⟨⟨i + 1, acc ++ [z + v], _, z + v, cs.set i (.int .i64 (z + v)), by simp, by omega, rfl, HX.out.2, by rw [List.length_append, HAL.out]; rfl, HX.out.1, by have := HFi.out.push (by rw [HAL.out]; exact hgo) (z + v); rw [HAL.out] at this; exact this, H2.out.set i _⟩, by simp [intOf]; omega⟩
        · rw [if_neg c3] at hR2
          rw [decide_eq_false c3] at CU
          have HX := Lib.hid (fun w' ho => HE.out 2 _ w' hR2.symm (by decide) ho)
          clear hS hfi hal hR hR2 hle hd hf1 hf2 hf hb1 hb2 c2 c3 hv
          go_wp2_with (first
            | (go_at_call 301; (with_reducible refine CS.out.mono ?_); rintro e w2 ⟨rfl, hr, ho⟩; have H2 := Lib.hid (HS1.out.read hr ho HA1.out); clear hr ho)
            | (go_at_call 211; (with_reducible refine (err_ok _ _ _ _ H2.out.r.rd).mono ?_); rintro e w3 ⟨rfl, rfl⟩)
            | (go_at_call 192; (with_reducible refine (CU.out _).mono ?_); rintro e w3 ⟨rfl, rfl⟩))
          go_ret2
          exact HX.out _ H2.out.r.onl
    · have hin : i = n := by omega
      subst hin
      have hx : unts s.data.toList sh sm (fl.drop i) acc a z = (0, acc, a) := by rw [List.drop_eq_nil_of_le (by rw [HLn.out]; omega)]; rfl
      have HX := Lib.hid (HF.out acc a h9 cs wr (hR.symm.trans hx) hal hfi hS)
      clear hS hfi hal hR hx hle
      go_wp2_with fail
      go_ret2
      exact HX.out
end N15
end Go.Proofs.YtfhaloclbbmbeaaGreat
