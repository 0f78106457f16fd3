/- Proved here: what package big's Text answers. Condition: a number in any form, of at most 50000 digits, that lies in memory, and the library's table of powers of ten at its place. -/
import Derived.Test.YthmpkejdficmgaaDoorRc
namespace Go.Proofs.YthmpkejdficmgaaDoor
open Go.RowKit
open Go.Lib (decDigits nDigits repeatL)
set_option maxHeartbeats 8000000 in
set_option maxRecDepth 100000 in
theorem text_pos_p (v : Value) (xs : List Nat) (w : World) (hv : Arr w .u32 v xs) (hx : Eg xs) (hl : xs.length ≤ 50000) (hpos : dw xs ≠ 0) (ht : Tab w) :
    Calls Tryd.prog 30 #[.agg #[.bool false, v]] w fun e w' => e = .returned (.string ⟨(([] : List UInt8) ++ decDigits (dw xs)).toArray⟩) ∧ Below w.heap.size w w' := by
  obtain ⟨A, c, rfl⟩ := hv.slice
  obtain ⟨p, hp⟩ : ∃ p, p = xs.length := ⟨_, rfl⟩
  rw [← hp] at hv hl ⊢
  have hne : tr xs ≠ [] := fun h => hpos (by rw [← tr_dw, h]; rfl)
  have hk0 : tl xs ≠ 0 := fun h => hne (List.eq_nil_of_length_eq_zero (by rw [tr_len]; exact h))
  have hb0 : ((tl xs : Int) == 0) = false := by simp; omega
  have HV := Lib.hid (hv.alloc (.cells #[.bool false, .slice A p c] 24))
  have H1 := Lib.hid (Tx1.start (w := w) (b := false) (v := .slice A p c) (x := .slice A (tl xs) c) (L := 50000) HV.out.tr (tr_eg hx) (tr_top xs) hne (by rw [tr_len]; have := tr_le xs; omega) (Bx.new 24 w false (.slice A p c)) (bel_a w _) (by simp))
  rw [tr_dw] at H1
  have HT := Lib.hid ht
  obtain ⟨PRE0, hPRE⟩ : ∃ P : List UInt8, P = ([] : List UInt8) := ⟨_, rfl⟩
  have hPl : PRE0.length ≤ 1 := by rw [hPRE]; decide
  clear hv hx hpos ht hp hne hk0
  go_enter Tryd.func30, Tryd.ntmps30
  go_wp2_with (go_at_call 37; (with_reducible refine (trim32_w A p c xs _ HV.out).mono ?_); rintro e w1 ⟨rfl, rfl⟩)
  go_loopw [3, 4] (fun x z wr => ∃ ch ys, Tx1 w wr false (.slice A p c) (dw xs) 50000 z x ch ys) (fun x _ _ => lenOf x)
  case atStart => exact ⟨_, _, H1.out⟩
  case round =>
    obtain ⟨ch, ys, hr⟩ := hrel
    obtain ⟨A', c', rfl⟩ := hr.arr.slice
    have HR := Lib.hid hr
    clear hr
    obtain ⟨n, hn⟩ : ∃ n, n = ys.length := ⟨_, rfl⟩
    rw [← hn] at HR ⊢
    have hnl : n ≤ 50000 := by have := HR.out.len; omega
    have hcl : ch.length ≤ 50000 := by have := HR.out.len; omega
    have HN := Lib.hid hn
    clear hn
    rcases n with _ | n
    · have hys : ys = [] := List.eq_nil_of_length_eq_zero HN.out.symm
      subst hys
      have h2 := HR.out.fin
      obtain ⟨Az, cz, rfl⟩ := h2.arr.slice
      have hAl : Arr (wr.alloc (.cells #[.pointer none, .slice none 0 0] 80)) .u64 (.slice Az ch.length cz) ch := h2.arr.alloc _
      have HAl := Lib.hid hAl
      have hbx := h2.bx.bel (bel_a wr (.cells #[.pointer none, .slice none 0 0] 80))
      have g0 := hbx.c0
      have H2 := Lib.hid h2
      have HTW := Lib.hid (HT.out.below (w' := wr) h2.bel)
      have HB := Lib.hid (Bld.new wr)
      have HBA := Lib.hid (bel_a wr (.cells #[.pointer none, .slice none 0 0] 80))
      have hq0 : ch.length ≠ 0 := fun h => h2.ne (List.eq_nil_of_length_eq_zero h)
      have HDL := Lib.hid (fun k => drop_len ch h2.pg k)
      clear h2 hAl hbx
      obtain ⟨q, hq⟩ : ∃ q, q = ch.length := ⟨_, rfl⟩
      rw [← hq] at hcl hq0 ⊢ HAl HDL
      have HQ := Lib.hid hq
      clear hq
      have HST := Lib.hid (Tx3.start (ch := ch) HB.out HBA.out)
      rw [← hPRE, ← HQ.out] at HST
      go_wp2_with fail
      obtain ⟨WW, hWW⟩ : ∃ W, W = wr := ⟨_, rfl⟩
      subst wr
      go_loopw [9] (fun i wv => ∃ k : Nat, i = .int .i64 ((k : Int) - 1) ∧ k ≤ q ∧ Tx3 WW wv ch PRE0 k) (fun i _ => (intOf i + 1).toNat)
      case atStart => exact ⟨q, rfl, Nat.le_refl _, HST.out⟩
      case round =>
        obtain ⟨k, hk, hkq, hr⟩ := hrel
        rcases k with _ | k
        · obtain rfl : u9 = .int .i64 (-1) := hk
          have HF := Lib.hid hr
          clear hr
          go_wp2_with (go_at_call 57; (with_reducible refine (str_any WW.heap.size WW.heap.size _ _ HF.out.bld HF.out.size).mono ?_); rintro e w3 ⟨rfl, hbe⟩)
          go_ret
          refine ⟨?_, bel_tr H2.out.bel (HF.out.bel.trans hbe)⟩
          rw [← H2.out.txt]
          first | rfl | (subst hPRE; rfl) | (rw [hPRE]; rfl)
        · obtain rfl : u9 = .int .i64 (k : Int) := by rw [hk]; congr 1; omega
          clear hk
          have HVr := Lib.hid ((H2.out.arr).bel hr.bel)
          obtain ⟨ad, rfl, _, hca⟩ := HVr.out.get k (by rw [← HQ.out]; omega)
          have hdl : dat ch k < ck := by
            have hkl : k < ch.length := by rw [← HQ.out]; omega
            have := H2.out.pg ch[k] (List.getElem_mem hkl)
            simpa [dat, hkl] using this
          have HTR := Lib.hid (HTW.out.below hr.bel)
          have hT : (decS (dat ch k)).size ≤ 19 := by rw [decS_size]; exact pg_nd hdl
          have HD64 := Lib.hid (Nat.lt_trans hdl ck_lt)
          have HR2 := Lib.hid hr
          have hL : (PRE0 ++ dch (ch.drop (k + 1))).length ≤ 1 + 950000 := by
            rw [List.length_append]
            have := HDL.out (k + 1)
            have h3 : 19 * ch.length ≤ 950000 := by rw [← HQ.out]; omega
            omega
          clear hr hdl
          rcases Nat.lt_or_ge (k + 1) q with hlast | hlast
          · have hd : decide ((k : Int) < (q : Int) - 1) = true := decide_eq_true (by omega)
            have hl5 : ((PRE0 ++ dch (ch.drop (k + 1))) ++ repeatL [48] (19 - (decS (dat ch k)).size)).length + (decS (dat ch k)).size ≤ 1000000 := by
              rw [List.length_append, show (repeatL [48] (19 - (decS (dat ch k)).size)).length = 19 - (decS (dat ch k)).size from by simp [Lib.repeatL_length]]
              omega
            go_wp2_with (first
              | (go_at_call 54; (with_reducible refine (fmt_any (dat ch k) _ HD64.out HTR.out).mono ?_); rintro e w3 ⟨rfl, hbe3⟩; have HB3 := Lib.hid (HR2.out.bld.bel hbe3); have hs3 : WW.heap.size ≤ w3.heap.size := Nat.le_trans HR2.out.size hbe3.size; have HE3 := Lib.hid (hbe3.mono HR2.out.size); clear hbe3)
              | (go_at_call 56; (with_reducible refine (rep_sub _ _ hT).mono ?_); rintro e w4 ⟨rfl, hbe4⟩; have HB4 := Lib.hid (HB3.out.bel hbe4); have hs4 : WW.heap.size ≤ w4.heap.size := Nat.le_trans hs3 hbe4.size; have HE4 := Lib.hid (HE3.out.trans (hbe4.mono hs3)); clear hbe4)
              | (go_at_call 55; (with_reducible refine (ws_any WW.heap.size WW.heap.size _ _ _ HB4.out (by have := rep_size (decS (dat ch k)).size; omega) hs4).mono ?_); rintro e w5 ⟨rfl, hb5, hbe5⟩; have HB5 := Lib.hid hb5; have hs5 : WW.heap.size ≤ w5.heap.size := Nat.le_trans hs4 hbe5.size; have HE5 := Lib.hid (HE4.out.trans hbe5); clear hb5 hbe5)
              | (go_at_call 55; (with_reducible refine (ws_any WW.heap.size WW.heap.size _ (decS (dat ch k)) _ HB5.out hl5 hs5).mono ?_); rintro e w6 ⟨rfl, hb6, hbe6⟩; have HB6 := Lib.hid hb6; have HE6 := Lib.hid (HE5.out.trans hbe6); clear hb6 hbe6))
            exact ⟨⟨k, rfl, by omega, HR2.out.more (by rw [← HQ.out]; exact hlast) rfl HB6.out HE6.out⟩, by simp [intOf]⟩
          · have hd : decide ((k : Int) < (q : Int) - 1) = false := decide_eq_false (by omega)
            go_wp2_with (first
              | (go_at_call 54; (with_reducible refine (fmt_any (dat ch k) _ HD64.out HTR.out).mono ?_); rintro e w3 ⟨rfl, hbe3⟩; have HB3 := Lib.hid (HR2.out.bld.bel hbe3); have hs3 : WW.heap.size ≤ w3.heap.size := Nat.le_trans HR2.out.size hbe3.size; have HE3 := Lib.hid (hbe3.mono HR2.out.size); clear hbe3)
              | (go_at_call 55; (with_reducible refine (ws_any WW.heap.size WW.heap.size _ (decS (dat ch k)) _ HB3.out (by omega) hs3).mono ?_); rintro e w6 ⟨rfl, hb6, hbe6⟩; have HB6 := Lib.hid hb6; have HE6 := Lib.hid (HE3.out.trans hbe6); clear hb6 hbe6))
            exact ⟨⟨k, rfl, by omega, HR2.out.last (by rw [← HQ.out]; omega) HB6.out HE6.out⟩, by simp [intOf]⟩
    · have hdv := Lib.hid (divide_ck (.slice A' (n + 1) c') ys wr HR.out.arr HR.out.eg (by rw [← HN.out]; omega))
      obtain ⟨Az, cz, rfl⟩ := (Arr.of_own (k := .u64) HR.out.own).slice
      go_wp2_with (first
        | (go_at_call 52; (with_reducible refine hdv.out.mono ?_); rintro e w1 ⟨g, nn, r, zs, rfl, hr1, hz, hze, hzv, hnn, hb1, hgg⟩; have HZ := Lib.hid (And.intro hr1 (And.intro hz (And.intro hze (And.intro hzv (And.intro hnn (And.intro hb1 hgg)))))); have hown1 := Lib.hid (own_keep HR.out.own hb1); have hs1 : w.heap.size + 1 ≤ w1.heap.size := Nat.le_trans HR.out.size hb1.size; clear hr1 hz hze hzv hnn hb1 hgg)
        | (at_builtin; go_must (refine push_keep rfl (.tmp 25) (.tmp 27) rfl (w.heap.size + 1) (.slice Az ch.length cz) ch.length ch r rfl hown1.out hs1 (by omega) rfl ?_); intro A2 m2 c2 w2 hown2 hb2 hg2; have HW := Lib.hid (tx_step HR.out HN.out.symm HZ.out.1 HZ.out.2.1 HZ.out.2.2.1 HZ.out.2.2.2.1 HZ.out.2.2.2.2.2.1 HZ.out.2.2.2.2.2.2 hown2 hb2 hg2); have HZ2 := Lib.hid (HW.out.1); clear hown2 hb2 hg2)
        | (go_at_call 37; (with_reducible refine (trim32_w (some ⟨g, 0, none⟩) nn nn zs _ HZ2.out).mono ?_); rintro e w1 ⟨rfl, rfl⟩))
      exact ⟨⟨_, _, HW.out.2.1⟩, HW.out.2.2⟩

set_option maxHeartbeats 1000000 in
theorem text_zero (b : Bool) (v : Value) (xs : List Nat) (w : World) (hv : Arr w .u32 v xs) (_hx : Eg xs) (hz : dw xs = 0) :
    Calls Tryd.prog 30 #[.agg #[.bool b, v]] w fun e w' => e = .returned (.string ⟨(decDigits 0).toArray⟩) ∧ Below w.heap.size w w' := by
  obtain ⟨A, c, rfl⟩ := hv.slice
  obtain ⟨p, hp⟩ : ∃ p, p = xs.length := ⟨_, rfl⟩
  rw [← hp] at hv ⊢
  have h0 : tr xs = [] := (top_zero32 (tr_top xs)).1 (by rw [tr_dw]; exact hz)
  have hk0 : tl xs = 0 := by rw [← tr_len, h0]; rfl
  have HV := Lib.hid (hv.alloc (.cells #[.bool b, .slice A p c] 24))
  have ht := fun W => trim32_w A p c xs W
  rw [hk0] at ht
  clear hv _hx hz hp h0 hk0
  have HTR := Lib.hid (fun W => ht W)
  clear ht
  go_enter Tryd.func30, Tryd.ntmps30
  go_wp2_with (go_at_call 37; (with_reducible refine (HTR.out _ HV.out).mono ?_); rintro e w1 ⟨rfl, rfl⟩)
  go_ret
  have e0 : decDigits 0 = [48] := by first | decide | simp [decDigits] | (rw [decDigits]; rfl)
  rw [e0]
  exact ⟨rfl, bel_a w _⟩
/-- Text. -/
theorem text_any (X : Value) (x : Int) (l : Nat) (w : World) (hX : BigA w X x l) (hl : l ≤ 50000) (ht : Tab w) : Calls Tryd.prog 30 #[X] w fun e w' => e = .returned (.string ⟨(txt x).toArray⟩) ∧ Below w.heap.size w w' := by
  obtain ⟨n, v, xs, rfl, hv, hx, hxl, rfl⟩ := hX
  rcases Nat.eq_zero_or_pos (dw xs) with h0 | h0
  · have e1 : txt (sv n (dw xs)) = decDigits 0 := by
      rw [sv_zero.2 h0]; rfl
    rw [e1]
    exact text_zero n v xs w hv hx h0
  · cases n
    · have e1 : txt (sv false (dw xs)) = ([] : List UInt8) ++ decDigits (dw xs) := by
        have : ¬ (sv false (dw xs) < 0) := by simp [sv]
        unfold txt
        rw [if_neg this]
        simp [sv]
      rw [e1]
      exact text_pos_p v xs w hv hx (by omega) (by omega) ht
    · have e1 : txt (sv true (dw xs)) = ([45] : List UInt8) ++ decDigits (dw xs) := by
        have : sv true (dw xs) < 0 := by simp [sv]; omega
        unfold txt
        rw [if_pos this]
        simp [sv]
      rw [e1]
      exact text_pos_n v xs w hv hx (by omega) (by omega) ht
end Go.Proofs.YthmpkejdficmgaaDoor
