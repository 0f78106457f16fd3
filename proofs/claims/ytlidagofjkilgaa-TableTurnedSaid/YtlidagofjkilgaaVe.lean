/- Proved here: what Parse answers, in the document, where the header is right. Condition: a text of at most 10^6 - 10 bytes. -/
import Derived.Test.YtlidagofjkilgaaVd
namespace Go.Proofs.Ytlidagofjkilgaa
open Go.RowKit

set_option maxRecDepth 100000 in
set_option maxHeartbeats 8000000 in
theorem rparse_main (s : ByteArray) (w : World) (hs : s.size ≤ 1000000 - 10) (h12 : 12 ≤ s.size) (hb : ¬ badH s.data.toList) (h0 : 0 < cntN s.data.toList) (h64 : cntN s.data.toList ≤ 64) : Calls Try.prog 13 #[.string s] w (PrE s.data.toList w) := by
  obtain ⟨z, hz⟩ : ∃ z, z = s.size := ⟨_, rfl⟩
  have hsz : s.size = z := hz.symm
  have hlz : s.data.toList.length = z := by rw [size_list, hz]
  rw [hsz] at hs h12
  have d1 : decide (1048576 < (z : Int)) = false := decide_eq_false (by omega)
  have d2 : decide ((z : Int) < 12) = false := decide_eq_false (by omega)
  have hr1 := fun W => to_run s 4 (by omega) W
  rw [← piece_zero] at hr1
  obtain ⟨D, hD⟩ : ∃ D : ByteArray, D = ⟨(piece s.data.toList 0 4).toArray⟩ := ⟨_, rfl⟩
  have hH := HdF.of (D := D) (l := s.data.toList) (by rw [hD])
  rw [← hD] at hr1
  have r1 : ∀ W, (Instr.slice 9 (.string s) none (some (.int .i64 4)) none).run Try.prog W = .ok (.string D) W := hr1
  obtain ⟨n, hn⟩ : ∃ n, n = cntN s.data.toList := ⟨_, rfl⟩
  have hu := fun W => ru16_same s 4 W (by omega) (by omega)
  have hu : ∀ W, Calls Try.prog 31 #[.string s, .int .i64 4] W fun e w' => e = .returned (.tuple #[.int .u16 (n : Int), .int .i64 0]) ∧ W = w' := by rw [hn]; exact hu
  have v6 := fun W => ru16_same s 6 W (by omega) (by omega)
  have v8 := fun W => ru16_same s 8 W (by omega) (by omega)
  have v10 := fun W => ru16_same s 10 W (by omega) (by omega)
  have hni := nums_iff (l := s.data.toList) (n := n) (by omega) hn.symm (by omega) (by omega)
  have hPE0 : cntE s.data.toList = if piece s.data.toList 4 8 ≠ nums n then 4 else if z < 12 + 16 * n then 3 else 0 := by
    unfold cntE
    rw [hlz, if_neg (by omega), if_neg (by omega), if_neg (fun hh => hh.elim hb (by omega)), if_neg (by omega), ← hn]
  have hPE : cntE s.data.toList = 0 → PE s.data.toList = fe s.data.toList n n := fun h => by unfold PE; rw [if_pos h, hn]
  have hPT : PE s.data.toList = 0 → PT s.data.toList = tabs s.data.toList n := fun h => by unfold PT; rw [if_pos h, hn]
  rw [← hn] at h0 h64
  obtain ⟨x6, hx6⟩ : ∃ x, x = bv (piece s.data.toList 6 2) 0 := ⟨_, rfl⟩
  obtain ⟨x8, hx8⟩ : ∃ x, x = bv (piece s.data.toList 8 2) 0 := ⟨_, rfl⟩
  obtain ⟨x10, hx10⟩ : ∃ x, x = bv (piece s.data.toList 10 2) 0 := ⟨_, rfl⟩
  have m6 : x6 < 65536 := by rw [hx6]; exact bv_le _ 2 (piece_len_le _ _ _)
  have m8 : x8 < 65536 := by rw [hx8]; exact bv_le _ 2 (piece_len_le _ _ _)
  have m10 : x10 < 65536 := by rw [hx10]; exact bv_le _ 2 (piece_len_le _ _ _)
  have v6 : ∀ W, Calls Try.prog 31 #[.string s, .int .i64 6] W fun e w' => e = .returned (.tuple #[.int .u16 (x6 : Int), .int .i64 0]) ∧ W = w' := by rw [hx6]; exact v6
  have v8 : ∀ W, Calls Try.prog 31 #[.string s, .int .i64 8] W fun e w' => e = .returned (.tuple #[.int .u16 (x8 : Int), .int .i64 0]) ∧ W = w' := by rw [hx8]; exact v8
  have v10 : ∀ W, Calls Try.prog 31 #[.string s, .int .i64 10] W fun e w' => e = .returned (.tuple #[.int .u16 (x10 : Int), .int .i64 0]) ∧ W = w' := by rw [hx10]; exact v10
  rw [← hx6, ← hx8, ← hx10] at hni
  have C3 := Lib.hid (fun W => three_any n W h0 h64)
  obtain ⟨a, ha⟩ : ∃ a, a = 16 * 2 ^ pw n := ⟨_, rfl⟩
  obtain ⟨p, hp⟩ : ∃ p, p = pw n := ⟨_, rfl⟩
  obtain ⟨r, hr⟩ : ∃ r, r = 16 * n - a := ⟨_, rfl⟩
  rw [← ha, ← hr, ← hp] at C3 hni
  have HU := Lib.hid hu
  have V6 := Lib.hid v6
  have V8 := Lib.hid v8
  have V10 := Lib.hid v10
  have HNI := Lib.hid hni
  have HE0 := Lib.hid hPE0
  have HPE := Lib.hid hPE
  have HPT := Lib.hid hPT
  have HZ := Lib.hid (And.intro hsz (And.intro hs (And.intro h0 h64)))
  have ew : IntKind.i64.wrap (n : Int) = (n : Int) := i64_in _ (by omega)
  have ew6 : IntKind.i64.wrap (x6 : Int) = (x6 : Int) := i64_in _ (by omega)
  have ew8 : IntKind.i64.wrap (x8 : Int) = (x8 : Int) := i64_in _ (by omega)
  have ew10 : IntKind.i64.wrap (x10 : Int) = (x10 : Int) := i64_in _ (by omega)
  have e0 : ((n : Int) == 0) = false := by simp; omega
  have e6 : ¬ 64 < n := by omega
  have HP4 := Lib.hid (fun w' (h : ¬ piece s.data.toList 4 8 = nums n) (hb : Below w.heap.size w w') => prE_err (l := s.data.toList) (x := 4) (pe_cnt (by rw [hPE0, if_pos h]) (by decide)) (by decide) hb)
  have HP3 := Lib.hid (fun w' (h : piece s.data.toList 4 8 = nums n) (h2 : z < 12 + 16 * n) (hb : Below w.heap.size w w') => prE_err (l := s.data.toList) (x := 3) (pe_cnt (by rw [hPE0, if_neg (by simp [h]), if_pos h2]) (by decide)) (by decide) hb)
  have hga : ∃ a b, HdF D a b ∧ (a = true ∨ (a = false ∧ b = true)) := by
    by_cases h7 : piece s.data.toList 0 4 = [0, 1, 0, 0]
    · rw [decide_eq_true h7] at hH; exact ⟨true, _, hH, .inl rfl⟩
    · by_cases h8 : piece s.data.toList 0 4 = [116, 114, 117, 101]
      · rw [decide_eq_false h7, decide_eq_true h8] at hH; exact ⟨false, true, hH, .inr ⟨rfl, rfl⟩⟩
      · exact absurd ⟨h7, h8⟩ hb
  obtain ⟨ba, bb, hH, hab⟩ := hga
  obtain ⟨a1, a2, b1, b2⟩ := hH
  obtain ⟨i25, a25, b25, c25, d25⟩ := info_parts Try.info25
  obtain ⟨i74, a74, b74, c74, d74⟩ := info_parts Try.info74
  have H25 := Lib.hid (And.intro a25 (And.intro b25 (And.intro c25 d25)))
  have H74 := Lib.hid (And.intro a74 (And.intro b74 (And.intro c74 d74)))
  have K0 := Lib.hid (Below.refl w.heap.size w)
  clear hz hlz hs h12 hb h0 hr1 hD hu v6 v8 v10 hni hPE0 hPE hPT hx6 hx8 hx10 ha hp hr hn a25 b25 c25 d25 a74 b74 c74 d74
  have hcut : ∃ t : Bool, (ba = true ∨ (ba = false ∧ bb = true)) := ⟨true, hab⟩
  clear hcut
  rcases hab with rfl | ⟨rfl, rfl⟩
  all_goals
    go_enter Try.func13, Try.ntmps13
    go_upto_region 14 with (first
      | (go_at_call 31; (with_reducible refine (HU.out _).mono ?_); rintro e w' ⟨rfl, rfl⟩)
      | (go_at_call 25; (with_reducible refine (C3.out _).mono ?_); rintro e w4 ⟨rfl, hw4⟩; have K2 := Lib.hid (show Th3 w w4 w.heap.size a p r from by rw [hw4]; exact ⟨K0.out.alloc K0.out.size _, heap_alloc_new w _⟩); clear hw4))
    obtain ⟨g3, hg3⟩ : ∃ g, g = w.heap.size := ⟨_, rfl⟩
    rw [← hg3] at K2 ⊢
    clear hg3 K0
    go_wp2_with fail
    go_loopw [8] (fun v wi => ∃ i : Nat, v = .int .i64 (i : Int) ∧ i ≤ 3 ∧ (0 < i → x6 = a) ∧ (1 < i → x8 = p) ∧ (2 < i → x10 = r) ∧ Th3 w wi g3 a p r) (fun v _ => 3 - (intOf v).toNat)
    case atStart => exact ⟨0, rfl, by omega, fun h => by omega, fun h => by omega, fun h => by omega, K2.out⟩
    case round =>
      obtain ⟨i, rfl, hi, q0, q1, q2, hK⟩ := hrel
      have HK := Lib.hid hK
      have Q0 := Lib.hid q0
      have Q1 := Lib.hid q1
      have Q2 := Lib.hid q2
      clear hK q0 q1 q2
      obtain ⟨f0, f1, f2⟩ := HK.out.facts
      rcases (by omega : i = 0 ∨ i = 1 ∨ i = 2 ∨ i = 3) with rfl | rfl | rfl | hi3
      · by_cases he : x6 = a
        · have e9 : ((x6 : Int) != (a : Int)) = false := by simp [he]
          have HI := Lib.hid he
          clear he
          go_wp2_with (go_at_call 31; (with_reducible refine (V6.out _).mono ?_); rintro e w' ⟨rfl, rfl⟩)
          exact ⟨⟨0 + 1, by simp, by omega, fun _ => HI.out, fun h => by omega, fun h => by omega, HK.out⟩, by simp [intOf]; try omega⟩
        · have e9 : ((x6 : Int) != (a : Int)) = true := by simp; omega
          have HPx := Lib.hid (HP4.out wr (fun h => he (HNI.out.1 h).1) HK.out.bel)
          clear he
          go_wp2_with (go_at_call 31; (with_reducible refine (V6.out _).mono ?_); rintro e w' ⟨rfl, rfl⟩)
          go_ret2
          exact HPx.out
      · by_cases he : x8 = p
        · have e9 : ((x8 : Int) != (p : Int)) = false := by simp [he]
          have HI := Lib.hid he
          clear he
          go_wp2_with (go_at_call 31; (with_reducible refine (V8.out _).mono ?_); rintro e w' ⟨rfl, rfl⟩)
          exact ⟨⟨1 + 1, by simp, by omega, fun _ => Q0.out (by omega), fun _ => HI.out, fun h => by omega, HK.out⟩, by simp [intOf]; try omega⟩
        · have e9 : ((x8 : Int) != (p : Int)) = true := by simp; omega
          have HPx := Lib.hid (HP4.out wr (fun h => he (HNI.out.1 h).2.1) HK.out.bel)
          clear he
          go_wp2_with (go_at_call 31; (with_reducible refine (V8.out _).mono ?_); rintro e w' ⟨rfl, rfl⟩)
          go_ret2
          exact HPx.out
      · by_cases he : x10 = r
        · have e9 : ((x10 : Int) != (r : Int)) = false := by simp [he]
          have HI := Lib.hid he
          clear he
          go_wp2_with (go_at_call 31; (with_reducible refine (V10.out _).mono ?_); rintro e w' ⟨rfl, rfl⟩)
          exact ⟨⟨2 + 1, by simp, by omega, fun _ => Q0.out (by omega), fun _ => Q1.out (by omega), fun _ => HI.out, HK.out⟩, by simp [intOf]; try omega⟩
        · have e9 : ((x10 : Int) != (r : Int)) = true := by simp; omega
          have HPx := Lib.hid (HP4.out wr (fun h => he (HNI.out.1 h).2.2) HK.out.bel)
          clear he
          go_wp2_with (go_at_call 31; (with_reducible refine (V10.out _).mono ?_); rintro e w' ⟨rfl, rfl⟩)
          go_ret2
          exact HPx.out
      · have g4 : decide ((i : Int) < 3) = false := decide_eq_false (by omega)
        have hnu := HNI.out.2 ⟨Q0.out (by omega), Q1.out (by omega), Q2.out (by omega)⟩
        have K4 := Lib.hid (PsR.start HK.out.bel)
        obtain ⟨y1, y2, y3, y4⟩ := HZ.out
        have w1 : IntKind.i64.wrap (16 * (n : Int)) = 16 * (n : Int) := i64_in _ (by omega)
        obtain ⟨fin, hfin⟩ : ∃ f, f = 12 + 16 * n := ⟨_, rfl⟩
        have w2 : IntKind.i64.wrap (12 + 16 * (n : Int)) = (fin : Int) := by rw [i64_in _ (by omega)]; omega
        by_cases hz : z < fin
        · have HPx := Lib.hid (HP3.out wr hnu (by omega) HK.out.bel)
          have d4 : z < fin := hz
          clear hnu y1 y2 y3 y4 hfin hz f0 f1 f2 hi3 hi
          go_wp2_with fail
          go_ret2
          exact HPx.out
        have d4 : ¬ z < fin := hz
        have hce : cntE s.data.toList = 0 := by rw [HE0.out, if_neg (by simp [hnu]), if_neg (by omega)]
        have HPE2 := Lib.hid (HPE.out hce)
        have HZ2 := Lib.hid (show 12 + 16 * n ≤ s.size by omega)
        have HS2 := Lib.hid (show s.size ≤ 1000000 - 10 by omega)
        have HFI := Lib.hid hfin
        clear hnu y1 y2 y3 hfin hz f0 f1 f2 hi3 hi hce K2 HK Q0 Q1 Q2
        go_wp2_with fail
        go_loopw [11, 12, 13, 14] (fun x y u v wi => ∃ (k : Nat) (Ao As : Option Addr) (co cs : Nat), v = .int .i64 (k : Int) ∧ k ≤ n ∧ x = .slice Ao k co ∧ y = .slice As k cs ∧ u = .string ⟨(lastT s.data.toList k).toArray⟩ ∧ fe s.data.toList n k = 0 ∧ PsR w wi x y k k (tabs s.data.toList k) (rows s.data.toList k)) (fun _ _ _ v _ => n - (intOf v).toNat)
        case atStart => exact ⟨0, none, none, 0, 0, rfl, Nat.zero_le _, rfl, rfl, rfl, rfl, K4.out⟩
        case round =>
          obtain ⟨k, Ao, As, co, cs, rfl, hk, rfl, rfl, rfl, hfe, hK⟩ := hrel
          have HK := Lib.hid hK
          have HFE := Lib.hid hfe
          clear hK hfe
          obtain ⟨T, hT⟩ : ∃ T : ByteArray, T = ⟨(lastT s.data.toList k).toArray⟩ := ⟨_, rfl⟩
          rw [← hT]
          have HT0 := Lib.hid hT
          by_cases hgo : k < n
          · obtain ⟨ak, hak⟩ : ∃ x, x = 12 + 16 * k := ⟨_, rfl⟩
            have w3 : IntKind.i64.wrap (16 * (k : Int)) = 16 * (k : Int) := i64_in _ (by omega)
            have w4 : IntKind.i64.wrap (12 + 16 * (k : Int)) = (ak : Int) := by rw [i64_in _ (by omega)]; omega
            have hrow := fun W (hA : Sl W As k (rows s.data.toList k)) => rrow_any s n k As cs W HS2.out y4 hgo HZ2.out hA HFE.out
            rw [← hak, ← HFI.out, ← hT] at hrow
            unfold RwE at hrow
            obtain ⟨X, hX⟩ : ∃ X : ByteArray, X = ⟨(rwX s.data.toList n k).toArray⟩ := ⟨_, rfl⟩
            obtain ⟨Dd, hDd⟩ : ∃ X : ByteArray, X = ⟨(rwD s.data.toList n k).toArray⟩ := ⟨_, rfl⟩
            obtain ⟨P, hP⟩ : ∃ x, x = rwP s.data.toList n k := ⟨_, rfl⟩
            obtain ⟨Q, hQ⟩ : ∃ x, x = rwQ s.data.toList n k := ⟨_, rfl⟩
            obtain ⟨x, hx⟩ : ∃ x, x = rE s.data.toList n k := ⟨_, rfl⟩
            rw [← hX, ← hDd, ← hP, ← hQ, ← hx] at hrow
            have HROW := Lib.hid hrow
            have HX := Lib.hid hx
            have HEQ := Lib.hid (fun (h0 : x = 0) => show X = ⟨((rowOf s.data.toList k).tag).toArray⟩ ∧ Dd = ⟨(piece s.data.toList (rowOf s.data.toList k).place (rowOf s.data.toList k).size).toArray⟩ ∧ P = (rowOf s.data.toList k).place ∧ Q = (rowOf s.data.toList k).place + (rowOf s.data.toList k).size from by
              rw [hX, hDd, hP, hQ]
              unfold rwX rwD rwP rwQ
              rw [← hx, if_pos h0, if_pos h0, if_pos h0, if_pos h0]
              exact ⟨rfl, rfl, rfl, rfl⟩)
            clear hak hrow hX hDd hP hQ hx hT
            go_upto_region 29 with (go_at_call 32; (with_reducible refine (HROW.out _ (own_sl HK.out.oa (rows_len _ _))).mono ?_); rintro e w5 ⟨rfl, hb⟩; have K5 := Lib.hid (HK.out.next hb); clear hb)
            have hb2 : Below w5.heap.size w5 ((w5.alloc (.cells #[.string X, .string Dd] 25)).alloc (.cells #[.int .i64 (P : Int), .int .i64 (Q : Int)] 74)) := ((Below.refl _ _).alloc (Nat.le_refl _) _).alloc (by simp) _
            have K6 := Lib.hid (And.intro (K5.out.next hb2) (BxP.new w5 X Dd (P : Int) (Q : Int)))
            have HFO := Lib.hid (And.intro (And.intro (own_far K5.out.oo (Nat.le_refl _)) (own_far K5.out.oo (Nat.le_succ _))) (And.intro (own_far K5.out.oa (Nat.le_refl _)) (own_far K5.out.oa (Nat.le_succ _))))
            obtain ⟨W6, hW6⟩ : ∃ W, W = (w5.alloc (.cells #[.string X, .string Dd] 25)).alloc (.cells #[.int .i64 (P : Int), .int .i64 (Q : Int)] 74) := ⟨_, rfl⟩
            obtain ⟨g6, hg6⟩ : ∃ x, x = w5.heap.size + 1 := ⟨_, rfl⟩
            rw [show w5.heap.size.succ = w5.heap.size + 1 from rfl] at HFO
            rw [← hW6, ← hg6] at K6
            rw [← hg6] at HFO
            rw [← hW6, ← hg6]
            obtain ⟨g5, hg5⟩ : ∃ x, x = w5.heap.size := ⟨_, rfl⟩
            rw [← hg5] at K6 HFO ⊢
            clear hW6 hg6 hg5 K5 hb2
            by_cases hx0 : x = 0
            · have HE2 := Lib.hid (HEQ.out hx0)
              have HFE2 := Lib.hid (show fe s.data.toList n (k + 1) = 0 by rw [fe_succ HFE.out, ← HX.out, hx0])
              subst hx0
              go_upto_region 31 with fail
              obtain ⟨c0, c1, c2, c3⟩ := K6.out.2.cells
              go_upto_region 32 with (at_builtin; go_must (refine wpList_append_own _ rfl (.tmp 92) (.tmp 94) 22 rfl w.heap.size 25 i25 _ 2 32 Try.underlying22 H25.out.1 H25.out.2.1 H25.out.2.2.1 H25.out.2.2.2 rfl (by decide) (.slice Ao k co) k (tabC (tabs s.data.toList k)) rfl (K6.out.1.oo.alloc _) ⟨W6.heap.size, 0, none⟩ 1 1 [.string X, .string Dd] rfl rfl (cells_new _ _ _) (by intro u hu; simp at hu; rcases hu with rfl | rfl <;> rfl) (by unfold maxLen; omega) (by omega) (by have := K6.out.1.bel.size; simp; omega) ?_); intro v' w7 hown' hg' _)
              have K7 := Lib.hid (show PsR w w7 v' (.slice As k cs) (k + 1) k (tabs s.data.toList (k + 1)) (rows s.data.toList k) ∧ BxP w7 g5 g6 X Dd P Q from by
                have hbl : Below W6.heap.size W6 (W6.alloc (.cells #[.string X, .string Dd] 25)) := (Below.refl _ _).alloc (Nat.le_refl _) _
                have h1 := K6.out.1.next hbl
                rw [tabs_succ]
                refine ⟨h1.tab hg' (by rw [← HE2.out.1, ← HE2.out.2.1]; exact hown'), (K6.out.2.bel hbl).grown hg' HFO.out.1.1 HFO.out.1.2⟩)
              obtain ⟨A', c', rfl⟩ := own_form hown'
              clear hg' hown' c0 c1 c2 c3 K6
              obtain ⟨c0, c1, c2, c3⟩ := K7.out.2.cells
              go_upto_region 33 with (at_builtin; go_must (refine wpList_append_own _ rfl (.tmp 96) (.tmp 98) 73 rfl w.heap.size 74 i74 _ 2 16 Try.underlying73 H74.out.1 H74.out.2.1 H74.out.2.2.1 H74.out.2.2.2 rfl (by decide) (.slice As k cs) k (spC (rows s.data.toList k)) rfl (K7.out.1.oa.alloc _) ⟨w7.heap.size, 0, none⟩ 1 1 [.int .i64 (P : Int), .int .i64 (Q : Int)] rfl rfl (cells_new _ _ _) (by intro u hu; simp at hu; rcases hu with rfl | rfl <;> rfl) (by unfold maxLen; omega) (by omega) (by have := K7.out.1.bel.size; simp; omega) ?_); intro v' w8 hown' hg' _)
              have K8 := Lib.hid (show PsR w w8 (.slice A' (k + 1) c') v' (k + 1) (k + 1) (tabs s.data.toList (k + 1)) (rows s.data.toList (k + 1)) ∧ BxP w8 g5 g6 X Dd P Q from by
                have hbl : Below w7.heap.size w7 (w7.alloc (.cells #[.int .i64 (P : Int), .int .i64 (Q : Int)] 74)) := (Below.refl _ _).alloc (Nat.le_refl _) _
                have h1 := K7.out.1.next hbl
                rw [rows_succ]
                refine ⟨h1.span hg' (by rw [← HE2.out.2.2.2, ← HE2.out.2.2.1]; exact hown'), (K7.out.2.bel hbl).grown hg' HFO.out.2.1 HFO.out.2.2⟩)
              obtain ⟨A2, c2', rfl⟩ := own_form hown'
              clear hg' hown' c0 c1 c2 c3 K7
              obtain ⟨c0, c1, c2, c3⟩ := K8.out.2.cells
              have HLT := Lib.hid (show X = ⟨(lastT s.data.toList (k + 1)).toArray⟩ by rw [HE2.out.1]; unfold lastT; rw [if_neg (by omega), Nat.add_sub_cancel])
              go_wp2_with fail
              exact ⟨⟨k + 1, A', A2, c', c2', by simp, by omega, rfl, rfl, (by rw [HLT.out]), HFE2.out, K8.out.1⟩, by simp [intOf]; omega⟩
            · have e1 : (x != 0) = true := by simp [hx0]
              have HP := Lib.hid (fun w' (hb : Below w.heap.size w w') => prE_err (show PE s.data.toList = x by rw [HPE2.out, HX.out]; exact fe_at HFE.out (by rw [← HX.out]; exact hx0) hgo) hx0 hb)
              clear hx0
              go_wp2_with fail
              go_ret2
              exact HP.out _ K6.out.1.bel
          · have hkn : k = n := by omega
            subst hkn
            have HP0 := Lib.hid (show PE s.data.toList = 0 by rw [HPE2.out]; exact HFE.out)
            go_wp2_with fail
            go_ret2
            refine ⟨Ao, k, co, (by rw [HP0.out] <;> rfl), ?_, HK.out.bel⟩
            rw [HPT.out HP0.out]
            exact own_tl HK.out.oo (tabs_len _ _)
theorem rparse_any (s : ByteArray) (w : World) (hs : s.size ≤ 1000000 - 10) : Calls Try.prog 13 #[.string s] w (PrE s.data.toList w) := by
  by_cases h12 : s.size < 12
  · exact rparse_head s w (by omega) (.inl h12)
  · by_cases h : badH s.data.toList ∨ cntN s.data.toList = 0 ∨ 64 < cntN s.data.toList
    · exact rparse_head s w (by omega) (.inr ⟨by omega, h⟩)
    · exact rparse_main s w hs (by omega) (fun h1 => h (.inl h1)) (by have : ¬ cntN s.data.toList = 0 := fun h1 => h (.inr (.inl h1)); omega) (by have : ¬ 64 < cntN s.data.toList := fun h1 => h (.inr (.inr h1)); omega)
end Go.Proofs.Ytlidagofjkilgaa
