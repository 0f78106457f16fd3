/- Proved here: TableTurned's law, of lists that it asks for. Condition: the list lies in memory. -/
import Derived.Test.YtlidagofjkilgaaXd
namespace Go.Proofs.Ytlidagofjkilgaa
open Go.RowKit

theorem mkF_small {L : List (List UInt8 × List UInt8)} (h : mkE L = 0) (hd : ∀ i, i < L.length → (dt L i).length ≤ 200) : (mkF L).length ≤ 1000000 := by
  obtain ⟨h0, hr, h64, hs⟩ := mkE_zero h
  have : ∀ j, j ≤ L.length → (body (L.take j)).length ≤ 300 * j := fun j => by
    induction j with
    | zero => intro _; exact Nat.le_refl _
    | succ j ih =>
      intro hj
      have h1 := ih (by omega)
      rw [body_next (by omega), List.length_append, blk_up]
      have := hd j (by omega)
      omega
  have h9 := this L.length (Nat.le_refl _)
  rw [List.take_length] at h9
  rw [show mkF L = fnt L (body L) from rfl, fnt_len hr]
  omega
set_option maxRecDepth 100000 in
set_option maxHeartbeats 8000000 in
theorem turned_in (A : Option Addr) (m c : Nat) (L : List (List UInt8 × List UInt8)) (a0 a1 cb : Nat) (w : World) (h : Tl w A m L) (hmc : m ≤ c) (hcm : c ≤ maxLen) (h0 : 0 < m) (h10 : m ≤ 10) (hsm : ∀ i, i < m → (dt L i).length ≤ 200) (hb0 : a0 < 256) (hb1 : a1 < 256) (hcb : cb < 256) :
    Calls Try.prog 5 #[.slice A m c, .agg #[.int .u8 (a0 : Int), .int .u8 (a1 : Int)], .int .u8 (cb : Int)] w fun e w' => e = .returned (.bool true) ∧ Below w.heap.size w w' := by
  have hl := h.len
  have HX := Lib.hid h
  have HSM := Lib.hid hsm
  have HL := Lib.hid hl
  have HMC := Lib.hid (And.intro hmc hcm)
  have K0 := Lib.hid (TrS.start w a0 a1)
  have hd : decide (10 < (m : Int)) = false := decide_eq_false (by omega)
  have e0 : ((m : Int) == 0) = false := by simp; omega
  -- the table that is turned
  obtain ⟨t, ht⟩ : ∃ t, t = a0 % m := ⟨_, rfl⟩
  have htm : t < m := by rw [ht]; exact Nat.mod_lt _ h0
  have w0 : IntKind.i64.wrap (a0 : Int) = (a0 : Int) := i64_in _ (by omega)
  have w1 : IntKind.i64.wrap (a1 : Int) = (a1 : Int) := i64_in _ (by omega)
  have m0 : (a0 : Int) % (m : Int) = (t : Int) := by rw [ht]; exact (Int.natCast_emod a0 m).symm
  have m0' : (a0 : Int).tmod (m : Int) = (t : Int) := by rw [Int.tmod_eq_emod_of_nonneg (by omega)]; exact m0
  have nz : ¬ m = 0 := by omega
  have htc : t ≤ c := by omega
  obtain ⟨Xt, hXt⟩ : ∃ X : ByteArray, X = ⟨(tg L t).toArray⟩ := ⟨_, rfl⟩
  obtain ⟨Dt, hDt⟩ : ∃ X : ByteArray, X = ⟨(dt L t).toArray⟩ := ⟨_, rfl⟩
  have hDz : Dt.size = (dt L t).length := by rw [hDt]; exact List.size_toArray
  have hnd2 : ∃ n, n = (dt L t).length := ⟨_, rfl⟩
  obtain ⟨nd, hnd⟩ := hnd2
  rw [← hnd] at hDz
  have hnd200 : nd ≤ 200 := by rw [hnd]; exact hsm t htm
  have HAT := Lib.hid (fun W (hb : Below w.heap.size w W) => show ∃ ad, A = some ad ∧ W.cell? (ad.add (t * 2)) = some (.string Xt) ∧ W.cell? { block := (ad.add (t * 2)).block, off := (ad.add (t * 2)).off + 1 } = some (.string Dt) by rw [hXt, hDt]; exact HX.out.at_ hb htm)
  obtain ⟨E, hE⟩ : ∃ x, x = mkE L := ⟨_, rfl⟩
  obtain ⟨S, hS⟩ : ∃ S : ByteArray, S = ⟨(mkS L).toArray⟩ := ⟨_, rfl⟩
  have c8 := fun W (hb : Below w.heap.size w W) => rmake_any A m c L W (HX.out.bel hb) (by omega) (fun i hi => by have := hsm i hi; omega)
  rw [← hE, ← hS] at c8
  have C8 := Lib.hid c8
  have H10 := Lib.hid h10
  have HND := Lib.hid hnd
  have HT := Lib.hid (And.intro htm ht)
  have HDt := Lib.hid (And.intro hXt hDt)
  have HES := Lib.hid (And.intro hE hS)
  clear h hmc hcm h0 h10 hsm hl hnd ht hXt hDt hE hS c8
  go_enter Try.func5, Try.ntmps5
  go_upto_region 5 with (go_at_call 6; (with_reducible refine (awake_any _).mono ?_); rintro e w1 ⟨rfl, hb⟩; have B := Lib.hid (K0.out.next hb); clear hb)
  obtain ⟨b4, hb4⟩ : ∃ b, b = w.heap.size := ⟨_, rfl⟩
  rw [← hb4] at B ⊢
  clear hb4 K0
  go_wp2_with fail
  go_loopw [31] (fun v wi => ∃ k : Nat, v = .int .i64 (k : Int) ∧ k ≤ m ∧ TrS w wi b4 a0 a1) (fun v _ => m - (intOf v).toNat)
  case atStart => exact ⟨0, rfl, Nat.zero_le _, B.out⟩
  case round =>
    obtain ⟨k, rfl, hk, hb⟩ := hrel
    have HB := Lib.hid hb
    clear hb
    have h10 := H10.out
    by_cases hgo : k < m
    · obtain ⟨ad, rfl, c0, c1⟩ := HX.out.at_ HB.out.bel hgo
      obtain ⟨X, hX⟩ : ∃ X : ByteArray, X = ⟨(tg L k).toArray⟩ := ⟨_, rfl⟩
      obtain ⟨D, hDD⟩ : ∃ D : ByteArray, D = ⟨(dt L k).toArray⟩ := ⟨_, rfl⟩
      have hDz : D.size = (dt L k).length := by rw [hDD]; exact List.size_toArray
      have hsm := HSM.out k hgo
      have hnd2 : ∃ n, n = (dt L k).length := ⟨_, rfl⟩
      obtain ⟨nd, hnd⟩ := hnd2
      rw [← hnd] at hDz hsm
      rw [← hX] at c0
      rw [← hDD] at c1
      have hBA := Lib.hid (HB.out.next ((Below.refl _ _).alloc (Nat.le_refl _) (.cells #[.string X, .string D] 25)))
      have d1 : decide (200 < (nd : Int)) = false := decide_eq_false (by omega)
      clear hX hDD hnd hsm
      go_wp2_with fail
      exact ⟨⟨k + 1, by simp, by omega, hBA.out⟩, by simp [intOf]; omega⟩
    · have hkm : k = m := by omega
      subst hkm
      obtain ⟨ad, rfl, t0, t1⟩ := HAT.out wr HB.out.bel
      clear t0 t1
      go_upto_region 12 with (go_at_call 8; (with_reducible refine (C8.out _ HB.out.bel).mono ?_); rintro e w2 ⟨rfl, hb⟩; have B2 := Lib.hid (HB.out.next hb); clear hb)
      obtain ⟨f0, f1⟩ := B2.out.cells
      obtain ⟨ad3, had3, t0, t1⟩ := HAT.out w2 B2.out.bel
      injection had3 with had3
      subst had3
      have htk := HT.out.1
      go_upto_region 13 with fail
      have B3 := Lib.hid (show TrT w (w2.alloc (.cells #[.string Xt, .string Dt] 25)) b4 a0 a1 w2.heap.size Xt Dt from ⟨B2.out.next ((Below.refl _ _).alloc (Nat.le_refl _) _), heap_alloc_new w2 _⟩)
      obtain ⟨g, hg⟩ : ∃ g, g = w2.heap.size := ⟨_, rfl⟩
      obtain ⟨W3, hW3⟩ : ∃ W, W = w2.alloc (.cells #[.string Xt, .string Dt] 25) := ⟨_, rfl⟩
      rw [← hg, ← hW3] at B3 ⊢
      clear hg hW3 f0 f1 t0 t1 B2
      obtain ⟨f0, f1⟩ := B3.out.s.cells
      obtain ⟨d0, d1⟩ := B3.out.cells
      by_cases hE0 : E ≠ 0
      · have e1 : (E != 0) = true := by simp [hE0]
        clear hE0
        go_wp2_with fail
        go_ret
        exact ⟨rfl, B3.out.s.bel⟩
      have hE0 : E = 0 := Decidable.not_not.1 hE0
      by_cases hn0 : nd = 0
      · have e2 : ((nd : Int) == 0) = true := by simp; omega
        subst hE0
        clear hn0
        go_wp2_with fail
        go_ret
        exact ⟨rfl, B3.out.s.bel⟩
      have e2 : ((nd : Int) == 0) = false := by simp; omega
      -- the place
      obtain ⟨q, hq⟩ : ∃ q, q = a1 % nd := ⟨_, rfl⟩
      have hqn : q < nd := by rw [hq]; exact Nat.mod_lt _ (by omega)
      have m1 : (a1 : Int) % (nd : Int) = (q : Int) := by rw [hq]; exact (Int.natCast_emod a1 nd).symm
      have m1' : (a1 : Int).tmod (nd : Int) = (q : Int) := by rw [Int.tmod_eq_emod_of_nonneg (by omega)]; exact m1
      have nz2 : ¬ nd = 0 := hn0
      have hmE : mkE L = 0 := by rw [← HES.out.1]; exact hE0
      have hoff := off_in hmE (t := t) (k := q) (by rw [HL.out]; exact htk) (by rw [← HND.out]; exact hqn)
      have hfl := mkF_len hmE
      have hSl : S.data.toList = mkF L := by rw [HES.out.2]; unfold mkS; rw [if_pos hmE]
      obtain ⟨pc, hpc⟩ : ∃ p, p = off L t + q := ⟨_, rfl⟩
      have w5 : IntKind.i64.wrap (16 * (k : Int)) = 16 * (k : Int) := i64_in _ (by have := H10.out; omega)
      have w6 : IntKind.i64.wrap (12 + 16 * (k : Int)) = 12 + 16 * (k : Int) := i64_in _ (by have := H10.out; omega)
      obtain ⟨o0, ho0⟩ : ∃ o, o = 12 + 16 * k + q := ⟨_, rfl⟩
      have w7 : IntKind.i64.wrap (12 + 16 * (k : Int) + (q : Int)) = (o0 : Int) := by rw [i64_in _ (by have := H10.out; omega)]; omega
      have HO := Lib.hid ho0
      have HQ := Lib.hid (And.intro hq (And.intro hqn (And.intro hpc (And.intro hmE (And.intro hoff (And.intro hfl hSl))))))
      have hmc := HMC.out.1
      clear hq hmE hoff hfl hSl hpc hn0 ho0
      subst hE0
      have HB3 := Lib.hid (HSM.out)
      go_upto_region 16 with fail
      go_wp2_with fail
      go_loopw [13, 84] (fun x v wi => ∃ j : Nat, v = .int .i64 (j : Int) ∧ j ≤ t ∧ x = .int .i64 ((o0 + (body (L.take j)).length : Nat) : Int) ∧ TrT w wi b4 a0 a1 g Xt Dt) (fun _ v _ => t - (intOf v).toNat)
      case atStart => exact ⟨0, rfl, Nat.zero_le _, rfl, B3.out⟩
      case round =>
        obtain ⟨j, rfl, hj, rfl, hK⟩ := hrel
        have HK := Lib.hid hK
        clear hK
        have hbm : (body (L.take j)).length ≤ 1048576 := by
          have h1 := body_mono (L := L) (i := j) (j := L.length) (by have := HL.out; omega) (Nat.le_refl _)
          rw [List.take_length] at h1
          have h2 := (mkE_zero HQ.out.2.2.2.1).2.2.2
          unfold szF at h2
          omega
        have hok : o0 ≤ 1000 := by have := HO.out; have := H10.out; have := HQ.out.2.1; omega
        by_cases hgo2 : j < t
        · obtain ⟨ad4, had4, c0, c1⟩ := HX.out.at_ HK.out.s.bel (i := j) (by omega)
          injection had4 with had4
          subst had4
          have hnx := body_next (L := L) (i := j) (by have := HL.out; omega)
          have hup := blk_up (dt L j)
          have hn1 := congrArg List.length hnx
          rw [List.length_append] at hn1
          have hsj := HSM.out j (by omega)
          obtain ⟨X, hX⟩ : ∃ X : ByteArray, X = ⟨(tg L j).toArray⟩ := ⟨_, rfl⟩
          obtain ⟨D, hDD⟩ : ∃ D : ByteArray, D = ⟨(dt L j).toArray⟩ := ⟨_, rfl⟩
          have hz : D.size = (dt L j).length := by rw [hDD]; exact List.size_toArray
          obtain ⟨n, hnn⟩ : ∃ n, n = (dt L j).length := ⟨_, rfl⟩
          rw [← hnn] at hz hup hsj
          rw [← hX] at c0
          rw [← hDD] at c1
          obtain ⟨q4, hq4⟩ : ∃ q4, q4 = (n + 3) / 4 := ⟨_, rfl⟩
          obtain ⟨o1, ho1⟩ : ∃ o, o = o0 + (body (L.take j)).length := ⟨_, rfl⟩
          have u1 : IntKind.i64.wrap (((n : Int) + 3).tdiv 4) = (q4 : Int) := by rw [Int.tdiv_eq_ediv_of_nonneg (by omega), i64_in _ (by omega)]; omega
          have u2 : ((n : Int) + 3).tdiv 4 = (q4 : Int) := by rw [Int.tdiv_eq_ediv_of_nonneg (by omega)]; omega
          have u3 : ((n : Int) + 3) / 4 = (q4 : Int) := by omega
          have HQ4 := Lib.hid (show o1 + q4 * 4 = o0 + (body (L.take (j + 1))).length by omega)
          have hq5 : q4 ≤ 1000 := by omega
          have hq6 : o1 ≤ 10000000 := by omega
          have hBA := Lib.hid (HK.out.next ((Below.refl _ _).alloc (Nat.le_refl _) (.cells #[.string X, .string D] 25)))
          rw [← ho1]
          clear hnx hup hn1 hX hDD hnn hq4 ho1 hbm hok hsj
          go_wp2_with fail
          exact ⟨⟨j + 1, by simp, by omega, by rw [← HQ4.out]; congr 1 <;> (first | omega | (unfold wrap64; omega)), hBA.out⟩, by simp [intOf]; omega⟩
        · have hjt : j = t := by omega
          have hpc : o0 + (body (L.take j)).length = pc := by rw [HQ.out.2.2.1, hjt, HO.out]; unfold off; rw [HL.out]; omega
          rw [hpc]
          clear hpc hbm hok
          go_upto_region 22 with fail
          have hSz : S.size = (mkF L).length := by rw [← size_list, HQ.out.2.2.2.2.2.2]
          have hpS : pc < S.size := by rw [hSz, HQ.out.2.2.1]; exact HQ.out.2.2.2.2.1
          obtain ⟨C, cap, v0, hconv, hc0, hz0, hback⟩ := turn_facts S pc cb hcb hpS wr
          rw [HQ.out.2.2.2.2.2.2] at hback
          obtain ⟨T, hT⟩ : ∃ T : ByteArray, T = ⟨(trn L t q (UInt8.ofNat cb)).toArray⟩ := ⟨_, rfl⟩
          rw [show (mkF L).set pc (UInt8.ofNat cb) = trn L t q (UInt8.ofNat cb) by rw [HQ.out.2.2.1]; rfl, ← hT] at hback
          have hTl : T.data.toList = trn L t q (UInt8.ofNat cb) := by rw [hT]
          have hpar := fun W => parse_any T W (by rw [← size_list, hTl, trn_len]; exact mkF_small HQ.out.2.2.2.1 (fun i hi => HSM.out i (by have := HL.out; omega)))
          rw [hTl] at hpar
          have hpe := trn_PE HQ.out.2.2.2.1 (UInt8.ofNat cb) (t := t) (k := q) (by rw [HL.out]; exact htk) (by rw [← HND.out]; exact HQ.out.2.1)
          have HPok := Lib.hid (fun (ho : trnOK L t q (UInt8.ofNat cb)) W => (hpar W).mono fun e w' h5 => show ∃ A5 c5, e = .returned (.tuple #[.slice A5 k c5, .int .i64 0]) ∧ Below W.heap.size W w' from by
            obtain ⟨A5, n5, c5, h1, h2, h3⟩ := h5
            have h4 := hpe.1 ho
            rw [h4.1] at h1
            have h6 := h2.len
            rw [h4.2, HL.out] at h6
            rw [← h6] at h1
            exact ⟨A5, c5, h1, h3⟩)
          have HPno := Lib.hid (fun (ho : ¬ trnOK L t q (UInt8.ofNat cb)) W => (hpar W).mono fun e w' h5 => show ∃ A5 c5, e = .returned (.tuple #[.slice A5 0 c5, .int .i64 5]) ∧ Below W.heap.size W w' from by
            obtain ⟨A5, n5, c5, h1, h2, h3⟩ := h5
            have h4 := hpe.2 ho
            rw [h4.1] at h1
            have h6 := h2.len
            rw [h4.2] at h6
            have h6 : 0 = n5 := h6
            rw [← h6] at h1
            exact ⟨A5, c5, h1, h3⟩)
          have hDl : Dt.data.toList = dt L t := by rw [HDt.out.2]
          have hXl : Xt.data.toList = tg L t := by rw [HDt.out.1]
          have hix := fun W => idx_run Dt q (by rw [hDl, ← HND.out]; exact HQ.out.2.1) (q : Int) rfl W
          rw [hDl] at hix
          obtain ⟨dk, hdk⟩ : ∃ d, d = bat (dt L t) q := ⟨_, rfl⟩
          have hbat : dk = cb ↔ (dt L t).getD q 0 = UInt8.ofNat cb := by
            rw [hdk]
            unfold bat
            constructor
            · intro e
              apply UInt8.toNat_inj.mp
              rw [e]
              simp [Nat.mod_eq_of_lt hcb]
            · intro e
              rw [e]
              simp [Nat.mod_eq_of_lt hcb]
          rw [← hdk] at hix
          have hi := is_head Xt
          have hi2 := is_head' Xt
          rw [hXl] at hi hi2
          have hbl : Below wr.heap.size wr (((wr.alloc (.cells C 5 (C.size, C.size + 1))).setCell ⟨wr.heap.size, pc, none⟩ (.int .u8 (cb : Int))).drew) := ((((Below.refl _ _).alloc (Nat.le_refl _) _).setCell (Nat.le_refl _) _)).drew
          have HBL := Lib.hid (HK.out.next hbl)
          have hways : dk = cb ∨ (¬ dk = cb ∧ tg L t = headT ∧ 8 ≤ q ∧ q < 12) ∨ (¬ dk = cb ∧ ¬ tg L t = headT) ∨ (¬ dk = cb ∧ tg L t = headT ∧ ¬ 8 ≤ q) ∨ (¬ dk = cb ∧ tg L t = headT ∧ 8 ≤ q ∧ ¬ q < 12) := by
            by_cases hh : tg L t = headT
            · by_cases h1 : dk = cb
              · exact .inl h1
              · by_cases h8 : 8 ≤ q
                · by_cases h12 : q < 12
                  · exact .inr (.inl ⟨h1, hh, h8, h12⟩)
                  · exact .inr (.inr (.inr (.inr ⟨h1, hh, h8, h12⟩)))
                · exact .inr (.inr (.inr (.inl ⟨h1, hh, h8⟩)))
            · by_cases h1 : dk = cb
              · exact .inl h1
              · exact .inr (.inr (.inl ⟨h1, hh⟩))
          have HTR := Lib.hid hbat
          obtain ⟨gb, hgb⟩ : ∃ x, x = wr.heap.size := ⟨_, rfl⟩
          rw [← hgb] at hconv hc0 hz0 hback HBL
          have hSz2 : S.size = S.size := rfl
          clear hgb hpe hpar hDl hXl hdk hbat hSz hTl hT hbl hjt hSz2
          rcases hways with h1 | ⟨h1, hh, h8, h12⟩ | ⟨h1, hh⟩ | ⟨h1, hh, h8⟩ | ⟨h1, hh, h8, h12⟩
          · have HP := Lib.hid (HPok.out (.inl (HTR.out.1 h1)))
            have e5 : ((dk : Int) == (cb : Int)) = true := by simp [h1]
            clear h1 hi hi2
            go_wp2_with (go_at_call 11; (with_reducible refine (HP.out _).mono ?_); rintro e w8 ⟨A5, c5, rfl, hb⟩; have B8 := Lib.hid (HBL.out.next hb); clear hb; obtain ⟨d0, d1⟩ := B8.out.cells)
            go_ret
            exact ⟨rfl, B8.out.s.bel⟩
          · have HP := Lib.hid (HPok.out (.inr ⟨hh, h8, h12⟩))
            have e5 : ((dk : Int) == (cb : Int)) = false := by simp; omega
            have e8 : decide (8 ≤ (q : Int)) = true := decide_eq_true (by omega)
            have e12 : decide ((q : Int) < 12) = true := decide_eq_true (by omega)
            rw [decide_eq_true hh] at hi hi2
            clear h1 hh h8 h12
            go_wp2_with (go_at_call 11; (with_reducible refine (HP.out _).mono ?_); rintro e w8 ⟨A5, c5, rfl, hb⟩; have B8 := Lib.hid (HBL.out.next hb); clear hb; obtain ⟨d0, d1⟩ := B8.out.cells)
            go_ret
            exact ⟨rfl, B8.out.s.bel⟩
          · have HP := Lib.hid (HPno.out (fun ho => ho.elim (fun h => h1 (HTR.out.2 h)) (fun h => hh h.1)))
            have e5 : ((dk : Int) == (cb : Int)) = false := by simp; omega
            rw [decide_eq_false hh] at hi hi2
            clear h1 hh
            go_wp2_with (go_at_call 11; (with_reducible refine (HP.out _).mono ?_); rintro e w8 ⟨A5, c5, rfl, hb⟩; have B8 := Lib.hid (HBL.out.next hb); clear hb; obtain ⟨d0, d1⟩ := B8.out.cells)
            go_ret
            exact ⟨rfl, B8.out.s.bel⟩
          · have HP := Lib.hid (HPno.out (fun ho => ho.elim (fun h => h1 (HTR.out.2 h)) (fun h => h8 h.2.1)))
            have e5 : ((dk : Int) == (cb : Int)) = false := by simp; omega
            have e8 : decide (8 ≤ (q : Int)) = false := decide_eq_false (by omega)
            rw [decide_eq_true hh] at hi hi2
            clear h1 hh h8
            go_wp2_with (go_at_call 11; (with_reducible refine (HP.out _).mono ?_); rintro e w8 ⟨A5, c5, rfl, hb⟩; have B8 := Lib.hid (HBL.out.next hb); clear hb; obtain ⟨d0, d1⟩ := B8.out.cells)
            go_ret
            exact ⟨rfl, B8.out.s.bel⟩
          · have HP := Lib.hid (HPno.out (fun ho => ho.elim (fun h => h1 (HTR.out.2 h)) (fun h => h12 h.2.2)))
            have e5 : ((dk : Int) == (cb : Int)) = false := by simp; omega
            have e8 : decide (8 ≤ (q : Int)) = true := decide_eq_true (by omega)
            have e12 : decide ((q : Int) < 12) = false := decide_eq_false (by omega)
            rw [decide_eq_true hh] at hi hi2
            clear h1 hh h8 h12
            go_wp2_with (go_at_call 11; (with_reducible refine (HP.out _).mono ?_); rintro e w8 ⟨A5, c5, rfl, hb⟩; have B8 := Lib.hid (HBL.out.next hb); clear hb; obtain ⟨d0, d1⟩ := B8.out.cells)
            go_ret
            exact ⟨rfl, B8.out.s.bel⟩
theorem law_turned (A : Option Addr) (m c : Nat) (L : List (List UInt8 × List UInt8)) (a0 a1 cb : Nat) (w : World) (h : Tl w A m L) (hmc : m ≤ c) (hcm : c ≤ maxLen) (hb0 : a0 < 256) (hb1 : a1 < 256) (hcb : cb < 256) :
    Calls Try.prog 5 #[.slice A m c, .agg #[.int .u8 (a0 : Int), .int .u8 (a1 : Int)], .int .u8 (cb : Int)] w fun e w' => e = .returned (.bool true) ∧ Below w.heap.size w w' := by
  by_cases hx : 10 < m ∨ m = 0 ∨ ∃ i, i < m ∧ 200 < (dt L i).length
  · exact turned_out A m c L a0 a1 cb w h hx
  · refine turned_in A m c L a0 a1 cb w h hmc hcm (by omega) (by omega) (fun i hi => ?_) hb0 hb1 hcb
    rcases Nat.lt_or_ge 200 (dt L i).length with h1 | h1
    · exact absurd (.inr (.inr ⟨i, hi, h1⟩)) hx
    · exact h1
end Go.Proofs.Ytlidagofjkilgaa
