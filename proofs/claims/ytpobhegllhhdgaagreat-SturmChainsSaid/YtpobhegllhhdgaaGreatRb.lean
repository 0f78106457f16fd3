/- Proved here: what the document's Trim, From, Of, Neg, Add and Sub of polynomials answer and leave in memory. Condition: polynomials of at most 1000 numbers of at most 50000 digits, that lie in memory. -/
import Derived.Test.YtpobhegllhhdgaaGreatQe
import Derived.Test.YtpobhegllhhdgaaGreatRa
namespace Go.Proofs.YtpobhegllhhdgaaGreat
open Go.RowKit

set_option maxRecDepth 100000 in
set_option maxHeartbeats 1000000 in
theorem rtrim_any (A : Option Addr) (m c : Nat) (L : List Int) (l : Nat) (w : World) (h : Pol .n w (.slice A m c) L l) :
    Calls Tryz.prog 28 #[.slice A m c] w fun e w' => e = .returned (.slice A (pl L) c) ∧ Below w.heap.size w w' := by
  obtain ⟨hm, hmc, hcm⟩ := h.cap
  unfold maxLen at hcm
  have H := Lib.hid h
  have HM := Lib.hid hm
  clear h hm
  go_enter Tryz.func28, Tryz.ntmps28
  go_wp2_with fail
  go_loopw [3] (fun d wr => ∃ k : Nat, d = .int .i64 (k : Int) ∧ k ≤ m ∧ (∀ j, k ≤ j → co L j = 0) ∧ Below w.heap.size w wr) (fun d _ => (intOf d).toNat)
  case atStart => exact ⟨m, rfl, Nat.le_refl _, fun j hj => co_beyond (by rw [← HM.out]; exact hj), Below.refl _ _⟩
  case round =>
    obtain ⟨k, rfl, hk, hz, hb⟩ := hrel
    have HZ := Lib.hid hz
    have HB := Lib.hid hb
    clear hz hb
    rcases k with _ | k
    · go_wp2_with fail
      go_ret
      exact ⟨by rw [pl_still HZ.out (.inl rfl)]; rfl, HB.out⟩
    · obtain ⟨ad, n, B, p, q, rfl, hl, c0, c1, he⟩ := H.out.get k (by rw [← HM.out]; omega)
      have f0 : wr.cell? (ad.add (k * 2)) = some (.bool n) := by rw [HB.out.cell (by rw [block_of_add]; exact hl)]; exact c0
      have f1 : wr.cell? { block := (ad.add (k * 2)).block, off := (ad.add (k * 2)).off + 1 } = some (.slice B p q) := by rw [add_next, HB.out.cell (by rw [block_of_add]; exact hl)]; exact c1
      have HE := Lib.hid (El.num_ (he.bel HB.out))
      clear he c0 c1
      have hs := sgn_zero (co L k)
      by_cases h0 : co L k = 0
      · have hd : (sgn (co L k) == 0) = true := by rw [hs]; exact decide_eq_true h0
        have H0 := Lib.hid h0
        clear hs h0
        go_wp2_with (go_at_call 43; (with_reducible refine (rsign_any _ (co L k) l _ HE.out).mono ?_); rintro e w1 ⟨rfl, hb⟩; have HB := Lib.hid (bel_tr HB.out hb); clear hb)
        go_roundw
        case rel => exact ⟨k, by congr 1, by omega, fun j hj => by
          rcases Nat.lt_or_ge k j with h | h
          · exact HZ.out j h
          · obtain rfl : j = k := by omega
            exact H0.out, HB.out⟩
        case measure => simp [intOf]
      · have hd : (sgn (co L k) == 0) = false := by rw [hs]; exact decide_eq_false h0
        have H0 := Lib.hid h0
        clear hs h0
        go_wp2_with (go_at_call 43; (with_reducible refine (rsign_any _ (co L k) l _ HE.out).mono ?_); rintro e w1 ⟨rfl, hb⟩; have HB := Lib.hid (bel_tr HB.out hb); clear hb)
        go_ret
        exact ⟨by rw [pl_still HZ.out (.inr H0.out)]; rfl, HB.out⟩
theorem take_co {L : List Int} {j : Nat} (h : j < L.length) : L.take (j + 1) = L.take j ++ [co L j] := by
  rw [List.take_succ_eq_append_getElem h]
  simp [co, h]
theorem own_trim {w W W' : World} {v : Value} {R S : List Int} {l : Nat} (hP : Pol .n W v R l) (hS : S = trz R) (hb : Below w.heap.size w W') (h : Below W.heap.size W W') : ∀ A m c, v = .slice A m c → PolE .n S l w (.returned (.slice A (pl R) c)) W' := by
  rintro A m c rfl
  exact polE_of (hP.bel h) hS hb
set_option maxRecDepth 100000 in
set_option maxHeartbeats 2000000 in
theorem from5_any (A : Option Addr) (m c : Nat) (L : List Int) (l : Nat) (w : World) (h : Pol .a w (.slice A m c) L l) (hm : m ≤ 1000) (hl : l ≤ 50000) :
    Calls Tryz.prog 8 #[.slice A m c] w (PolE .n (trz L) (2 * l) w) := by
  have hmL := h.cap.1
  have H := Lib.hid h
  have HM := Lib.hid hmL
  clear h hmL
  go_enter Tryz.func8, Tryz.ntmps8
  go_wp2_with fail
  go_loopw [3, 4] (fun z i wr => ∃ j : Nat, i = .int .i64 (j : Int) ∧ j ≤ m ∧ Below w.heap.size w wr ∧ Rn wr w.heap.size z (L.take j) (2 * l)) (fun _ i _ => m - (intOf i).toNat)
  case atStart => exact ⟨0, rfl, Nat.zero_le _, Below.refl _ _, Rn.nil _ _ _⟩
  case round =>
    obtain ⟨j, rfl, hj, hb, hR⟩ := hrel
    by_cases hgo : j < m
    · obtain ⟨ad, na, Ba, pa, qa, rfl, had, c0, c1, he⟩ := H.out.get j (by rw [← HM.out]; exact hgo)
      have f0 : wr.cell? (ad.add (j * 2)) = some (.bool na) := by rw [hb.cell (by rw [block_of_add]; exact had)]; exact c0
      have f1 : wr.cell? { block := (ad.add (j * 2)).block, off := (ad.add (j * 2)).off + 1 } = some (.slice Ba pa qa) := by rw [add_next, hb.cell (by rw [block_of_add]; exact had)]; exact c1
      have HE := Lib.hid (El.big_ (he.bel hb))
      have HB := Lib.hid hb
      have HR := Lib.hid hR
      have HT := Lib.hid (take_co (L := L) (j := j) (by rw [← HM.out]; exact hgo))
      have HL := Lib.hid (show (L.take j).length ≤ 1000000 by rw [List.length_take]; omega)
      clear he c0 c1 hb hR
      go_wp2_with (first
        | (go_at_call 27; (with_reducible refine (from_any (.agg #[.bool na, .slice Ba pa qa]) (co L j) l _ HE.out (by omega)).mono ?_); rintro e w2 he; obtain ⟨n2, B2, p2, q2, rfl, he1, hb⟩ := he.open1; have HE2 := Lib.hid he1; have HB := Lib.hid (bel_tr HB.out hb); have HR := Lib.hid (HR.out.bel hb); have hbs := HB.out.size; clear he he1 hb)
        | (at_builtin; go_must (refine wpList_push rfl (.tmp 11) (.tmp 17) rfl w.heap.size u3 (L.take j) (2 * l) n2 B2 p2 q2 (co L j) rfl HR.out HE2.out hbs HL.out rfl ?_); intro v' w' hR' hb'))
      all_goals
        exact ⟨⟨j + 1, by simp, by omega, HB.out.trans hb', by rw [HT.out]; exact hR'⟩, by simp [intOf]; omega⟩
    · obtain rfl : j = m := by omega
      have hP := hR.pol
      rw [HM.out, List.take_length] at hP
      obtain ⟨A', c', rfl⟩ := hP.slice
      rw [← HM.out] at hP ⊢
      have HP := Lib.hid hP
      have HB := Lib.hid hb
      clear hR hP hb
      go_wp2_with (go_at_call 28; (with_reducible refine (rtrim_any A' j c' L (2 * l) _ HP.out).mono ?_); rintro e w4 ⟨rfl, hb⟩; have HB := Lib.hid (bel_tr HB.out hb); have HP := Lib.hid (HP.out.bel hb); clear hb)
      go_ret
      exact polE_of HP.out rfl HB.out
set_option maxRecDepth 100000 in
set_option maxHeartbeats 2000000 in
theorem rof5_any (A : Option Addr) (m c : Nat) (xs : List Int) (w : World) (h : Ia w (.slice A m c) xs) (hm : m ≤ 1000) :
    Calls Tryz.prog 108 #[.slice A m c] w (PolE .n (trz xs) 4 w) := by
  obtain ⟨hmx, hmc, hft, hget⟩ := h.cap
  have HG := Lib.hid (And.intro hft hget)
  have HM := Lib.hid hmx
  clear h hft hget hmx
  go_enter Tryz.func108, Tryz.ntmps108
  go_wp2_with fail
  go_loopw [3, 4] (fun z i wr => ∃ j : Nat, i = .int .i64 (j : Int) ∧ j ≤ m ∧ Below w.heap.size w wr ∧ Rn wr w.heap.size z (xs.take j) 4) (fun _ i _ => m - (intOf i).toNat)
  case atStart => exact ⟨0, rfl, Nat.zero_le _, Below.refl _ _, Rn.nil _ _ _⟩
  case round =>
    obtain ⟨j, rfl, hj, hb, hR⟩ := hrel
    by_cases hgo : j < m
    · obtain ⟨ad, rfl, had, c0⟩ := HG.out.2 j (by rw [← HM.out]; exact hgo)
      have f0 : wr.cell? (ad.add j) = some (.int .i64 (co xs j)) := by rw [hb.cell (by rw [block_of_add]; exact had)]; exact c0
      have HOF := Lib.hid (fun W => rof_any (co xs j) W (HG.out.1 j).1 (HG.out.1 j).2)
      have HB := Lib.hid hb
      have HR := Lib.hid hR
      have HT := Lib.hid (take_co (L := xs) (j := j) (by rw [← HM.out]; exact hgo))
      have HL := Lib.hid (show (xs.take j).length ≤ 1000000 by rw [List.length_take]; omega)
      clear c0 hb hR
      go_wp2_with (first
        | (go_at_call 71; (with_reducible refine (HOF.out _).mono ?_); rintro e w2 he; obtain ⟨n2, B2, p2, q2, rfl, he1, hb⟩ := he.open1; have HE2 := Lib.hid he1; have HB := Lib.hid (bel_tr HB.out hb); have HR := Lib.hid (HR.out.bel hb); have hbs := HB.out.size; clear he he1 hb)
        | (at_builtin; go_must (refine wpList_push rfl (.tmp 11) (.tmp 17) rfl w.heap.size u3 (xs.take j) 4 n2 B2 p2 q2 (co xs j) rfl HR.out HE2.out hbs HL.out rfl ?_); intro v' w' hR' hb'))
      all_goals
        exact ⟨⟨j + 1, by simp, by omega, HB.out.trans hb', by rw [HT.out]; exact hR'⟩, by simp [intOf]; omega⟩
    · obtain rfl : j = m := by omega
      have hP := hR.pol
      rw [HM.out, List.take_length] at hP
      obtain ⟨A', c', rfl⟩ := hP.slice
      rw [← HM.out] at hP ⊢
      have HP := Lib.hid hP
      have HB := Lib.hid hb
      clear hR hP hb
      go_wp2_with (go_at_call 28; (with_reducible refine (rtrim_any A' j c' xs 4 _ HP.out).mono ?_); rintro e w4 ⟨rfl, hb⟩; have HB := Lib.hid (bel_tr HB.out hb); have HP := Lib.hid (HP.out.bel hb); clear hb)
      go_ret
      exact polE_of HP.out rfl HB.out
set_option maxRecDepth 100000 in
set_option maxHeartbeats 2000000 in
theorem rneg5_any (A : Option Addr) (m c : Nat) (L : List Int) (l : Nat) (w : World) (h : Pol .n w (.slice A m c) L l) (hm : m ≤ 1000) :
    Calls Tryz.prog 35 #[.slice A m c] w (PolE .n (negP L) l w) := by
  have hmL := h.cap.1
  have H := Lib.hid h
  have HM := Lib.hid hmL
  have HN := Lib.hid (show negP L = gen m fun i => -co L i by unfold negP; rw [hmL])
  clear h hmL
  go_enter Tryz.func35, Tryz.ntmps35
  go_wp2_with fail
  go_loopw [3, 4] (fun z i wr => ∃ j : Nat, i = .int .i64 (j : Int) ∧ j ≤ m ∧ Below w.heap.size w wr ∧ Rn wr w.heap.size z (gen j fun i => -co L i) l) (fun _ i _ => m - (intOf i).toNat)
  case atStart => exact ⟨0, rfl, Nat.zero_le _, Below.refl _ _, Rn.nil _ _ _⟩
  case round =>
    obtain ⟨j, rfl, hj, hb, hR⟩ := hrel
    by_cases hgo : j < m
    · obtain ⟨ad, na, Ba, pa, qa, rfl, had, c0, c1, he⟩ := H.out.get j (by rw [← HM.out]; exact hgo)
      have f0 : wr.cell? (ad.add (j * 2)) = some (.bool na) := by rw [hb.cell (by rw [block_of_add]; exact had)]; exact c0
      have f1 : wr.cell? { block := (ad.add (j * 2)).block, off := (ad.add (j * 2)).off + 1 } = some (.slice Ba pa qa) := by rw [add_next, hb.cell (by rw [block_of_add]; exact had)]; exact c1
      have HE := Lib.hid (El.num_ (he.bel hb))
      have HB := Lib.hid hb
      have HR := Lib.hid hR
      have HT := Lib.hid (gen_snoc j fun i => -co L i)
      have HL := Lib.hid (show (gen j fun i => -co L i).length ≤ 1000000 by rw [gen_len]; omega)
      clear he c0 c1 hb hR
      go_wp2_with (first
        | (go_at_call 72; (with_reducible refine (rneg_any (.agg #[.bool na, .slice Ba pa qa]) (co L j) l _ HE.out).mono ?_); rintro e w2 he; obtain ⟨n2, B2, p2, q2, rfl, he1, hb⟩ := he.open1; have HE2 := Lib.hid he1; have HB := Lib.hid (bel_tr HB.out hb); have HR := Lib.hid (HR.out.bel hb); have hbs := HB.out.size; clear he he1 hb)
        | (at_builtin; go_must (refine wpList_push rfl (.tmp 11) (.tmp 17) rfl w.heap.size u3 (gen j fun i => -co L i) l n2 B2 p2 q2 (-co L j) rfl HR.out HE2.out hbs HL.out rfl ?_); intro v' w' hR' hb'))
      all_goals
        exact ⟨⟨j + 1, by simp, by omega, HB.out.trans hb', by rw [HT.out]; exact hR'⟩, by simp [intOf]; omega⟩
    · obtain rfl : j = m := by omega
      have hP := hR.pol
      obtain ⟨A', c', rfl⟩ := hP.slice
      have HP := Lib.hid hP
      have HB := Lib.hid hb
      clear hR hP hb
      go_wp2_with fail
      go_ret
      exact polE_all HP.out HN.out HB.out
set_option maxRecDepth 100000 in
set_option maxHeartbeats 2000000 in
theorem radd5_any (A B : Option Addr) (m c m2 c2 : Nat) (L M : List Int) (l k : Nat) (w : World) (h : Pol .n w (.slice A m c) L l) (h' : Pol .n w (.slice B m2 c2) M k) (hm : m ≤ 1000) (hm2 : m2 ≤ 1000) (hl : l ≤ 50000) (hk : k ≤ 50000) :
    Calls Tryz.prog 89 #[.slice A m c, .slice B m2 c2] w (PolE .n (addP L M) (max l k + 1) w) := by
  have hmm := h.cap.1
  have hmm2 := h'.cap.1
  obtain ⟨N, hN⟩ : ∃ N, N = max m m2 := ⟨_, rfl⟩
  have hN1 : N ≤ 1000 := by omega
  obtain ⟨f, hf⟩ : ∃ f : Nat → Int, f = fun i => co L i + co M i := ⟨_, rfl⟩
  have HR0 := Lib.hid (show addP L M = trz (gen N f) by unfold addP; rw [hf, hN, hmm, hmm2])
  have HF := Lib.hid (fun i => congrFun hf i)
  have H := Lib.hid h
  have H' := Lib.hid h'
  clear h h' hmm hmm2 hf
  go_enter Tryz.func89, Tryz.ntmps89
  go_wp2_with fail
  go_loopw [5, 6] (fun z i wr => ∃ j : Nat, i = .int .i64 (j : Int) ∧ j ≤ N ∧ Below w.heap.size w wr ∧ Rn wr w.heap.size z (gen j f) (max l k + 1)) (fun _ i _ => N - (intOf i).toNat)
  case atStart => exact ⟨0, rfl, Nat.zero_le _, Below.refl _ _, Rn.nil _ _ _⟩
  case round =>
    obtain ⟨j, rfl, hj, hb, hR⟩ := hrel
    by_cases hgo : j < m ∨ j < m2
    · have HB := Lib.hid hb
      have HR := Lib.hid hR
      have HT := Lib.hid (show gen (j + 1) f = gen j f ++ [co L j + co M j] by rw [gen_snoc, HF.out])
      have HL := Lib.hid (show (gen j f).length ≤ 1000000 by rw [gen_len]; omega)
      have hjN : j < N := by omega
      clear hb hR hN
      by_cases hg1 : j < m
      · clear hgo
        go_wp2_with (first
          | (go_at_call 73; (with_reducible refine (rat_any .n A m c L l (j : Int) _ (H.out.bel HB.out)).mono ?_); rw [coI_nat]; rintro e w1 he; obtain ⟨n1, B1, p1, q1, rfl, he1, hb⟩ := he.open_; have HE1 := Lib.hid he1; have HB := Lib.hid (bel_tr HB.out hb); have HR := Lib.hid (HR.out.bel hb); clear he he1 hb)
          | (go_at_call 73; (with_reducible refine (rat_any .n B m2 c2 M k (j : Int) _ (H'.out.bel HB.out)).mono ?_); rw [coI_nat]; rintro e w2 he; obtain ⟨n2, B2, p2, q2, rfl, he1, hb⟩ := he.open_; have HE2 := Lib.hid he1; have HE1 := Lib.hid (HE1.out.bel hb); have HB := Lib.hid (bel_tr HB.out hb); have HR := Lib.hid (HR.out.bel hb); clear he he1 hb)
          | (go_at_call 79; (with_reducible refine (radd_any _ _ _ _ l k _ HE1.out.num_ HE2.out.num_ (by omega) (by omega)).mono ?_); rintro e w3 he; obtain ⟨n3, B3, p3, q3, rfl, he1, hb⟩ := he.open1; have HE3 := Lib.hid he1; have HB := Lib.hid (bel_tr HB.out hb); have HR := Lib.hid (HR.out.bel hb); have hbs := HB.out.size; clear he he1 hb)
          | (at_builtin; go_must (refine wpList_push rfl (.tmp 19) (.tmp 27) rfl w.heap.size u5 (gen j f) (max l k + 1) n3 B3 p3 q3 (co L j + co M j) rfl HR.out HE3.out hbs HL.out rfl ?_); intro v' w' hR' hb'))
        all_goals
          exact ⟨⟨j + 1, by simp, by omega, HB.out.trans hb', by rw [HT.out]; exact hR'⟩, by simp [intOf]; omega⟩
      · have hg2 : j < m2 := by omega
        clear hgo
        go_wp2_with (first
          | (go_at_call 73; (with_reducible refine (rat_any .n A m c L l (j : Int) _ (H.out.bel HB.out)).mono ?_); rw [coI_nat]; rintro e w1 he; obtain ⟨n1, B1, p1, q1, rfl, he1, hb⟩ := he.open_; have HE1 := Lib.hid he1; have HB := Lib.hid (bel_tr HB.out hb); have HR := Lib.hid (HR.out.bel hb); clear he he1 hb)
          | (go_at_call 73; (with_reducible refine (rat_any .n B m2 c2 M k (j : Int) _ (H'.out.bel HB.out)).mono ?_); rw [coI_nat]; rintro e w2 he; obtain ⟨n2, B2, p2, q2, rfl, he1, hb⟩ := he.open_; have HE2 := Lib.hid he1; have HE1 := Lib.hid (HE1.out.bel hb); have HB := Lib.hid (bel_tr HB.out hb); have HR := Lib.hid (HR.out.bel hb); clear he he1 hb)
          | (go_at_call 79; (with_reducible refine (radd_any _ _ _ _ l k _ HE1.out.num_ HE2.out.num_ (by omega) (by omega)).mono ?_); rintro e w3 he; obtain ⟨n3, B3, p3, q3, rfl, he1, hb⟩ := he.open1; have HE3 := Lib.hid he1; have HB := Lib.hid (bel_tr HB.out hb); have HR := Lib.hid (HR.out.bel hb); have hbs := HB.out.size; clear he he1 hb)
          | (at_builtin; go_must (refine wpList_push rfl (.tmp 19) (.tmp 27) rfl w.heap.size u5 (gen j f) (max l k + 1) n3 B3 p3 q3 (co L j + co M j) rfl HR.out HE3.out hbs HL.out rfl ?_); intro v' w' hR' hb'))
        all_goals
          exact ⟨⟨j + 1, by simp, by omega, HB.out.trans hb', by rw [HT.out]; exact hR'⟩, by simp [intOf]; omega⟩
    · obtain rfl : j = N := by omega
      have hP := hR.pol
      obtain ⟨A', c', rfl⟩ := hP.slice
      rw [gen_len] at hP ⊢
      have HP := Lib.hid hP
      have HB := Lib.hid hb
      have hg1 : ¬ j < m := by omega
      have hg2 : ¬ j < m2 := by omega
      clear hR hP hb hN hgo
      go_wp2_with (go_at_call 28; (with_reducible refine (rtrim_any A' j c' (gen j f) (max l k + 1) _ HP.out).mono ?_); rintro e w4 ⟨rfl, hb⟩; have HB := Lib.hid (bel_tr HB.out hb); have HP := Lib.hid (HP.out.bel hb); clear hb)
      go_ret
      exact polE_of HP.out HR0.out HB.out
theorem negP_len (L : List Int) : (negP L).length = L.length := by unfold negP; rw [gen_len]
end Go.Proofs.YtpobhegllhhdgaaGreat
