/- Proved here: what Loca answers, in the document. Condition: a list of at most 10^6 numbers. -/
import Derived.Test.YtibbgmahdiphpaaMi
namespace Go.Proofs.Ytibbgmahdiphpaa
open Go.RowKit

theorem rloca_no (h : Hd) (A : Option Addr) (m c : Nat) (xs : List Int) (w : World) (hm : ¬ MayP h) : Calls Try.prog 16 #[.agg #[.int .i64 h.em, .bool h.lg, .int .i64 h.gl, .int .i64 h.me, .int .i64 h.a1, .int .i64 h.a2, .int .i64 h.a3], .slice A m c] w (StE (LoE h xs) (LoS h xs) w) := by
  have cm := fun W => rmay_any h W
  rw [decide_eq_false hm] at cm
  have CM := Lib.hid cm
  have S := Lib.hid (MS.start w h)
  have HP := Lib.hid (fun w' (hb : Below w.heap.size w w') => stE_err (show LoE h xs = 1 from if_neg (fun h => hm h.1)) (show LoS h xs = [] from if_neg (fun h => hm h.1)) hb)
  obtain ⟨f0, f1, f2, f3, f4, f5, f6⟩ := S.out.cells
  clear cm hm
  go_enter Try.func16, Try.ntmps16
  go_wp2_with (go_at_call 19; (with_reducible refine (CM.out _).mono ?_); rintro e w1 ⟨rfl, hb⟩; have S := Lib.hid (S.out.next hb); clear hb)
  go_ret2
  exact HP.out _ S.out.bel
theorem rloca_len (em : Int) (lg : Bool) (G M : Nat) (a1 a2 a3 : Int) (A : Option Addr) (m c : Nat) (xs : List Int) (w : World) (hI : Il w A m xs) (hm : MayP ⟨em, lg, G, M, a1, a2, a3⟩) (hG : G ≤ 1024) (hne : ¬ m = G + 1) : Calls Try.prog 16 #[.agg #[.int .i64 em, .bool lg, .int .i64 (G : Int), .int .i64 (M : Int), .int .i64 a1, .int .i64 a2, .int .i64 a3], .slice A m c] w (StE (LoE ⟨em, lg, G, M, a1, a2, a3⟩ xs) (LoS ⟨em, lg, G, M, a1, a2, a3⟩ xs) w) := by
  have hx : ¬ mayPs ⟨em, lg, G, M, a1, a2, a3⟩ xs := fun h => hne (by have h1 := h.1; have := hI.len; simp only at h1; omega)
  have cm := fun W => rmay_any ⟨em, lg, G, M, a1, a2, a3⟩ W
  rw [decide_eq_true hm] at cm
  have CM := Lib.hid cm
  have S := Lib.hid (MS.start w ⟨em, lg, G, M, a1, a2, a3⟩)
  have HP := Lib.hid (fun w' (hb : Below w.heap.size w w') => stE_err (show LoE ⟨em, lg, G, M, a1, a2, a3⟩ xs = 1 from if_neg (fun h => hx h.2)) (show LoS ⟨em, lg, G, M, a1, a2, a3⟩ xs = [] from if_neg (fun h => hx h.2)) hb)
  obtain ⟨f0, f1, f2, f3, f4, f5, f6⟩ := S.out.cells
  have e1 : IntKind.i64.wrap ((G : Int) + 1) = ((G + 1 : Nat) : Int) := by rw [i64_in _ (by omega)]; omega
  obtain ⟨N, hN⟩ : ∃ N, N = G + 1 := ⟨_, rfl⟩
  rw [← hN] at e1 hne
  clear cm hm hx hI hN hG
  go_enter Try.func16, Try.ntmps16
  go_wp2_with (go_at_call 19; (with_reducible refine (CM.out _).mono ?_); rintro e w1 ⟨rfl, hb⟩; have S := Lib.hid (S.out.next hb); clear hb f0 f1 f2 f3 f4 f5 f6; obtain ⟨f0, f1, f2, f3, f4, f5, f6⟩ := S.out.cells)
  go_ret2
  exact HP.out _ S.out.bel
set_option maxRecDepth 100000 in
set_option maxHeartbeats 4000000 in
theorem rloca_ok_false (em : Int) (G M : Nat) (a1 a2 a3 : Int) (A : Option Addr) (m c : Nat) (xs : List Int) (w : World) (hI : Il w A m xs) (hm : MayP ⟨em, false, G, M, a1, a2, a3⟩) (hmG : m = G + 1) :
    Calls Try.prog 16 #[.agg #[.int .i64 em, .bool false, .int .i64 (G : Int), .int .i64 (M : Int), .int .i64 a1, .int .i64 a2, .int .i64 a3], .slice A m c] w (StE (LoE ⟨em, false, G, M, a1, a2, a3⟩ xs) (LoS ⟨em, false, G, M, a1, a2, a3⟩ xs) w) := by
  have cm := fun W => rmay_any ⟨em, false, G, M, a1, a2, a3⟩ W
  rw [decide_eq_true hm] at cm
  have CM := Lib.hid cm
  simp only at CM
  obtain ⟨_, ⟨b1, b2⟩, ⟨b3, b4⟩, _⟩ := id hm
  simp only at b1 b2 b3 b4
  have hmm : m ≤ 1025 := by omega
  have hlen := hI.len
  have e1 : IntKind.i64.wrap ((G : Int) + 1) = (m : Int) := by rw [i64_in _ (by omega)]; omega
  have HY := Lib.hid (show okP false xs m → ∀ w', Below w.heap.size w w' → StE (LoE ⟨em, false, G, M, a1, a2, a3⟩ xs) (LoS ⟨em, false, G, M, a1, a2, a3⟩ xs) w (.returned (.tuple #[.string ⟨(loB false xs m).toArray⟩, .int .i64 0])) w' from fun h w' hb => by
    have hx : mayPs ⟨em, false, G, M, a1, a2, a3⟩ xs := ⟨by simp only; omega, by rw [hlen]; exact h⟩
    exact stE_ok (if_pos ⟨hm, hx⟩) (by unfold LoS; rw [if_pos ⟨hm, hx⟩, hlen]) hb)
  have HN := Lib.hid (show ∀ k, k < m → ¬ (paN xs k ≤ co xs k ∧ mayPl false (co xs k)) → ∀ w', Below w.heap.size w w' → StE (LoE ⟨em, false, G, M, a1, a2, a3⟩ xs) (LoS ⟨em, false, G, M, a1, a2, a3⟩ xs) w (.returned (.tuple #[.string ⟨#[]⟩, .int .i64 1])) w' from fun k hk h w' hb => by
    have hx : ¬ mayPs ⟨em, false, G, M, a1, a2, a3⟩ xs := fun h2 => h (h2.2 k (by rw [hlen]; exact hk))
    exact stE_err (if_neg (fun h => hx h.2)) (if_neg (fun h => hx h.2)) hb)
  have HI := Lib.hid hI
  have S := Lib.hid (MS.start w ⟨em, false, G, M, a1, a2, a3⟩)
  have HX := Lib.hid (show ∀ k, 0 ≤ co xs k → mayPl false (co xs k) → ∃ n j : Nat, ∃ D : ByteArray, co xs k = (n : Int) ∧ (n : Int) / 2 = (j : Int) ∧ (n : Int).tdiv 2 = (j : Int) ∧ IntKind.i64.wrap (j : Int) = (j : Int) ∧ IntKind.u32.wrap (j : Int) = (j : Int) ∧ (∀ W, Calls Try.prog 28 #[.int .u32 (j : Int), .int .i64 2] W fun e w' => e = .returned (.string D) ∧ Below W.heap.size W w') ∧ D.size ≤ 4 ∧ D.data.toList = loK false (co xs k) by
    intro k h0 h2
    obtain ⟨h2, h3⟩ : co xs k % 2 = 0 ∧ co xs k ≤ 131070 := h2
    refine ⟨(co xs k).toNat, (co xs k).toNat / 2, ⟨(byt 2 ((co xs k).toNat / 2)).toArray⟩, by omega, by omega, by rw [Int.tdiv_eq_ediv_of_nonneg (by omega)]; omega, i64_in _ (by omega), wrap_u32n _ (by omega), fun W => put_two _ W (by omega), ?_, rfl⟩
    show (byt 2 ((co xs k).toNat / 2)).toArray.size ≤ 4
    rw [List.size_toArray, byt_len]; omega)
  clear cm hm hI hlen hmG b1 b2 b3 b4
  go_enter Try.func16, Try.ntmps16
  go_upto_region 1 with fail
  obtain ⟨b, hb⟩ : ∃ b, b = w.heap.size := ⟨_, rfl⟩
  obtain ⟨W0, hW0⟩ : ∃ W, W = w.alloc (.cells #[.int .i64 em, .bool false, .int .i64 (G : Int), .int .i64 (M : Int), .int .i64 a1, .int .i64 a2, .int .i64 a3] 23) := ⟨_, rfl⟩
  rw [← hW0] at S ⊢
  rw [← hb] at S ⊢
  obtain ⟨f0, f1, f2, f3, f4, f5, f6⟩ := S.out.cells
  clear hb hW0
  go_wp2_with (go_at_call 19; (with_reducible refine (CM.out _).mono ?_); rintro e w1 ⟨rfl, hb⟩; have S := Lib.hid (S.out.next hb); clear hb f0 f1 f2 f3 f4 f5 f6; obtain ⟨f0, f1, f2, f3, f4, f5, f6⟩ := S.out.cells)
  clear f0 f1 f2 f3 f4 f5 f6 CM e1
  go_loopw [6, 7, 8] (fun v u i wr => ∃ k : Nat, ∃ T : ByteArray, v = .string T ∧ T.data.toList = loB false xs k ∧ u = .int .i64 (paN xs k) ∧ i = .int .i64 (k : Int) ∧ k ≤ m ∧ okP false xs k ∧ MS w wr b ⟨em, false, G, M, a1, a2, a3⟩) (fun _ _ i _ => m - (intOf i).toNat)
  case atStart => exact ⟨0, ⟨#[]⟩, rfl, rfl, rfl, rfl, Nat.zero_le _, okP_zero _ _, S.out⟩
  case round =>
    obtain ⟨k, T, rfl, hT, rfl, rfl, hk, hok, hS⟩ := hrel
    have HS := Lib.hid hS
    have HT := Lib.hid hT
    by_cases hgo : k < m
    · obtain ⟨f0, f1, f2, f3, f4, f5, f6⟩ := hS.cells
      obtain ⟨a, rfl, c0⟩ := HI.out.at_ hS.bel hgo
      have HSK := Lib.hid (fun h1 => okP_succ (k := k) hok h1)
      have HNK := Lib.hid (HN.out k hgo)
      have HXK := Lib.hid (HX.out k)
      have HPX := Lib.hid (show paN xs (k + 1) = co xs k from rfl)
      have HNX := Lib.hid (show loB false xs (k + 1) = loB false xs k ++ loK false (co xs k) from rfl)
      have hpos := okP_pos hok
      have hTl : T.size ≤ 4100 := by rw [← size_list, hT]; exact loB_le _ _ _ (by omega)
      obtain ⟨p, hp⟩ : ∃ p, p = co xs k := ⟨_, rfl⟩
      obtain ⟨q, hq⟩ : ∃ q, q = paN xs k := ⟨_, rfl⟩
      rw [← hp, ← hq] at HSK HNK
      rw [← hp] at c0 HNX HXK HPX
      rw [← hq] at hpos ⊢
      clear hS hok hp hq hT
      by_cases h0 : p < q
      · have HX := Lib.hid (HNK.out (by omega))
        clear hpos
        go_wp2_with fail
        go_ret2
        exact HX.out _ HS.out.bel
      · by_cases h1 : 1048576 < p
        · have HX := Lib.hid (HNK.out (fun h => by have h4 : p % 2 = 0 ∧ p ≤ 131070 := h.2; omega))
          have d1 : decide (1048576 < p) = true := decide_eq_true h1
          clear hpos h1
          go_wp2_with fail
          go_ret2
          exact HX.out _ HS.out.bel
        · by_cases h2 : p % 2 = 0
          · by_cases h3 : 131070 < p
            · have HX := Lib.hid (HNK.out (fun h => by have h4 : p % 2 = 0 ∧ p ≤ 131070 := h.2; omega))
              have d1 : decide (1048576 < p) = false := decide_eq_false h1
              have d2 : decide (131070 < p) = true := decide_eq_true h3
              have ht : p.tmod 2 = 0 := by rw [Int.tmod_eq_emod_of_nonneg (by omega)]; omega
              clear hpos h1 h2 h3
              go_wp2_with fail
              go_ret2
              exact HX.out _ HS.out.bel
            · have HX := Lib.hid (HSK.out ⟨by omega, show p % 2 = 0 ∧ p ≤ 131070 from ⟨by omega, by omega⟩⟩)
              have d1 : decide (1048576 < p) = false := decide_eq_false h1
              have d2 : decide (131070 < p) = false := decide_eq_false h3
              have ht : p.tmod 2 = 0 := by rw [Int.tmod_eq_emod_of_nonneg (by omega)]; omega
              obtain ⟨n, j, D, hn, hw, hw2, hw3, hw4, hc, hd1, hd2⟩ := HXK.out (by omega) (show p % 2 = 0 ∧ p ≤ 131070 from ⟨by omega, by omega⟩)
              have HC := Lib.hid hc
              have HD := Lib.hid (And.intro hd1 hd2)
              have q1 : ¬ 9223372036854775807 < T.size + D.size := by omega
              subst hn
              clear hpos h1 h2 h3 HXK hc hd1 hd2 HNK
              go_wp2_with (go_at_call 28; (with_reducible refine (HC.out _).mono ?_); rintro e w4 ⟨rfl, hb⟩; have HS4 := Lib.hid (HS.out.next hb); clear hb)
              exact ⟨⟨k + 1, _, rfl, by rw [app_list, HT.out, HNX.out, HD.out.2], by rw [HPX.out], by simp, by omega, HX.out, HS4.out⟩, by simp [intOf]; omega⟩
          · have HX := Lib.hid (HNK.out (fun h => by have h4 : p % 2 = 0 ∧ p ≤ 131070 := h.2; omega))
            have d1 : decide (1048576 < p) = false := decide_eq_false h1
            have ht : p.tmod 2 = 1 := by rw [Int.tmod_eq_emod_of_nonneg (by omega)]; omega
            clear hpos h1 h2
            go_wp2_with fail
            go_ret2
            exact HX.out _ HS.out.bel
    · obtain rfl : k = m := by omega
      have HX := Lib.hid (HY.out hok)
      rw [← HT.out, ← of_list rfl] at HX
      clear hS hok hT
      go_wp2_with fail
      go_ret2
      exact HX.out _ HS.out.bel
set_option maxRecDepth 100000 in
set_option maxHeartbeats 4000000 in
theorem rloca_ok_true (em : Int) (G M : Nat) (a1 a2 a3 : Int) (A : Option Addr) (m c : Nat) (xs : List Int) (w : World) (hI : Il w A m xs) (hm : MayP ⟨em, true, G, M, a1, a2, a3⟩) (hmG : m = G + 1) :
    Calls Try.prog 16 #[.agg #[.int .i64 em, .bool true, .int .i64 (G : Int), .int .i64 (M : Int), .int .i64 a1, .int .i64 a2, .int .i64 a3], .slice A m c] w (StE (LoE ⟨em, true, G, M, a1, a2, a3⟩ xs) (LoS ⟨em, true, G, M, a1, a2, a3⟩ xs) w) := by
  have cm := fun W => rmay_any ⟨em, true, G, M, a1, a2, a3⟩ W
  rw [decide_eq_true hm] at cm
  have CM := Lib.hid cm
  simp only at CM
  obtain ⟨_, ⟨b1, b2⟩, ⟨b3, b4⟩, _⟩ := id hm
  simp only at b1 b2 b3 b4
  have hmm : m ≤ 1025 := by omega
  have hlen := hI.len
  have e1 : IntKind.i64.wrap ((G : Int) + 1) = (m : Int) := by rw [i64_in _ (by omega)]; omega
  have HY := Lib.hid (show okP true xs m → ∀ w', Below w.heap.size w w' → StE (LoE ⟨em, true, G, M, a1, a2, a3⟩ xs) (LoS ⟨em, true, G, M, a1, a2, a3⟩ xs) w (.returned (.tuple #[.string ⟨(loB true xs m).toArray⟩, .int .i64 0])) w' from fun h w' hb => by
    have hx : mayPs ⟨em, true, G, M, a1, a2, a3⟩ xs := ⟨by simp only; omega, by rw [hlen]; exact h⟩
    exact stE_ok (if_pos ⟨hm, hx⟩) (by unfold LoS; rw [if_pos ⟨hm, hx⟩, hlen]) hb)
  have HN := Lib.hid (show ∀ k, k < m → ¬ (paN xs k ≤ co xs k ∧ mayPl true (co xs k)) → ∀ w', Below w.heap.size w w' → StE (LoE ⟨em, true, G, M, a1, a2, a3⟩ xs) (LoS ⟨em, true, G, M, a1, a2, a3⟩ xs) w (.returned (.tuple #[.string ⟨#[]⟩, .int .i64 1])) w' from fun k hk h w' hb => by
    have hx : ¬ mayPs ⟨em, true, G, M, a1, a2, a3⟩ xs := fun h2 => h (h2.2 k (by rw [hlen]; exact hk))
    exact stE_err (if_neg (fun h => hx h.2)) (if_neg (fun h => hx h.2)) hb)
  have HI := Lib.hid hI
  have S := Lib.hid (MS.start w ⟨em, true, G, M, a1, a2, a3⟩)
  have HX := Lib.hid (show ∀ k, 0 ≤ co xs k → mayPl true (co xs k) → ∃ n j : Nat, ∃ D : ByteArray, co xs k = (n : Int) ∧ IntKind.u32.wrap (n : Int) = (n : Int) ∧ j = n ∧ j = j ∧ j = j ∧ (∀ W, Calls Try.prog 28 #[.int .u32 (n : Int), .int .i64 4] W fun e w' => e = .returned (.string D) ∧ Below W.heap.size W w') ∧ D.size ≤ 4 ∧ D.data.toList = loK true (co xs k) by
    intro k h0 h2
    have h2 : co xs k ≤ 1048576 := h2
    refine ⟨(co xs k).toNat, _, ⟨(byt 4 (co xs k).toNat).toArray⟩, by omega, wrap_u32n _ (by omega), rfl, rfl, rfl, fun W => put_four _ W (by omega), ?_, rfl⟩
    show (byt 4 (co xs k).toNat).toArray.size ≤ 4
    rw [List.size_toArray, byt_len]; omega)
  clear cm hm hI hlen hmG b1 b2 b3 b4
  go_enter Try.func16, Try.ntmps16
  go_upto_region 1 with fail
  obtain ⟨b, hb⟩ : ∃ b, b = w.heap.size := ⟨_, rfl⟩
  obtain ⟨W0, hW0⟩ : ∃ W, W = w.alloc (.cells #[.int .i64 em, .bool true, .int .i64 (G : Int), .int .i64 (M : Int), .int .i64 a1, .int .i64 a2, .int .i64 a3] 23) := ⟨_, rfl⟩
  rw [← hW0] at S ⊢
  rw [← hb] at S ⊢
  obtain ⟨f0, f1, f2, f3, f4, f5, f6⟩ := S.out.cells
  clear hb hW0
  go_wp2_with (go_at_call 19; (with_reducible refine (CM.out _).mono ?_); rintro e w1 ⟨rfl, hb⟩; have S := Lib.hid (S.out.next hb); clear hb f0 f1 f2 f3 f4 f5 f6; obtain ⟨f0, f1, f2, f3, f4, f5, f6⟩ := S.out.cells)
  clear f0 f1 f2 f3 f4 f5 f6 CM e1
  go_loopw [6, 7, 8] (fun v u i wr => ∃ k : Nat, ∃ T : ByteArray, v = .string T ∧ T.data.toList = loB true xs k ∧ u = .int .i64 (paN xs k) ∧ i = .int .i64 (k : Int) ∧ k ≤ m ∧ okP true xs k ∧ MS w wr b ⟨em, true, G, M, a1, a2, a3⟩) (fun _ _ i _ => m - (intOf i).toNat)
  case atStart => exact ⟨0, ⟨#[]⟩, rfl, rfl, rfl, rfl, Nat.zero_le _, okP_zero _ _, S.out⟩
  case round =>
    obtain ⟨k, T, rfl, hT, rfl, rfl, hk, hok, hS⟩ := hrel
    have HS := Lib.hid hS
    have HT := Lib.hid hT
    by_cases hgo : k < m
    · obtain ⟨f0, f1, f2, f3, f4, f5, f6⟩ := hS.cells
      obtain ⟨a, rfl, c0⟩ := HI.out.at_ hS.bel hgo
      have HSK := Lib.hid (fun h1 => okP_succ (k := k) hok h1)
      have HNK := Lib.hid (HN.out k hgo)
      have HXK := Lib.hid (HX.out k)
      have HPX := Lib.hid (show paN xs (k + 1) = co xs k from rfl)
      have HNX := Lib.hid (show loB true xs (k + 1) = loB true xs k ++ loK true (co xs k) from rfl)
      have hpos := okP_pos hok
      have hTl : T.size ≤ 4100 := by rw [← size_list, hT]; exact loB_le _ _ _ (by omega)
      obtain ⟨p, hp⟩ : ∃ p, p = co xs k := ⟨_, rfl⟩
      obtain ⟨q, hq⟩ : ∃ q, q = paN xs k := ⟨_, rfl⟩
      rw [← hp, ← hq] at HSK HNK
      rw [← hp] at c0 HNX HXK HPX
      rw [← hq] at hpos ⊢
      clear hS hok hp hq hT
      by_cases h0 : p < q
      · have HX := Lib.hid (HNK.out (by omega))
        clear hpos
        go_wp2_with fail
        go_ret2
        exact HX.out _ HS.out.bel
      · by_cases h1 : 1048576 < p
        · have HX := Lib.hid (HNK.out (fun h => by have h4 : p ≤ 1048576 := h.2; omega))
          have d1 : decide (1048576 < p) = true := decide_eq_true h1
          clear hpos h1
          go_wp2_with fail
          go_ret2
          exact HX.out _ HS.out.bel
        · have HX := Lib.hid (HSK.out ⟨by omega, show p ≤ 1048576 by omega⟩)
          have d1 : decide (1048576 < p) = false := decide_eq_false h1
          obtain ⟨n, j, D, hn, hw, hw2, hw3, hw4, hc, hd1, hd2⟩ := HXK.out (by omega) (show p ≤ 1048576 by omega)
          have HC := Lib.hid hc
          have HD := Lib.hid (And.intro hd1 hd2)
          have q1 : ¬ 9223372036854775807 < T.size + D.size := by omega
          subst hn
          clear hpos h1 HXK hc hd1 hd2 hw2 hw3 hw4 HNK
          go_wp2_with (go_at_call 28; (with_reducible refine (HC.out _).mono ?_); rintro e w4 ⟨rfl, hb⟩; have HS4 := Lib.hid (HS.out.next hb); clear hb)
          exact ⟨⟨k + 1, _, rfl, by rw [app_list, HT.out, HNX.out, HD.out.2], by rw [HPX.out], by simp, by omega, HX.out, HS4.out⟩, by simp [intOf]; omega⟩
    · obtain rfl : k = m := by omega
      have HX := Lib.hid (HY.out hok)
      rw [← HT.out, ← of_list rfl] at HX
      clear hS hok hT
      go_wp2_with fail
      go_ret2
      exact HX.out _ HS.out.bel
theorem rloca_any (h : Hd) (A : Option Addr) (m c : Nat) (xs : List Int) (w : World) (hI : Il w A m xs) : Calls Try.prog 16 #[.agg #[.int .i64 h.em, .bool h.lg, .int .i64 h.gl, .int .i64 h.me, .int .i64 h.a1, .int .i64 h.a2, .int .i64 h.a3], .slice A m c] w (StE (LoE h xs) (LoS h xs) w) := by
  by_cases hm : MayP h
  · obtain ⟨G, M, h1, h2, h3, h4, h5, h6⟩ := hm.nat
    obtain ⟨em, lg, gl, me, a1, a2, a3⟩ := h
    simp only at h1 h2
    subst h1 h2
    by_cases hmG : m = G + 1
    · cases lg
      · exact rloca_ok_false em G M a1 a2 a3 A m c xs w hI hm hmG
      · exact rloca_ok_true em G M a1 a2 a3 A m c xs w hI hm hmG
    · exact rloca_len em lg G M a1 a2 a3 A m c xs w hI hm h4 hmG
  · exact rloca_no h A m c xs w hm
end Go.Proofs.Ytibbgmahdiphpaa
