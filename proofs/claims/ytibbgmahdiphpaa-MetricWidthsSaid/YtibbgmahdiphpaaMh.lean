/- Proved here: what Hmtx answers, in the document. Condition: a list of at most 10^6 numbers. -/
import Derived.Test.YtibbgmahdiphpaaMg
namespace Go.Proofs.Ytibbgmahdiphpaa
open Go.RowKit

theorem put_two (n : Nat) (w : World) (hn : n < 4294967296) : Calls Try.prog 28 #[.int .u32 (n : Int), .int .i64 2] w fun e w' => e = .returned (.string ⟨(byt 2 n).toArray⟩) ∧ Below w.heap.size w w' := put_any n 2 w hn (by decide)
theorem put_four (n : Nat) (w : World) (hn : n < 4294967296) : Calls Try.prog 28 #[.int .u32 (n : Int), .int .i64 4] w fun e w' => e = .returned (.string ⟨(byt 4 n).toArray⟩) ∧ Below w.heap.size w w' := put_any n 4 w hn (by decide)
theorem wrap_u32n (n : Nat) (h : n < 4294967296) : IntKind.u32.wrap (n : Int) = (n : Int) := by rw [IntKind.wrap_u32]; omega
theorem rhmtx_no (h : Hd) (A : Option Addr) (m c : Nat) (xs : List Int) (w : World) (hm : ¬ MayP h) : Calls Try.prog 14 #[.agg #[.int .i64 h.em, .bool h.lg, .int .i64 h.gl, .int .i64 h.me, .int .i64 h.a1, .int .i64 h.a2, .int .i64 h.a3], .slice A m c] w (StE (HmE h xs) (HmS h xs) w) := by
  have cm := fun W => rmay_any h W
  rw [decide_eq_false hm] at cm
  have CM := Lib.hid cm
  have S := Lib.hid (MS.start w h)
  have HP := Lib.hid (fun w' (hb : Below w.heap.size w w') => stE_err (show HmE h xs = 1 from if_neg (fun h => hm h.1)) (show HmS h xs = [] from if_neg (fun h => hm h.1)) hb)
  obtain ⟨f0, f1, f2, f3, f4, f5, f6⟩ := S.out.cells
  clear cm hm
  go_enter Try.func14, Try.ntmps14
  go_wp2_with (go_at_call 19; (with_reducible refine (CM.out _).mono ?_); rintro e w1 ⟨rfl, hb⟩; have S := Lib.hid (S.out.next hb); clear hb)
  go_ret2
  exact HP.out _ S.out.bel
theorem rhmtx_len (em : Int) (lg : Bool) (G M : Nat) (a1 a2 a3 : Int) (A : Option Addr) (m c : Nat) (xs : List Int) (w : World) (hI : Il w A m xs) (hm : MayP ⟨em, lg, G, M, a1, a2, a3⟩) (hne : ¬ m = G) : Calls Try.prog 14 #[.agg #[.int .i64 em, .bool lg, .int .i64 (G : Int), .int .i64 (M : Int), .int .i64 a1, .int .i64 a2, .int .i64 a3], .slice A m c] w (StE (HmE ⟨em, lg, G, M, a1, a2, a3⟩ xs) (HmS ⟨em, lg, G, M, a1, a2, a3⟩ xs) w) := by
  have hx : ¬ mayW ⟨em, lg, G, M, a1, a2, a3⟩ xs := fun h => hne (by have h1 := h.1; have := hI.len; simp only at h1; omega)
  have cm := fun W => rmay_any ⟨em, lg, G, M, a1, a2, a3⟩ W
  rw [decide_eq_true hm] at cm
  have CM := Lib.hid cm
  have S := Lib.hid (MS.start w ⟨em, lg, G, M, a1, a2, a3⟩)
  have HP := Lib.hid (fun w' (hb : Below w.heap.size w w') => stE_err (show HmE ⟨em, lg, G, M, a1, a2, a3⟩ xs = 1 from if_neg (fun h => hx h.2)) (show HmS ⟨em, lg, G, M, a1, a2, a3⟩ xs = [] from if_neg (fun h => hx h.2)) hb)
  obtain ⟨f0, f1, f2, f3, f4, f5, f6⟩ := S.out.cells
  clear cm hm hx hI
  go_enter Try.func14, Try.ntmps14
  go_wp2_with (go_at_call 19; (with_reducible refine (CM.out _).mono ?_); rintro e w1 ⟨rfl, hb⟩; have S := Lib.hid (S.out.next hb); clear hb f0 f1 f2 f3 f4 f5 f6; obtain ⟨f0, f1, f2, f3, f4, f5, f6⟩ := S.out.cells)
  go_ret2
  exact HP.out _ S.out.bel
set_option maxRecDepth 100000 in
set_option maxHeartbeats 4000000 in
theorem rhmtx_ok (em : Int) (lg : Bool) (G M : Nat) (a1 a2 a3 : Int) (A : Option Addr) (c : Nat) (xs : List Int) (w : World) (hI : Il w A G xs) (hm : MayP ⟨em, lg, G, M, a1, a2, a3⟩) :
    Calls Try.prog 14 #[.agg #[.int .i64 em, .bool lg, .int .i64 (G : Int), .int .i64 (M : Int), .int .i64 a1, .int .i64 a2, .int .i64 a3], .slice A G c] w (StE (HmE ⟨em, lg, G, M, a1, a2, a3⟩ xs) (HmS ⟨em, lg, G, M, a1, a2, a3⟩ xs) w) := by
  have cm := fun W => rmay_any ⟨em, lg, G, M, a1, a2, a3⟩ W
  rw [decide_eq_true hm] at cm
  have CM := Lib.hid cm
  simp only at CM
  obtain ⟨_, ⟨b1, b2⟩, ⟨b3, b4⟩, _⟩ := id hm
  simp only at b1 b2 b3 b4
  have hG : G ≤ 1024 := by omega
  have hlen := hI.len
  have HY := Lib.hid (show okW M xs G → ∀ w', Below w.heap.size w w' → StE (HmE ⟨em, lg, G, M, a1, a2, a3⟩ xs) (HmS ⟨em, lg, G, M, a1, a2, a3⟩ xs) w (.returned (.tuple #[.string ⟨(hmB M xs G).toArray⟩, .int .i64 0])) w' from fun h w' hb => by
    have hx : mayW ⟨em, lg, G, M, a1, a2, a3⟩ xs := ⟨by simp only; omega, by rw [hlen]; exact h⟩
    exact stE_ok (if_pos ⟨hm, hx⟩) (by unfold HmS; rw [if_pos ⟨hm, hx⟩, hlen]; rfl) hb)
  have HN := Lib.hid (show ∀ k, k < G → ¬ (0 ≤ co xs k ∧ co xs k ≤ 65535 ∧ co xs k = co xs (min k (M - 1))) → ∀ w', Below w.heap.size w w' → StE (HmE ⟨em, lg, G, M, a1, a2, a3⟩ xs) (HmS ⟨em, lg, G, M, a1, a2, a3⟩ xs) w (.returned (.tuple #[.string ⟨#[]⟩, .int .i64 1])) w' from fun k hk h w' hb => by
    have hx : ¬ mayW ⟨em, lg, G, M, a1, a2, a3⟩ xs := fun h2 => h (h2.2 k (by rw [hlen]; exact hk))
    exact stE_err (if_neg (fun h => hx h.2)) (if_neg (fun h => hx h.2)) hb)
  have e4 : (M : Int) - 1 = ((M - 1 : Nat) : Int) := by omega
  obtain ⟨M1, hM1⟩ : ∃ j, j = M - 1 := ⟨_, rfl⟩
  rw [← hM1] at e4 HN
  have e5 : IntKind.i64.wrap (M1 : Int) = (M1 : Int) := i64_in _ (by omega)
  have HM1 := Lib.hid (show M1 < G ∧ M = M1 + 1 by omega)
  have HE := Lib.hid (And.intro e4 e5)
  have S := Lib.hid (MS.start w ⟨em, lg, G, M, a1, a2, a3⟩)
  have HI := Lib.hid hI
  have HSU := Lib.hid (show ∀ k, okW M xs k → 0 ≤ co xs k ∧ co xs k ≤ 65535 ∧ co xs k = co xs (min k M1) → okW M xs (k + 1) from fun k h h1 => okW_succ h (by rw [← hM1]; exact h1))
  have HX := Lib.hid (show ∀ k, 0 ≤ co xs k → co xs k ≤ 65535 → ∃ n : Nat, ∃ D : ByteArray, co xs k = (n : Int) ∧ IntKind.u32.wrap (n : Int) = (n : Int) ∧ (∀ W, Calls Try.prog 28 #[.int .u32 (n : Int), .int .i64 2] W fun e w' => e = .returned (.string D) ∧ Below W.heap.size W w') ∧ D.size = 2 ∧ D.data.toList = byt 2 (co xs k).toNat by
    intro k h1 h2
    refine ⟨(co xs k).toNat, ⟨(byt 2 (co xs k).toNat).toArray⟩, by omega, wrap_u32n _ (by omega), fun W => put_two _ W (by omega), ?_, rfl⟩
    show (byt 2 (co xs k).toNat).toArray.size = 2
    rw [List.size_toArray]; exact byt_len 2 _)
  have HOK0 := Lib.hid (show okW M xs 0 from fun i hi => by omega)
  clear cm hm hI hlen hM1 e4 e5 b1 b2 b3 b4
  go_enter Try.func14, Try.ntmps14
  go_upto_region 1 with fail
  obtain ⟨b, hb⟩ : ∃ b, b = w.heap.size := ⟨_, rfl⟩
  obtain ⟨W0, hW0⟩ : ∃ W, W = w.alloc (.cells #[.int .i64 em, .bool lg, .int .i64 (G : Int), .int .i64 (M : Int), .int .i64 a1, .int .i64 a2, .int .i64 a3] 23) := ⟨_, rfl⟩
  rw [← hW0] at S ⊢
  rw [← hb] at S ⊢
  obtain ⟨f0, f1, f2, f3, f4, f5, f6⟩ := S.out.cells
  clear hb hW0
  go_wp2_with (go_at_call 19; (with_reducible refine (CM.out _).mono ?_); rintro e w1 ⟨rfl, hb⟩; have S := Lib.hid (S.out.next hb); clear hb f0 f1 f2 f3 f4 f5 f6; obtain ⟨f0, f1, f2, f3, f4, f5, f6⟩ := S.out.cells)
  clear f0 f1 f2 f3 f4 f5 f6 CM
  go_loopw [6, 7] (fun v i wr => ∃ k : Nat, ∃ T : ByteArray, v = .string T ∧ T.data.toList = hmB M xs k ∧ i = .int .i64 (k : Int) ∧ k ≤ G ∧ okW M xs k ∧ MS w wr b ⟨em, lg, G, M, a1, a2, a3⟩) (fun _ i _ => G - (intOf i).toNat)
  case atStart => exact ⟨0, ⟨#[]⟩, rfl, rfl, rfl, Nat.zero_le _, HOK0.out, S.out⟩
  case round =>
    obtain ⟨k, T, rfl, hT, rfl, hk, hok, hS⟩ := hrel
    have HS := Lib.hid hS
    have HT := Lib.hid hT
    by_cases hgo : k < G
    · obtain ⟨f0, f1, f2, f3, f4, f5, f6⟩ := hS.cells
      obtain ⟨a, rfl, c0⟩ := HI.out.at_ hS.bel hgo
      obtain ⟨a', ha', c1⟩ := HI.out.at_ hS.bel HM1.out.1
      injection ha' with ha'
      subst ha'
      have hM1 := HM1.out.1
      have HSK := Lib.hid (HSU.out k hok)
      have HNK := Lib.hid (HN.out k hgo)
      have HXK := Lib.hid (HX.out k)
      have HNX := Lib.hid (show hmB M xs (k + 1) = hmB M xs k ++ ((if k < M then byt 2 (co xs k).toNat else []) ++ [0, 0]) from rfl)
      have hTl : T.size ≤ 4096 := by rw [← size_list, hT, hmB_len]; omega
      obtain ⟨x, hx⟩ : ∃ x, x = co xs k := ⟨_, rfl⟩
      obtain ⟨y, hy⟩ : ∃ y, y = co xs M1 := ⟨_, rfl⟩
      have q1 : ¬ 9223372036854775807 < T.size + 2 := by omega
      have e4 := HE.out.1
      have e5 := HE.out.2
      rw [← hx] at c0
      rw [← hy] at c1
      by_cases hmk : M ≤ k
      · have hmin : min k M1 = M1 := by have := HM1.out.2; omega
        rw [hmin, ← hx, ← hy] at HSK HNK
        rw [← hx] at HNX HXK
        have hkM : ¬ k < M := by omega
        rw [if_neg hkM] at HNX
        clear hS hok hmin hx hy hT
        by_cases h0 : x < 0
        · have HX := Lib.hid (HNK.out (by omega))
          have d0 : decide (x < 0) = true := decide_eq_true h0
          clear h0
          go_wp2_with fail
          go_quiet (fail)
          all_goals
            go_wp2_with fail
            go_ret2
            exact HX.out _ (below_drewN HS.out.bel _)
        · by_cases h1 : 65535 < x
          · have HX := Lib.hid (HNK.out (by omega))
            have d0 : decide (x < 0) = false := decide_eq_false h0
            have d1 : decide (65535 < x) = true := decide_eq_true h1
            clear h0 h1
            go_wp2_with fail
            go_quiet (fail)
            all_goals
              go_wp2_with fail
              go_ret2
              exact HX.out _ (below_drewN HS.out.bel _)
          · by_cases h2 : x = y
            · have HX := Lib.hid (HSK.out (by omega))
              have d0 : decide (x < 0) = false := decide_eq_false h0
              have d1 : decide (65535 < x) = false := decide_eq_false h1
              subst h2
              clear h0 h1 HXK
              go_wp2_with fail
              go_quiet (fail)
              all_goals
                go_wp2_with fail
                exact ⟨⟨k + 1, _, rfl, by rw [app_list, HT.out, HNX.out]; rfl, by simp, by omega, HX.out, ⟨below_drewN HS.out.bel _, HS.out.box.drewN _, HS.out.far⟩⟩, by simp [intOf]; omega⟩
            · have HX := Lib.hid (HNK.out (fun h => h2 h.2.2))
              have d0 : decide (x < 0) = false := decide_eq_false h0
              have d1 : decide (65535 < x) = false := decide_eq_false h1
              have h3 : (x != y) = true := by simp [h2]
              clear h0 h1 h2
              go_wp2_with fail
              go_quiet (fail)
              all_goals
                go_wp2_with fail
                go_ret2
                exact HX.out _ (below_drewN HS.out.bel _)

      · have hmin : min k M1 = k := by have := HM1.out.2; omega
        rw [hmin, ← hx] at HSK HNK
        rw [← hx] at HNX HXK
        have hkM : k < M := by omega
        rw [if_pos hkM] at HNX
        clear hS hok hmin hx hy hT c1
        by_cases h0 : x < 0
        · have HX := Lib.hid (HNK.out (by omega))
          have d0 : decide (x < 0) = true := decide_eq_true h0
          clear h0
          go_wp2_with fail
          go_quiet (fail)
          all_goals
            go_wp2_with fail
            go_ret2
            exact HX.out _ (below_drewN HS.out.bel _)
        · by_cases h1 : 65535 < x
          · have HX := Lib.hid (HNK.out (by omega))
            have d0 : decide (x < 0) = false := decide_eq_false h0
            have d1 : decide (65535 < x) = true := decide_eq_true h1
            clear h0 h1
            go_wp2_with fail
            go_quiet (fail)
            all_goals
              go_wp2_with fail
              go_ret2
              exact HX.out _ (below_drewN HS.out.bel _)
          · have HX := Lib.hid (HSK.out (by omega))
            obtain ⟨n, D, hn, hw, hc, hd1, hd2⟩ := HXK.out (by omega) (by omega)
            have HC := Lib.hid hc
            have HD := Lib.hid (And.intro hd1 hd2)
            have d0 : decide (x < 0) = false := decide_eq_false h0
            have d1 : decide (65535 < x) = false := decide_eq_false h1
            have q2 : ¬ 9223372036854775807 < T.size + D.size := by omega
            have q3 : ¬ 9223372036854775807 < T.size + D.size + 2 := by omega
            subst hn
            clear h0 h1 HXK hc hd1 hd2
            go_wp2_with fail
            go_quiet (fail)
            all_goals
              have HSd := Lib.hid (show ∀ n, MS w (wr.drewN n) b ⟨em, lg, G, M, a1, a2, a3⟩ from fun n => ⟨below_drewN HS.out.bel n, HS.out.box.drewN n, HS.out.far⟩)
              go_wp2_with (go_at_call 28; (with_reducible refine (HC.out _).mono ?_); rintro e w4 ⟨rfl, hb⟩; have HS4 := Lib.hid ((HSd.out _).next hb); clear hb)
              exact ⟨⟨k + 1, _, rfl, by rw [app_list, app_list, HT.out, HNX.out, HD.out.2, List.append_assoc], by simp, by omega, HX.out, HS4.out⟩, by simp [intOf]; omega⟩

    · obtain rfl : k = G := by omega
      have HX := Lib.hid (HY.out hok)
      rw [← HT.out, ← of_list rfl] at HX
      clear hS hok hT
      go_wp2_with fail
      go_ret2
      exact HX.out _ HS.out.bel
theorem rhmtx_any (h : Hd) (A : Option Addr) (m c : Nat) (xs : List Int) (w : World) (hI : Il w A m xs) : Calls Try.prog 14 #[.agg #[.int .i64 h.em, .bool h.lg, .int .i64 h.gl, .int .i64 h.me, .int .i64 h.a1, .int .i64 h.a2, .int .i64 h.a3], .slice A m c] w (StE (HmE h xs) (HmS h xs) w) := by
  by_cases hm : MayP h
  · obtain ⟨G, M, h1, h2, h3, h4, h5, h6⟩ := hm.nat
    obtain ⟨em, lg, gl, me, a1, a2, a3⟩ := h
    simp only at h1 h2
    subst h1 h2
    by_cases hmG : m = G
    · subst hmG
      exact rhmtx_ok em lg m M a1 a2 a3 A c xs w hI hm
    · exact rhmtx_len em lg G M a1 a2 a3 A m c xs w hI hm hmG
  · exact rhmtx_no h A m c xs w hm
end Go.Proofs.Ytibbgmahdiphpaa
