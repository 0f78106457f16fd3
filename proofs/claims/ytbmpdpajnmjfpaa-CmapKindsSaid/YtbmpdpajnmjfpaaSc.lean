/- Proved here: what Make answers, in the document. Condition: a list that lies in memory. -/
import Derived.Test.YtbmpdpajnmjfpaaSb
namespace Go.Proofs.Ytbmpdpajnmjfpaa
open Go.RowKit

set_option maxRecDepth 100000 in
theorem rmake_bad (A : Option Addr) (c : Nat) (long : Bool) (L : List (Int × Int)) (w : World) (hP : Pl w A L.length L) (hM : ¬ MayP L 1024) : Calls Try.prog 7 #[.slice A L.length c, .bool long] w (StE (mkE L long) (mkS L long) w) := by
  obtain ⟨h1, h2⟩ := mk_no (L := L) (long := long) fun h => hM h.1
  obtain ⟨m, hmL⟩ : ∃ m, m = L.length := ⟨_, rfl⟩
  have HF := Lib.hid (fun w' (hb : Below w.heap.size w w') => stE_err h1 h2 hb)
  have CM := Lib.hid (fun W (h : Pl W A m L) => rmay_any A m c L 1024 W h)
  rw [decide_eq_false hM] at CM
  rw [← hmL] at hP ⊢
  have HP := Lib.hid hP
  clear hP hM h1 h2 hmL
  go_enter Try.func7, Try.ntmps7
  go_wp2_with (go_at_call 9; (with_reducible refine (CM.out _ HP.out).mono ?_); rintro e w1 ⟨rfl, hb⟩; have HB1 := Lib.hid hb; clear hb)
  go_ret2
  exact HF.out _ HB1.out
set_option maxRecDepth 100000 in
theorem rmake_far (A : Option Addr) (c : Nat) (L : List (Int × Int)) (w : World) (hP : Pl w A L.length L) (hM : MayP L 1024) (h0 : 0 < L.length) (hx : 65534 < cd L (L.length - 1)) : Calls Try.prog 7 #[.slice A L.length c, .bool false] w (StE (mkE L false) (mkS L false) w) := by
  obtain ⟨h1, h2⟩ := mk_no (L := L) (long := false) fun h => by rcases h.2 with h | h | h <;> first | cases h | omega
  have hm := hM.2.1
  obtain ⟨q, hq⟩ : ∃ q, L.length = q + 1 := ⟨L.length - 1, by omega⟩
  obtain ⟨m, hmL⟩ : ∃ m, m = L.length := ⟨_, rfl⟩
  have HF := Lib.hid (fun w' (hb : Below w.heap.size w w') => stE_err h1 h2 hb)
  have CM := Lib.hid (fun W (h : Pl W A m L) => rmay_any A m c L 1024 W h)
  rw [decide_eq_true hM] at CM
  rw [← hmL] at hP h0 hm hq ⊢
  rw [show L.length - 1 = q by omega] at hx
  have HP := Lib.hid hP
  have e1 : IntKind.i64.wrap ((m : Int) - 1) = (q : Int) := by rw [i64_in _ (by omega)]; omega
  obtain ⟨x, hxx⟩ : ∃ x, x = cd L q := ⟨_, rfl⟩
  have HX := Lib.hid hxx
  rw [← hxx] at hx
  have hqm : q < m := by omega
  have HCQ := Lib.hid (show ∀ W, Pl W A m L → ∃ a, A = some a ∧ W.cell? (a.add (q * 2)) = some (.int .i64 x) from fun W h => by
    obtain ⟨a, h1, h2, _⟩ := h.at_ (Below.refl _ _) hqm
    exact ⟨a, h1, by rw [HX.out]; exact h2⟩)
  obtain ⟨a, hA, c0⟩ := HCQ.out w HP.out
  subst hA
  clear hP hM h1 h2 hmL hxx hq
  go_enter Try.func7, Try.ntmps7
  go_wp2_with (go_at_call 9; (with_reducible refine (CM.out _ HP.out).mono ?_); rintro e w1 ⟨rfl, hb⟩; have HB1 := Lib.hid hb; obtain ⟨a', hA', c1⟩ := HCQ.out _ (HP.out.bel hb); injection hA' with hA'; subst hA'; clear hb)
  go_ret2
  exact HF.out _ HB1.out
/-- What is appended in the document: the last segment, of glyph 65536. -/
def lastG : Int × Int × Int := (65535, 65535, 65536)
theorem tosB_last (R : List (Int × Int × Int)) : tosB (R ++ [lastG]) = tosB (R ++ [lastR]) := by simp [tosB, lastG, lastR]
theorem frsB_last (R : List (Int × Int × Int)) : frsB (R ++ [lastG]) = frsB (R ++ [lastR]) := by simp [frsB, lastG, lastR]
theorem dlsB_last (R : List (Int × Int × Int)) : dlsB (R ++ [lastG]) = dlsB (R ++ [lastR]) := by
  simp only [dlsB, List.flatMap_append]
  rfl
theorem zerB_succ (n : Nat) : zerB (n + 1) = zerB n ++ byt 2 0 := by
  unfold zerB
  rw [Lib.repeatL_add, Lib.repeatL_one]
  rfl
/-- What has been written of the segments, in the document. -/
structure Cat (S : List (Int × Int × Int)) (k : Nat) (T1 T2 T3 T4 : ByteArray) : Prop where
  t1 : T1.data.toList = tosB (S.take k)
  t2 : T2.data.toList = frsB (S.take k)
  t3 : T3.data.toList = dlsB (S.take k)
  t4 : T4.data.toList = zerB k
theorem Cat.sizes {S : List (Int × Int × Int)} {k : Nat} {T1 T2 T3 T4 : ByteArray} (h : Cat S k T1 T2 T3 T4) (hk : k ≤ S.length) : T1.size = 2 * k ∧ T2.size = 2 * k ∧ T3.size = 2 * k ∧ T4.size = 2 * k := by
  obtain ⟨h1, h2, h3, h4⟩ := h
  have hl : (S.take k).length = k := by rw [List.length_take]; omega
  have q1 := congrArg List.length h1
  have q2 := congrArg List.length h2
  have q3 := congrArg List.length h3
  have q4 := congrArg List.length h4
  rw [size_list, tosB_len, hl] at q1
  rw [size_list, frsB_len, hl] at q2
  rw [size_list, dlsB_len, hl] at q3
  rw [size_list, zerB_len] at q4
  exact ⟨q1, q2, q3, q4⟩
set_option maxHeartbeats 8000000 in
set_option maxRecDepth 100000 in
theorem rmake_short (A : Option Addr) (c : Nat) (L : List (Int × Int)) (w : World) (hP : Pl w A L.length L) (hM : MayP L 1024) (hx : L.length = 0 ∨ cd L (L.length - 1) ≤ 65534) : Calls Try.prog 7 #[.slice A L.length c, .bool false] w (StE (mkE L false) (mkS L false) w) := by
  have hok : okMk L false := ⟨hM, .inr hx⟩
  have hRl := runs_len_le L L.length
  have hmm := hM.2.1
  obtain ⟨h1, h2⟩ := mk_yes hok
  obtain ⟨mL, hmL⟩ : ∃ m, m = L.length := ⟨_, rfl⟩
  have hmLb : mL ≤ 4096 := by rw [hmL]; exact hmm
  obtain ⟨R, hR⟩ : ∃ R, R = runs L L.length := ⟨_, rfl⟩
  obtain ⟨m, hm⟩ : ∃ m, m = R.length := ⟨_, rfl⟩
  have hm4 : m ≤ 4096 := by rw [hm, hR]; omega
  obtain ⟨S, hS⟩ : ∃ S, S = R ++ [lastG] := ⟨_, rfl⟩
  obtain ⟨M, hMm⟩ : ∃ M, M = m + 1 := ⟨_, rfl⟩
  have hSl : S.length = M := by rw [hS, hMm, hm]; simp
  have hf := runs_fits16 hM hx
  rw [← hR] at hf
  have HF := Lib.hid (fun (D : ByteArray) w' (hD : D.data.toList = rowB 3 1 ++ (byt 2 4 ++ byt 2 (16 + 8 * M) ++ byt 2 0 ++ cntB M) ++ tosB S ++ byt 2 0 ++ frsB S ++ dlsB S ++ zerB M) (hb : Below w.heap.size w w') => stE_ok h1 (D := D) (show D = ⟨(mkS L false).toArray⟩ by
    have hl : (R ++ [lastR]).length = M := by rw [hMm, hm]; simp
    have e2 : mkS L false = rowB 3 1 ++ sgB (R ++ [lastR]) := by rw [h2, hR]; rfl
    rw [of_list hD, e2]
    unfold sgB
    rw [hl, hS, tosB_last, frsB_last, dlsB_last]
    simp only [List.append_assoc]) hb)
  have HX := Lib.hid (show ∀ k, k < M → ∃ x y z n : Nat, rF S k = (x : Int) ∧ rT S k = (y : Int) ∧ rG S k = (z : Int) ∧ x < 65536 ∧ y < 65536 ∧ n < 4294967296 ∧ IntKind.i64.wrap ((z : Int) - (x : Int)) = (z : Int) - (x : Int) ∧ IntKind.i64.wrap ((z : Int) - (x : Int) + 65536) = (n : Int) ∧ tosB (S.take (k + 1)) = tosB (S.take k) ++ byt 2 y ∧ frsB (S.take (k + 1)) = frsB (S.take k) ++ byt 2 x ∧ dlsB (S.take (k + 1)) = dlsB (S.take k) ++ byt 2 (n % 65536) from fun k hk => by
    have hq : (0 ≤ rF S k ∧ rF S k < 65536) ∧ (0 ≤ rT S k ∧ rT S k < 65536) ∧ (0 ≤ rG S k ∧ rG S k ≤ 65536) := by
      rcases Nat.lt_or_ge k R.length with h | h
      · have := hf k h
        have e1 : S.getD k (0, 0, 0) = R.getD k (0, 0, 0) := by rw [hS]; simp [List.getD_eq_getElem?_getD, List.getElem?_append_left h]
        unfold rF rT rG at this ⊢
        rw [e1]
        obtain ⟨q1, q2, q3⟩ := this
        exact ⟨q1, q2, by omega⟩
      · have e1 : S.getD k (0, 0, 0) = lastG := by rw [hS, show k = R.length by omega]; simp [List.getD_eq_getElem?_getD]
        unfold rF rT rG
        rw [e1]; decide
    obtain ⟨q1, q2, q3⟩ := hq
    refine ⟨(rF S k).toNat, (rT S k).toNat, (rG S k).toNat, (rG S k - rF S k + 65536).toNat, by omega, by omega, by omega, by omega, by omega, by omega, i64_in _ (by omega), by rw [i64_in _ (by omega)]; omega, tosB_take (by omega), frsB_take (by omega), ?_⟩
    rw [dlsB_take (by omega)]
    congr 2
    unfold dlt
    simp only
    omega)
  have CM := Lib.hid (fun W (h : Pl W A mL L) => rmay_any A mL c L 1024 W h)
  rw [decide_eq_true hM] at CM
  have CG := Lib.hid (fun W (h : Pl W A mL L) => rgroups_any A mL c L W h hM)
  rw [← hmL] at hP hR hx ⊢
  rw [← hR] at CG
  have HP := Lib.hid hP
  have HSl := Lib.hid hSl
  have HRS := Lib.hid (show runC R ++ [.int .i64 65535, .int .i64 65535, .int .i64 65536] = runC S by rw [hS, runC_snoc]; rfl)
  obtain ⟨i50, h50a, h50b, h50c, h50d⟩ := info_parts Try.info50
  have H50 := Lib.hid (And.intro h50a (And.intro h50b (And.intro h50c h50d)))
  obtain ⟨P, hPw⟩ : ∃ P, P = 2 ^ pw M := ⟨_, rfl⟩
  obtain ⟨K, hKw⟩ : ∃ K, K = pw M := ⟨_, rfl⟩
  have hM0 : 0 < M := by omega
  have hMle : M ≤ 4097 := by omega
  have hP2 := (pw_two hM0).1
  have hK13 := pw_le hM0 (by omega)
  rw [← hPw] at hP2
  rw [← hKw] at hK13
  have CP := Lib.hid (show ∀ W, Calls Try.prog 21 #[.int .i64 (M : Int)] W fun e w' => e = .returned (.tuple #[.int .i64 (P : Int), .int .i64 (K : Int)]) ∧ W = w' from fun W => by rw [hPw, hKw]; exact rpower_any M W hM0 (by omega))
  obtain ⟨N, hN⟩ : ∃ N, N = 16 + 8 * M := ⟨_, rfl⟩
  obtain ⟨N2, hN2⟩ : ∃ N, N = 2 * M := ⟨_, rfl⟩
  obtain ⟨P2, hPP⟩ : ∃ N, N = 2 * P := ⟨_, rfl⟩
  obtain ⟨Q2, hQ2⟩ : ∃ N, N = 2 * M - 2 * P := ⟨_, rfl⟩
  obtain ⟨Da0, sa0, ha0, ca0⟩ := rp16_txt 0 (by decide)
  obtain ⟨Da1, sa1, ha1, ca1⟩ := rp16_txt 1 (by decide)
  obtain ⟨Da3, sa3, ha3, ca3⟩ := rp16_txt 3 (by decide)
  obtain ⟨Db12, sb12, hb12, cb12⟩ := rp32_txt 12 (by decide)
  obtain ⟨Da4, sa4, ha4, ca4⟩ := rp16_txt 4 (by decide)
  have Ca0 := Lib.hid (show ∀ W, Calls Try.prog 19 #[.int .i64 0] W fun ee w' => ee = .returned (.string Da0) ∧ Below W.heap.size W w' from ca0)
  have Ca1 := Lib.hid (show ∀ W, Calls Try.prog 19 #[.int .i64 1] W fun ee w' => ee = .returned (.string Da1) ∧ Below W.heap.size W w' from ca1)
  have Ca3 := Lib.hid (show ∀ W, Calls Try.prog 19 #[.int .i64 3] W fun ee w' => ee = .returned (.string Da3) ∧ Below W.heap.size W w' from ca3)
  have Cb12 := Lib.hid (show ∀ W, Calls Try.prog 20 #[.int .i64 12] W fun ee w' => ee = .returned (.string Db12) ∧ Below W.heap.size W w' from cb12)
  have Ca4 := Lib.hid (show ∀ W, Calls Try.prog 19 #[.int .i64 4] W fun ee w' => ee = .returned (.string Da4) ∧ Below W.heap.size W w' from ca4)
  obtain ⟨DN, sN, hNt, cN⟩ := rp16_txt N (by omega)
  obtain ⟨DM, sM, hMt, cM⟩ := rp16_txt N2 (by omega)
  obtain ⟨DP, sP, hPt, cP⟩ := rp16_txt P2 (by omega)
  obtain ⟨DK, sK, hKt, cK⟩ := rp16_txt K (by omega)
  obtain ⟨DR, sR, hRt, cR⟩ := rp16_txt Q2 (by omega)
  have CN := Lib.hid (show ∀ W, Calls Try.prog 19 #[.int .i64 (16 + 8 * (M : Int))] W fun ee w' => ee = .returned (.string DN) ∧ Below W.heap.size W w' by rw [show 16 + 8 * (M : Int) = (N : Int) by omega]; exact cN)
  have CM2 := Lib.hid (show ∀ W, Calls Try.prog 19 #[.int .i64 (2 * (M : Int))] W fun ee w' => ee = .returned (.string DM) ∧ Below W.heap.size W w' by rw [show 2 * (M : Int) = (N2 : Int) by omega]; exact cM)
  have CP2 := Lib.hid (show ∀ W, Calls Try.prog 19 #[.int .i64 (2 * (P : Int))] W fun ee w' => ee = .returned (.string DP) ∧ Below W.heap.size W w' by rw [show 2 * (P : Int) = (P2 : Int) by omega]; exact cP)
  have CK := Lib.hid cK
  have CR := Lib.hid (show ∀ W, Calls Try.prog 19 #[.int .i64 (2 * (M : Int) - 2 * (P : Int))] W fun ee w' => ee = .returned (.string DR) ∧ Below W.heap.size W w' by rw [show 2 * (M : Int) - 2 * (P : Int) = (Q2 : Int) by omega]; exact cR)
  have hPM : P ≤ M := hP2
  have g0 : ¬ 9223372036854775807 < Da0.size + Da1.size := by omega
  have g1 : ¬ 9223372036854775807 < Da0.size + Da1.size + Da3.size := by omega
  have g2 : ¬ 9223372036854775807 < Da0.size + Da1.size + Da3.size + Da1.size := by omega
  have g3 : ¬ 9223372036854775807 < Da0.size + Da1.size + Da3.size + Da1.size + Db12.size := by omega
  have g4 : ¬ 9223372036854775807 < Da0.size + Da1.size + Da3.size + Da1.size + Db12.size + Da4.size := by omega
  have g5 : ¬ 9223372036854775807 < Da0.size + Da1.size + Da3.size + Da1.size + Db12.size + Da4.size + DN.size := by omega
  have g6 : ¬ 9223372036854775807 < Da0.size + Da1.size + Da3.size + Da1.size + Db12.size + Da4.size + DN.size + Da0.size := by omega
  have g7 : ¬ 9223372036854775807 < Da0.size + Da1.size + Da3.size + Da1.size + Db12.size + Da4.size + DN.size + Da0.size + DM.size := by omega
  have g8 : ¬ 9223372036854775807 < Da0.size + Da1.size + Da3.size + Da1.size + Db12.size + Da4.size + DN.size + Da0.size + DM.size + DP.size := by omega
  have g9 : ¬ 9223372036854775807 < Da0.size + Da1.size + Da3.size + Da1.size + Db12.size + Da4.size + DN.size + Da0.size + DM.size + DP.size + DK.size := by omega
  have g10 : ¬ 9223372036854775807 < Da0.size + Da1.size + Da3.size + Da1.size + Db12.size + Da4.size + DN.size + Da0.size + DM.size + DP.size + DK.size + DR.size := by omega
  obtain ⟨DH, hDH⟩ : ∃ D : ByteArray, D = Da0 ++ Da1 ++ Da3 ++ Da1 ++ Db12 ++ Da4 ++ DN ++ Da0 ++ DM ++ DP ++ DK ++ DR := ⟨_, rfl⟩
  have HDH := Lib.hid (show Da0 ++ Da1 ++ Da3 ++ Da1 ++ Db12 ++ Da4 ++ DN ++ Da0 ++ DM ++ DP ++ DK ++ DR = DH from hDH.symm)
  have HHd := Lib.hid (show DH.data.toList = rowB 3 1 ++ (byt 2 4 ++ byt 2 (16 + 8 * M) ++ byt 2 0 ++ cntB M) by rw [hDH]; unfold cntB; rw [← hPw, ← hKw, ← hN, ← hN2, ← hPP, ← show Q2 = N2 - P2 by omega]; simp only [app_list, ha0, ha1, ha3, hb12, ha4, hNt, hMt, hPt, hKt, hRt, rowB, List.append_assoc])
  have HHs := Lib.hid (show DH.size = 26 by rw [hDH]; simp only [ByteArray.size_append]; omega)
  have HD0 := Lib.hid (And.intro ha0 sa0)
  have HB0 := Lib.hid (Below.refl w.heap.size w)
  have HMm := Lib.hid hMm
  have HML := Lib.hid (show m + 1 = M from hMm.symm)
  have HmR := Lib.hid hm
  have hm' : m = R.length := hm
  clear hM hok hRl hmm h1 h2 hR hf hDH hSl hS h50a h50b h50c h50d hPw hKw hN hN2 hPP hQ2 hMm hm sa0 ha0 ca0 sa1 ha1 ca1 sa3 ha3 ca3 sb12 hb12 cb12 sa4 ha4 ca4 sN hNt cN sM hMt cM sP hPt cP sK hKt cK sR hRt cR hP2 hK13
  rcases Nat.eq_zero_or_pos mL with h0 | h0
  · have h0' : ¬ 0 < mL := by omega
    clear hP hmL hx h0
    go_enter Try.func7, Try.ntmps7
    go_upto_region 11 with (first
      | (go_at_call 9; (with_reducible refine (CM.out _ HP.out).mono ?_); rintro e w1 ⟨rfl, hb⟩; have HB1 := Lib.hid hb; skip; clear hb)
      | (go_at_call 18; (with_reducible refine (CG.out _ (HP.out.bel HB1.out)).mono ?_); rintro e w2 ⟨A', c', rfl, ho, hb⟩; have HB2 := Lib.hid (HB1.out.trans (hb.mono HB1.out.size)); have HO := Lib.hid (And.intro ho (And.intro hb.size HB1.out.size)); clear hb ho))
    obtain ⟨B1, hB1⟩ : ∃ B, B = w1.heap.size := ⟨_, rfl⟩
    rw [← hB1] at HO
    rw [← HmR.out] at HO ⊢
    clear hB1
    go_upto_region 12 with (at_builtin; go_must (refine wpList_append_own _ rfl (.tmp 97) (.tmp 99) 46 rfl B1 50 i50 _ 3 24 Try.underlying46 H50.out.1 H50.out.2.1 H50.out.2.2.1 H50.out.2.2.2 rfl (by decide) (.slice A' m c') m (runC R) rfl (HO.out.1.alloc _) ⟨w2.heap.size, 0, none⟩ 1 1 [.int .i64 65535, .int .i64 65535, .int .i64 65536] rfl rfl (cells_new _ _ _) (by intro u hu; simp at hu; rcases hu with rfl | rfl <;> rfl) (by unfold maxLen; omega) (by omega) (by have := HO.out.2.1; simp; omega) ?_); intro v' w5 hown' hg' _)
    have hB5 : Below B1 w2 w5 := ((Below.refl B1 w2).alloc HO.out.2.1 (.cells #[.int .i64 65535, .int .i64 65535, .int .i64 65536] 50)).grown hg' (by have := HO.out.2.1; simp; omega) (fun k hk => (HO.out.1.lt k hk).1)
    obtain ⟨A2, c2, rfl⟩ := own_form hown'
    rw [HRS.out, HML.out] at hown'
    rw [HML.out]
    have HG := Lib.hid (show GrS w w5 A2 M S from ⟨HB2.out.trans (hB5.mono HO.out.2.2), own_rl hown' HSl.out⟩)
    clear hown' hg' hB5 HO
    go_wp2_with (go_at_call 21; (with_reducible refine (CP.out _).mono ?_); rintro e w' ⟨rfl, rfl⟩)
    go_loopw [12, 13, 14, 15, 16] (fun v1 v2 v3 v4 i wr => ∃ (k : Nat) (T1 T2 T3 T4 : ByteArray), i = .int .i64 (k : Int) ∧ k ≤ M ∧ v1 = .string T1 ∧ v2 = .string T2 ∧ v3 = .string T3 ∧ v4 = .string T4 ∧ Cat S k T1 T2 T3 T4 ∧ GrS w wr A2 M S) (fun _ _ _ _ i _ => M - (intOf i).toNat)
    case atStart => exact ⟨0, ⟨#[]⟩, ⟨#[]⟩, ⟨#[]⟩, ⟨#[]⟩, rfl, Nat.zero_le _, rfl, rfl, rfl, rfl, ⟨rfl, rfl, rfl, rfl⟩, HG.out⟩
    case round =>
      obtain ⟨k, T1, T2, T3, T4, rfl, hk, rfl, rfl, rfl, rfl, hC, hS⟩ := hrel
      have HS := Lib.hid hS
      have HC := Lib.hid hC
      obtain ⟨z1, z2, z3, z4⟩ := hC.sizes (by rw [HSl.out]; exact hk)
      by_cases hgo : k < M
      · obtain ⟨a, rfl, c0, c1, c2⟩ := hS.il.at_ (Below.refl _ _) hgo
        obtain ⟨x, y, z, n, hx, hy, hz, bx, by', bn, e1, e2, t1, t2, t3⟩ := HX.out k hgo
        rw [hx] at c0
        rw [hy] at c1
        rw [hz] at c2
        have HC3 := Lib.hid (fun W (h : GrS w W (some a) M S) => h.three hgo hx hy hz)
        obtain ⟨E1, s1, hE1, hc1⟩ := rp16_txt y by'
        obtain ⟨E2, s2, hE2, hc2⟩ := rp16_txt x bx
        obtain ⟨E3, s3, hE3, hc3⟩ := rp16_mod n bn
        have C1 := Lib.hid hc1
        have C2 := Lib.hid hc2
        have C3 := Lib.hid hc3
        have HDs := HD0.out.2
        have l1 : ¬ 9223372036854775807 < T1.size + E1.size := by omega
        have l2 : ¬ 9223372036854775807 < T2.size + E2.size := by omega
        have l3 : ¬ 9223372036854775807 < T3.size + E3.size := by omega
        have l4 : ¬ 9223372036854775807 < T4.size + Da0.size := by omega
        have HN2 := Lib.hid (show Cat S (k + 1) (T1 ++ E1) (T2 ++ E2) (T3 ++ E3) (T4 ++ Da0) from ⟨by rw [app_list, hC.t1, hE1, t1], by rw [app_list, hC.t2, hE2, t2], by rw [app_list, hC.t3, hE3, t3], by rw [app_list, hC.t4, HD0.out.1, zerB_succ]⟩)
        clear hS hC hx hy hz hE1 hE2 hE3 hc1 hc2 hc3 s1 s2 s3 bx by' bn t1 t2 t3 z1 z2 z3 z4 HDs
        go_upto_region 22 with (go_at_call 19; (with_reducible refine (C1.out _).mono ?_); rintro e w6 ⟨rfl, hb⟩; have HS := Lib.hid (HS.out.next hb); clear hb)
        clear c0 c1 c2
        obtain ⟨c0, c1, c2⟩ := HC3.out _ HS.out
        go_upto_region 23 with (go_at_call 19; (with_reducible refine (C2.out _).mono ?_); rintro e w7 ⟨rfl, hb⟩; have HS := Lib.hid (HS.out.next hb); clear hb)
        clear c0 c1 c2
        obtain ⟨c0, c1, c2⟩ := HC3.out _ HS.out
        go_region_held3 (fun w' => w'.cell? (a.add (k * 3)) = some (.int .i64 (x : Int)) ∧ w'.cell? { block := (a.add (k * 3)).block, off := (a.add (k * 3)).off + 1 } = some (.int .i64 (y : Int)) ∧ w'.cell? { block := (a.add (k * 3)).block, off := (a.add (k * 3)).off + 2 } = some (.int .i64 (z : Int)))
          (first | with_reducible exact HC3.out _ HS.out | go_keep)
          (first
            | (go_at_call 19; (with_reducible refine (C3.out _).mono ?_); rintro e w6 ⟨rfl, hb⟩; (first | have HS := Lib.hid (HS.out.next hb) | have HS := Lib.hid (HS.out.drew.next hb)); clear hb))
        clear c0 c1 c2
        go_wp2_with ((go_at_call 19; (with_reducible refine (Ca0.out _).mono ?_); rintro e w6 ⟨rfl, hb⟩; have HS := Lib.hid (HS.out.next hb); clear hb))
        exact ⟨⟨k + 1, _, _, _, _, by simp, by omega, rfl, rfl, rfl, rfl, HN2.out, HS.out⟩, by simp [intOf]; omega⟩
      · obtain rfl : k = M := by omega
        have HZ := Lib.hid (And.intro z1 (And.intro z2 (And.intro z3 z4)))
        clear hS hC
        go_upto_region 26 with (first
          | (go_at_call 19; (with_reducible refine (Ca0.out _).mono ?_); rintro e w6 ⟨rfl, hb⟩; have HS := Lib.hid (HS.out.next hb); clear hb)
          | (go_at_call 19; (with_reducible refine (Ca1.out _).mono ?_); rintro e w6 ⟨rfl, hb⟩; have HS := Lib.hid (HS.out.next hb); clear hb)
          | (go_at_call 19; (with_reducible refine (Ca3.out _).mono ?_); rintro e w6 ⟨rfl, hb⟩; have HS := Lib.hid (HS.out.next hb); clear hb)
          | (go_at_call 20; (with_reducible refine (Cb12.out _).mono ?_); rintro e w6 ⟨rfl, hb⟩; have HS := Lib.hid (HS.out.next hb); clear hb)
          | (go_at_call 19; (with_reducible refine (Ca4.out _).mono ?_); rintro e w6 ⟨rfl, hb⟩; have HS := Lib.hid (HS.out.next hb); clear hb)
          | (go_at_call 19; (with_reducible refine (CN.out _).mono ?_); rintro e w6 ⟨rfl, hb⟩; have HS := Lib.hid (HS.out.next hb); clear hb)
          | (go_at_call 19; (with_reducible refine (CM2.out _).mono ?_); rintro e w6 ⟨rfl, hb⟩; have HS := Lib.hid (HS.out.next hb); clear hb)
          | (go_at_call 19; (with_reducible refine (CP2.out _).mono ?_); rintro e w6 ⟨rfl, hb⟩; have HS := Lib.hid (HS.out.next hb); clear hb)
          | (go_at_call 19; (with_reducible refine (CK.out _).mono ?_); rintro e w6 ⟨rfl, hb⟩; have HS := Lib.hid (HS.out.next hb); clear hb)
          | (go_at_call 19; (with_reducible refine (CR.out _).mono ?_); rintro e w6 ⟨rfl, hb⟩; have HS := Lib.hid (HS.out.next hb); clear hb))
        rw [HDH.out]
        have HDs := HD0.out.2
        have HDHs := HHs.out
        have l1 : ¬ 9223372036854775807 < DH.size + T1.size := by omega
        have l2 : ¬ 9223372036854775807 < DH.size + T1.size + Da0.size := by omega
        have l3 : ¬ 9223372036854775807 < DH.size + T1.size + Da0.size + T2.size := by omega
        have l4 : ¬ 9223372036854775807 < DH.size + T1.size + Da0.size + T2.size + T3.size := by omega
        have l5 : ¬ 9223372036854775807 < DH.size + T1.size + Da0.size + T2.size + T3.size + T4.size := by omega
        have HQ := Lib.hid (show (DH ++ T1 ++ Da0 ++ T2 ++ T3 ++ T4).data.toList = rowB 3 1 ++ (byt 2 4 ++ byt 2 (16 + 8 * k) ++ byt 2 0 ++ cntB k) ++ tosB S ++ byt 2 0 ++ frsB S ++ dlsB S ++ zerB k by
          have hT : S.take k = S := by rw [← HSl.out, List.take_length]
          simp only [app_list, HHd.out, HC.out.t1, HC.out.t2, HC.out.t3, HC.out.t4, HD0.out.1, hT, List.append_assoc])
        clear z1 z2 z3 z4 HDs HDHs
        go_wp2_with ((go_at_call 19; (with_reducible refine (Ca0.out _).mono ?_); rintro e w6 ⟨rfl, hb⟩; have HS := Lib.hid (HS.out.next hb); clear hb))
        go_ret2
        exact HF.out _ _ HQ.out HS.out.bel
  · have h0 : 0 < mL := h0
    obtain ⟨q, hq⟩ : ∃ q, mL = q + 1 := ⟨mL - 1, by omega⟩
    have hx : cd L q ≤ 65534 := by rcases hx with hx | hx; (· omega); rw [hmL, show L.length - 1 = q by omega] at *; exact hx
    have e0 : IntKind.i64.wrap ((mL : Int) - 1) = (q : Int) := by have := HP.out.len; rw [i64_in _ (by omega)]; omega
    obtain ⟨x, hxx⟩ : ∃ x, x = cd L q := ⟨_, rfl⟩
    have HXX := Lib.hid hxx
    rw [← hxx] at hx
    have hqm : q < mL := by omega
    have HCQ := Lib.hid (show ∀ W, Pl W A mL L → ∃ a, A = some a ∧ W.cell? (a.add (q * 2)) = some (.int .i64 x) from fun W h => by
      obtain ⟨a, h1, h2, _⟩ := h.at_ (Below.refl _ _) hqm
      exact ⟨a, h1, by rw [HXX.out]; exact h2⟩)
    obtain ⟨a, hA, cq⟩ := HCQ.out w HP.out
    subst hA
    clear hP hmL hxx hq
    go_enter Try.func7, Try.ntmps7
    go_upto_region 11 with (first
      | (go_at_call 9; (with_reducible refine (CM.out _ HP.out).mono ?_); rintro e w1 ⟨rfl, hb⟩; have HB1 := Lib.hid hb; obtain ⟨a', hA', cq1⟩ := HCQ.out _ (HP.out.bel hb); injection hA' with hA'; subst hA'; clear hb)
      | (go_at_call 18; (with_reducible refine (CG.out _ (HP.out.bel HB1.out)).mono ?_); rintro e w2 ⟨A', c', rfl, ho, hb⟩; have HB2 := Lib.hid (HB1.out.trans (hb.mono HB1.out.size)); have HO := Lib.hid (And.intro ho (And.intro hb.size HB1.out.size)); clear hb ho))
    clear cq cq1
    obtain ⟨B1, hB1⟩ : ∃ B, B = w1.heap.size := ⟨_, rfl⟩
    rw [← hB1] at HO
    rw [← HmR.out] at HO ⊢
    clear hB1
    go_upto_region 12 with (at_builtin; go_must (refine wpList_append_own _ rfl (.tmp 97) (.tmp 99) 46 rfl B1 50 i50 _ 3 24 Try.underlying46 H50.out.1 H50.out.2.1 H50.out.2.2.1 H50.out.2.2.2 rfl (by decide) (.slice A' m c') m (runC R) rfl (HO.out.1.alloc _) ⟨w2.heap.size, 0, none⟩ 1 1 [.int .i64 65535, .int .i64 65535, .int .i64 65536] rfl rfl (cells_new _ _ _) (by intro u hu; simp at hu; rcases hu with rfl | rfl <;> rfl) (by unfold maxLen; omega) (by omega) (by have := HO.out.2.1; simp; omega) ?_); intro v' w5 hown' hg' _)
    have hB5 : Below B1 w2 w5 := ((Below.refl B1 w2).alloc HO.out.2.1 (.cells #[.int .i64 65535, .int .i64 65535, .int .i64 65536] 50)).grown hg' (by have := HO.out.2.1; simp; omega) (fun k hk => (HO.out.1.lt k hk).1)
    obtain ⟨A2, c2, rfl⟩ := own_form hown'
    rw [HRS.out, HML.out] at hown'
    rw [HML.out]
    have HG := Lib.hid (show GrS w w5 A2 M S from ⟨HB2.out.trans (hB5.mono HO.out.2.2), own_rl hown' HSl.out⟩)
    clear hown' hg' hB5 HO
    go_wp2_with (go_at_call 21; (with_reducible refine (CP.out _).mono ?_); rintro e w' ⟨rfl, rfl⟩)
    go_loopw [12, 13, 14, 15, 16] (fun v1 v2 v3 v4 i wr => ∃ (k : Nat) (T1 T2 T3 T4 : ByteArray), i = .int .i64 (k : Int) ∧ k ≤ M ∧ v1 = .string T1 ∧ v2 = .string T2 ∧ v3 = .string T3 ∧ v4 = .string T4 ∧ Cat S k T1 T2 T3 T4 ∧ GrS w wr A2 M S) (fun _ _ _ _ i _ => M - (intOf i).toNat)
    case atStart => exact ⟨0, ⟨#[]⟩, ⟨#[]⟩, ⟨#[]⟩, ⟨#[]⟩, rfl, Nat.zero_le _, rfl, rfl, rfl, rfl, ⟨rfl, rfl, rfl, rfl⟩, HG.out⟩
    case round =>
      obtain ⟨k, T1, T2, T3, T4, rfl, hk, rfl, rfl, rfl, rfl, hC, hS⟩ := hrel
      have HS := Lib.hid hS
      have HC := Lib.hid hC
      obtain ⟨z1, z2, z3, z4⟩ := hC.sizes (by rw [HSl.out]; exact hk)
      by_cases hgo : k < M
      · obtain ⟨a, rfl, c0, c1, c2⟩ := hS.il.at_ (Below.refl _ _) hgo
        obtain ⟨x, y, z, n, hx, hy, hz, bx, by', bn, e1, e2, t1, t2, t3⟩ := HX.out k hgo
        rw [hx] at c0
        rw [hy] at c1
        rw [hz] at c2
        have HC3 := Lib.hid (fun W (h : GrS w W (some a) M S) => h.three hgo hx hy hz)
        obtain ⟨E1, s1, hE1, hc1⟩ := rp16_txt y by'
        obtain ⟨E2, s2, hE2, hc2⟩ := rp16_txt x bx
        obtain ⟨E3, s3, hE3, hc3⟩ := rp16_mod n bn
        have C1 := Lib.hid hc1
        have C2 := Lib.hid hc2
        have C3 := Lib.hid hc3
        have HDs := HD0.out.2
        have l1 : ¬ 9223372036854775807 < T1.size + E1.size := by omega
        have l2 : ¬ 9223372036854775807 < T2.size + E2.size := by omega
        have l3 : ¬ 9223372036854775807 < T3.size + E3.size := by omega
        have l4 : ¬ 9223372036854775807 < T4.size + Da0.size := by omega
        have HN2 := Lib.hid (show Cat S (k + 1) (T1 ++ E1) (T2 ++ E2) (T3 ++ E3) (T4 ++ Da0) from ⟨by rw [app_list, hC.t1, hE1, t1], by rw [app_list, hC.t2, hE2, t2], by rw [app_list, hC.t3, hE3, t3], by rw [app_list, hC.t4, HD0.out.1, zerB_succ]⟩)
        clear hS hC hx hy hz hE1 hE2 hE3 hc1 hc2 hc3 s1 s2 s3 bx by' bn t1 t2 t3 z1 z2 z3 z4 HDs
        go_upto_region 22 with (go_at_call 19; (with_reducible refine (C1.out _).mono ?_); rintro e w6 ⟨rfl, hb⟩; have HS := Lib.hid (HS.out.next hb); clear hb)
        clear c0 c1 c2
        obtain ⟨c0, c1, c2⟩ := HC3.out _ HS.out
        go_upto_region 23 with (go_at_call 19; (with_reducible refine (C2.out _).mono ?_); rintro e w7 ⟨rfl, hb⟩; have HS := Lib.hid (HS.out.next hb); clear hb)
        clear c0 c1 c2
        obtain ⟨c0, c1, c2⟩ := HC3.out _ HS.out
        go_region_held3 (fun w' => w'.cell? (a.add (k * 3)) = some (.int .i64 (x : Int)) ∧ w'.cell? { block := (a.add (k * 3)).block, off := (a.add (k * 3)).off + 1 } = some (.int .i64 (y : Int)) ∧ w'.cell? { block := (a.add (k * 3)).block, off := (a.add (k * 3)).off + 2 } = some (.int .i64 (z : Int)))
          (first | with_reducible exact HC3.out _ HS.out | go_keep)
          (first
            | (go_at_call 19; (with_reducible refine (C3.out _).mono ?_); rintro e w6 ⟨rfl, hb⟩; (first | have HS := Lib.hid (HS.out.next hb) | have HS := Lib.hid (HS.out.drew.next hb)); clear hb))
        clear c0 c1 c2
        go_wp2_with ((go_at_call 19; (with_reducible refine (Ca0.out _).mono ?_); rintro e w6 ⟨rfl, hb⟩; have HS := Lib.hid (HS.out.next hb); clear hb))
        exact ⟨⟨k + 1, _, _, _, _, by simp, by omega, rfl, rfl, rfl, rfl, HN2.out, HS.out⟩, by simp [intOf]; omega⟩
      · obtain rfl : k = M := by omega
        have HZ := Lib.hid (And.intro z1 (And.intro z2 (And.intro z3 z4)))
        clear hS hC
        go_upto_region 26 with (first
          | (go_at_call 19; (with_reducible refine (Ca0.out _).mono ?_); rintro e w6 ⟨rfl, hb⟩; have HS := Lib.hid (HS.out.next hb); clear hb)
          | (go_at_call 19; (with_reducible refine (Ca1.out _).mono ?_); rintro e w6 ⟨rfl, hb⟩; have HS := Lib.hid (HS.out.next hb); clear hb)
          | (go_at_call 19; (with_reducible refine (Ca3.out _).mono ?_); rintro e w6 ⟨rfl, hb⟩; have HS := Lib.hid (HS.out.next hb); clear hb)
          | (go_at_call 20; (with_reducible refine (Cb12.out _).mono ?_); rintro e w6 ⟨rfl, hb⟩; have HS := Lib.hid (HS.out.next hb); clear hb)
          | (go_at_call 19; (with_reducible refine (Ca4.out _).mono ?_); rintro e w6 ⟨rfl, hb⟩; have HS := Lib.hid (HS.out.next hb); clear hb)
          | (go_at_call 19; (with_reducible refine (CN.out _).mono ?_); rintro e w6 ⟨rfl, hb⟩; have HS := Lib.hid (HS.out.next hb); clear hb)
          | (go_at_call 19; (with_reducible refine (CM2.out _).mono ?_); rintro e w6 ⟨rfl, hb⟩; have HS := Lib.hid (HS.out.next hb); clear hb)
          | (go_at_call 19; (with_reducible refine (CP2.out _).mono ?_); rintro e w6 ⟨rfl, hb⟩; have HS := Lib.hid (HS.out.next hb); clear hb)
          | (go_at_call 19; (with_reducible refine (CK.out _).mono ?_); rintro e w6 ⟨rfl, hb⟩; have HS := Lib.hid (HS.out.next hb); clear hb)
          | (go_at_call 19; (with_reducible refine (CR.out _).mono ?_); rintro e w6 ⟨rfl, hb⟩; have HS := Lib.hid (HS.out.next hb); clear hb))
        rw [HDH.out]
        have HDs := HD0.out.2
        have HDHs := HHs.out
        have l1 : ¬ 9223372036854775807 < DH.size + T1.size := by omega
        have l2 : ¬ 9223372036854775807 < DH.size + T1.size + Da0.size := by omega
        have l3 : ¬ 9223372036854775807 < DH.size + T1.size + Da0.size + T2.size := by omega
        have l4 : ¬ 9223372036854775807 < DH.size + T1.size + Da0.size + T2.size + T3.size := by omega
        have l5 : ¬ 9223372036854775807 < DH.size + T1.size + Da0.size + T2.size + T3.size + T4.size := by omega
        have HQ := Lib.hid (show (DH ++ T1 ++ Da0 ++ T2 ++ T3 ++ T4).data.toList = rowB 3 1 ++ (byt 2 4 ++ byt 2 (16 + 8 * k) ++ byt 2 0 ++ cntB k) ++ tosB S ++ byt 2 0 ++ frsB S ++ dlsB S ++ zerB k by
          have hT : S.take k = S := by rw [← HSl.out, List.take_length]
          simp only [app_list, HHd.out, HC.out.t1, HC.out.t2, HC.out.t3, HC.out.t4, HD0.out.1, hT, List.append_assoc])
        clear z1 z2 z3 z4 HDs HDHs
        go_wp2_with ((go_at_call 19; (with_reducible refine (Ca0.out _).mono ?_); rintro e w6 ⟨rfl, hb⟩; have HS := Lib.hid (HS.out.next hb); clear hb))
        go_ret2
        exact HF.out _ _ HQ.out HS.out.bel
theorem rmake_any (A : Option Addr) (m c : Nat) (L : List (Int × Int)) (long : Bool) (w : World) (hP : Pl w A m L) : Calls Try.prog 7 #[.slice A m c, .bool long] w (StE (mkE L long) (mkS L long) w) := by
  have h := hP.len
  subst h
  by_cases hM : MayP L 1024
  · cases long
    · by_cases hx : L.length = 0 ∨ cd L (L.length - 1) ≤ 65534
      · exact rmake_short A c L w hP hM hx
      · exact rmake_far A c L w hP hM (by omega) (by omega)
    · exact rmake_long A c L w hP hM
  · exact rmake_bad A c long L w hP hM
end Go.Proofs.Ytbmpdpajnmjfpaa
