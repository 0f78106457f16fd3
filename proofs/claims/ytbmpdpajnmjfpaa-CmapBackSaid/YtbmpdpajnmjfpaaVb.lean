/- Proved here: what openShort answers. Condition: a text of at most a billion bytes. -/
import Derived.Test.YtbmpdpajnmjfpaaVa
namespace Go.Proofs.Ytbmpdpajnmjfpaa
open Go.RowKit

theorem str_eq (x y : List UInt8) : ((⟨x.toArray⟩ : ByteArray).toList == (⟨y.toArray⟩ : ByteArray).toList) = (x == y) := by
  rw [ByteArray.toList_eq, ByteArray.toList_eq]
theorem cut_in (s : ByteArray) (a n : Nat) (w : World) (hs : s.size ≤ 1000000000) (h : a + n ≤ s.size) : Calls Try.prog 56 #[.string s, .int .i64 (a : Int), .int .i64 (n : Int)] w fun e w' => e = .returned (.tuple #[.string ⟨(piece s.data.toList a n).toArray⟩, .int .i64 0]) ∧ Below w.heap.size w w' := by
  have h1 := cut_any s (a : Int) (n : Int) w hs (by omega)
  have h2 := cutL_in (l := s.data.toList) (a := a) (n := n) (by rw [size_list]; exact h)
  rw [h2.1, h2.2] at h1
  exact h1
theorem cut_out (s : ByteArray) (a n : Nat) (w : World) (hs : s.size ≤ 1000000000) (ha : a < 5000000000) (h : s.size < a + n) : Calls Try.prog 56 #[.string s, .int .i64 (a : Int), .int .i64 (n : Int)] w fun e w' => e = .returned (.tuple #[.string ⟨#[]⟩, .int .i64 3]) ∧ Below w.heap.size w w' := by
  have h1 := cut_any s (a : Int) (n : Int) w hs (by omega)
  have h2 : ¬ Has s.data.toList.length (a : Int) (n : Int) := by rw [size_list]; rintro ⟨_, _, h3⟩; omega
  unfold cutL cutE at h1
  rw [if_neg h2, if_neg h2] at h1
  exact h1
/-- What openShort answers. -/
def OsP (s : ByteArray) (a : Nat) (w : World) (e : Ending) (w' : World) : Prop :=
  Below w.heap.size w w' ∧ (shortE s.data.toList a ≠ 0 → e = .returned (.tuple #[.string ⟨#[]⟩, .int .i64 0, .int .i64 (shortE s.data.toList a)])) ∧
    (shortE s.data.toList a = 0 → e = .returned (.tuple #[.string ⟨(prt s.data.toList a).toArray⟩, .int .i64 (nSeg s.data.toList a : Int), .int .i64 0]))
set_option maxHeartbeats 8000000 in
set_option maxRecDepth 100000 in
theorem openShort_any (s : ByteArray) (a : Nat) (w : World) (hs : s.size ≤ 1000000000) (ha : a < 4294967296) : Calls Try.prog 44 #[.string s, .int .i64 (a : Int)] w (OsP s a w) := by
  have HN := Lib.hid (new_any s w)
  have HS := Lib.hid hs
  obtain ⟨g, hg⟩ : ∃ g, g = w.heap.size := ⟨_, rfl⟩
  have HG := Lib.hid (show w.heap.size ≤ g by omega)
  have HL := Lib.hid (show shortE s.data.toList a = if s.size < a + 14 then 3 else if n2 s.data.toList a = 4 ∧ n2 s.data.toList (a + 2) % 2 = 0 ∧ mayD (n2 s.data.toList (a + 6)) ∧ piece s.data.toList (a + 6) 8 = cntB (n2 s.data.toList (a + 6) / 2) ∧ 16 + 8 * (n2 s.data.toList (a + 6) / 2) ≤ n2 s.data.toList (a + 2) then (if s.size < a + n2 s.data.toList (a + 2) then 3 else 0) else 4 by unfold shortE; rw [size_list])
  have HP := Lib.hid (show ∀ (x : Int) w', shortE s.data.toList a = x → x ≠ 0 → Below w.heap.size w w' → OsP s a w (.returned (.tuple #[.string ⟨#[]⟩, .int .i64 0, .int .i64 x])) w' from fun x w' h1 h2 h3 => ⟨h3, fun _ => by rw [h1], fun h => absurd (h1.symm.trans h) h2⟩)
  rw [← hg] at HN
  clear hg hs
  go_enter Try.func44, Try.ntmps44
  go_upto_region 8 with (first
    | (go_at_call 36; (with_reducible refine HN.out.mono ?_); rintro e w1 ⟨rfl, hb, hr, _⟩; have H1 := Lib.hid (show RdS w w1 g s 0 false from ⟨hb.mono HG.out, HG.out, hr, Nat.zero_le _⟩); clear hb hr)
    | (go_at_call 55; (with_reducible refine (rdskip_any _ _ _ _ a _ H1.out.rd HS.out H1.out.le).mono ?_); rintro e w2 ⟨a1, f1, rfl, hn1, hr, ho⟩; have H2 := Lib.hid (H1.out.read hn1 hr ho); have N1 := Lib.hid hn1; clear hr ho hn1)
    | (go_at_call 37; (with_reducible refine (rd16_any _ _ _ _ _ H2.out.rd HS.out H2.out.le).mono ?_); rintro e w3 ⟨v2, a2, f2, rfl, hv2, hn2, hq2, hr, ho⟩; have H3 := Lib.hid (H2.out.read hn2 hr ho); have N2 := Lib.hid (And.intro hn2 hq2); clear hr ho hn2 hq2)
    | (go_at_call 37; (with_reducible refine (rd16_any _ _ _ _ _ H3.out.rd HS.out H3.out.le).mono ?_); rintro e w4 ⟨v3, a3, f3, rfl, hv3, hn3, hq3, hr, ho⟩; have H4 := Lib.hid (H3.out.read hn3 hr ho); have N3 := Lib.hid (And.intro hn3 hq3); clear hr ho hn3 hq3)
    | (go_at_call 55; (with_reducible refine (rdskip2 _ _ _ _ _ H4.out.rd HS.out H4.out.le).mono ?_); rintro e w5 ⟨a4, f4, rfl, hn4, hr, ho⟩; have H5 := Lib.hid (H4.out.read hn4 hr ho); have N4 := Lib.hid hn4; clear hr ho hn4)
    | (go_at_call 37; (with_reducible refine (rd16_any _ _ _ _ _ H5.out.rd HS.out H5.out.le).mono ?_); rintro e w6 ⟨v5, a5, f5, rfl, hv5, hn5, hq5, hr, ho⟩; have H6 := Lib.hid (H5.out.read hn5 hr ho); have N5 := Lib.hid (And.intro hn5 hq5); clear hr ho hn5 hq5)
    | (go_at_call 55; (with_reducible refine (rdskip6 _ _ _ _ _ H6.out.rd HS.out H6.out.le).mono ?_); rintro e w7 ⟨a6, f6, rfl, hn6, hr, ho⟩; have H7 := Lib.hid (H6.out.read hn6 hr ho); have N6 := Lib.hid hn6; clear hr ho hn6))
  have CE := Lib.hid (err_any g s a6 f6 w7 H7.out.rd)
  cases f6
  · obtain ⟨hf5, h6, ha6⟩ := N6.out.yes rfl
    obtain ⟨hf4, h5, ha5⟩ := N5.out.1.yes hf5
    obtain ⟨hf3, h4, ha4⟩ := N4.out.yes hf4
    obtain ⟨hf2, h3, ha3⟩ := N3.out.1.yes hf3
    obtain ⟨hf1, h2, ha2⟩ := N2.out.1.yes hf2
    obtain ⟨_, h1, ha1⟩ := N1.out.yes hf1
    have q2 := N2.out.2 hf2
    have q3 := N3.out.2 hf3
    have q5 := N5.out.2 hf5
    have e14 : a6 = a + 14 := by omega
    rw [show a1 = a by omega] at q2
    rw [show a2 = a + 2 by omega] at q3
    rw [show a4 = a + 6 by omega] at q5
    have h14 : a + 14 ≤ s.size := by omega
    rw [if_neg (by omega), ← q2, ← q3, ← q5] at HL
    obtain ⟨n, hn⟩ : ∃ n, n = v5 / 2 := ⟨_, rfl⟩
    rw [← hn] at HL
    have HNS := Lib.hid (show nSeg s.data.toList a = n ∧ prt s.data.toList a = piece s.data.toList a v3 from ⟨by unfold nSeg; rw [← q5, hn], by unfold prt; rw [← q3]⟩)
    obtain ⟨TL, hTL⟩ : ∃ l, l = piece s.data.toList (a + 6) 8 := ⟨_, rfl⟩
    rw [← hTL] at HL
    obtain ⟨T, hT⟩ : ∃ D : ByteArray, D = ⟨TL.toArray⟩ := ⟨_, rfl⟩
    have CT := Lib.hid (show ∀ W, Calls Try.prog 56 #[.string s, .int .i64 ((a : Int) + 6), .int .i64 8] W fun e w' => e = .returned (.tuple #[.string T, .int .i64 0]) ∧ Below W.heap.size W w' from fun W => by rw [hT, hTL]; exact cut_in s (a + 6) 8 W HS.out (by omega))
    have e1 : IntKind.i64.wrap ((a : Int) + 6) = (a : Int) + 6 := i64_in _ (by omega)
    have e2 : IntKind.i64.wrap (v3 : Int) = (v3 : Int) := i64_in _ (by omega)
    have e3 : IntKind.i64.wrap (v5 : Int) = (v5 : Int) := i64_in _ (by omega)
    have e4 : (v5 : Int).tdiv 2 = (n : Int) := by rw [Int.tdiv_eq_ediv_of_nonneg (by omega)]; omega
    have e5 : (v5 : Int) / 2 = (n : Int) := by omega
    have e6 : IntKind.i64.wrap (n : Int) = (n : Int) := i64_in _ (by omega)
    have hn64 : n < 65536 := by omega
    have HT := Lib.hid hT
    clear hT hf5 h6 ha6 hf4 h5 ha5 hf3 h4 ha4 hf2 h3 ha3 hf1 h2 ha2 h1 ha1 q2 q3 q5 e14 N1 N2 N3 N4 N5 N6 hTL
    go_upto_region 11 with (first
      | (go_at_call 38; (with_reducible refine CE.out.mono ?_); rintro e w' ⟨rfl, rfl⟩)
      | (go_at_call 56; (with_reducible refine (CT.out _).mono ?_); rintro e w8 ⟨rfl, hb⟩; have H8 := Lib.hid (H7.out.bel.trans (hb.mono H7.out.bel.size)); clear hb))
    go_upto_region 12 with fail
    have CD := Lib.hid (fun W => mayDouble_any v5 W hv5)
    by_cases hform : v2 = 4
    · have g1 : ((v2 : Int) != 4) = false := by simp; omega
      obtain ⟨q, hq⟩ : ∃ q, q = v3 % 2 := ⟨_, rfl⟩
      have e7 : (v3 : Int).tmod 2 = (q : Int) := by rw [Int.tmod_eq_emod_of_nonneg (by omega)]; omega
      by_cases hodd : q = 0
      · have g2 : ((q : Int) != 0) = false := by simp; omega
        by_cases hmd : mayD v5
        · rw [decide_eq_true hmd] at CD
          have hn0 : 0 < n ∧ n ≤ 8192 := by unfold mayD at hmd; omega
          obtain ⟨C, hC⟩ : ∃ D : ByteArray, D = ⟨(cntB n).toArray⟩ := ⟨_, rfl⟩
          have CC := Lib.hid (show ∀ W, Calls Try.prog 34 #[.int .i64 (n : Int)] W fun e w' => e = .returned (.string C) ∧ Below W.heap.size W w' from fun W => by rw [hC]; exact counts_any n W hn0.1 hn0.2)
          have hTC : (T.toList == C.toList) = (TL == cntB n) := by rw [HT.out, hC]; exact str_eq _ _
          by_cases htold : TL = cntB n
          · have g3 : (T.toList == C.toList) = true := by rw [hTC, htold]; simp
            have e8 : IntKind.i64.wrap (8 * (n : Int)) = 8 * (n : Int) := i64_in _ (by omega)
            have e9 : IntKind.i64.wrap (16 + 8 * (n : Int)) = 16 + 8 * (n : Int) := i64_in _ (by omega)
            by_cases hlong : 16 + 8 * n ≤ v3
            · have g4 : ¬ (v3 : Int) < 16 + 8 * (n : Int) := by omega
              rw [if_pos ⟨hform, by omega, hmd, htold, hlong⟩] at HL
              by_cases hsh : s.size < a + v3
              · rw [if_pos hsh] at HL
                have CQ := Lib.hid (fun W => cut_out s a v3 W HS.out (by omega) hsh)
                have HQ := Lib.hid (fun w' => HP.out 3 w' HL.out (by decide))
                (try clear hform); (try clear hodd); (try clear hmd); (try clear htold); (try clear hlong); (try clear hsh); (try clear hq); (try clear hn0); (try clear hTC); (try clear hC); (try clear hn)
                go_wp2_with (first
                  | (go_at_call 57; (with_reducible refine (CD.out _).mono ?_); rintro e w' ⟨rfl, rfl⟩)
                  | (go_at_call 34; (with_reducible refine (CC.out _).mono ?_); rintro e w9 ⟨rfl, hb⟩; have H9 := Lib.hid (H8.out.trans (hb.mono H8.out.size)); clear hb)
                  | (go_at_call 56; (with_reducible refine (CQ.out _).mono ?_); rintro e w10 ⟨rfl, hb⟩; have H10 := Lib.hid (H9.out.trans (hb.mono H9.out.size)); clear hb))
                go_ret3
                exact HQ.out _ H10.out
              · rw [if_neg hsh] at HL
                obtain ⟨PD, hPD⟩ : ∃ D : ByteArray, D = ⟨(piece s.data.toList a v3).toArray⟩ := ⟨_, rfl⟩
                have CQ := Lib.hid (show ∀ W, Calls Try.prog 56 #[.string s, .int .i64 (a : Int), .int .i64 (v3 : Int)] W fun e w' => e = .returned (.tuple #[.string PD, .int .i64 0]) ∧ Below W.heap.size W w' from fun W => by rw [hPD]; exact cut_in s a v3 W HS.out (by omega))
                have HQ := Lib.hid (show ∀ w', Below w.heap.size w w' → OsP s a w (.returned (.tuple #[.string PD, .int .i64 (n : Int), .int .i64 0])) w' from fun w' h => ⟨h, fun h2 => absurd HL.out h2, fun _ => by rw [HNS.out.1, HNS.out.2, hPD]⟩)
                clear hPD
                (try clear hform); (try clear hodd); (try clear hmd); (try clear htold); (try clear hlong); (try clear hsh); (try clear hq); (try clear hn0); (try clear hTC); (try clear hC); (try clear hn)
                go_wp2_with (first
                  | (go_at_call 57; (with_reducible refine (CD.out _).mono ?_); rintro e w' ⟨rfl, rfl⟩)
                  | (go_at_call 34; (with_reducible refine (CC.out _).mono ?_); rintro e w9 ⟨rfl, hb⟩; have H9 := Lib.hid (H8.out.trans (hb.mono H8.out.size)); clear hb)
                  | (go_at_call 56; (with_reducible refine (CQ.out _).mono ?_); rintro e w10 ⟨rfl, hb⟩; have H10 := Lib.hid (H9.out.trans (hb.mono H9.out.size)); clear hb))
                go_ret3
                exact HQ.out _ H10.out
            · have g4 : (v3 : Int) < 16 + 8 * (n : Int) := by omega
              rw [if_neg (fun h => hlong h.2.2.2.2)] at HL
              have HQ := Lib.hid (fun w' => HP.out 4 w' HL.out (by decide))
              (try clear hform); (try clear hodd); (try clear hmd); (try clear htold); (try clear hlong); (try clear hsh); (try clear hq); (try clear hn0); (try clear hTC); (try clear hC); (try clear hn)
              go_wp2_with (first
                | (go_at_call 57; (with_reducible refine (CD.out _).mono ?_); rintro e w' ⟨rfl, rfl⟩)
                | (go_at_call 34; (with_reducible refine (CC.out _).mono ?_); rintro e w9 ⟨rfl, hb⟩; have H9 := Lib.hid (H8.out.trans (hb.mono H8.out.size)); clear hb))
              go_ret3
              exact HQ.out _ H9.out
          · have g3 : (T.toList == C.toList) = false := by rw [hTC]; simp [htold]
            rw [if_neg (fun h => htold h.2.2.2.1)] at HL
            have HQ := Lib.hid (fun w' => HP.out 4 w' HL.out (by decide))
            (try clear hform); (try clear hodd); (try clear hmd); (try clear htold); (try clear hlong); (try clear hsh); (try clear hq); (try clear hn0); (try clear hTC); (try clear hC); (try clear hn)
            go_wp2_with (first
              | (go_at_call 57; (with_reducible refine (CD.out _).mono ?_); rintro e w' ⟨rfl, rfl⟩)
              | (go_at_call 34; (with_reducible refine (CC.out _).mono ?_); rintro e w9 ⟨rfl, hb⟩; have H9 := Lib.hid (H8.out.trans (hb.mono H8.out.size)); clear hb))
            go_ret3
            exact HQ.out _ H9.out
        · rw [decide_eq_false hmd] at CD
          rw [if_neg (fun h => hmd h.2.2.1)] at HL
          have HQ := Lib.hid (fun w' => HP.out 4 w' HL.out (by decide))
          (try clear hform); (try clear hodd); (try clear hmd); (try clear htold); (try clear hlong); (try clear hsh); (try clear hq); (try clear hn0); (try clear hTC); (try clear hC); (try clear hn)
          go_wp2_with (go_at_call 57; (with_reducible refine (CD.out _).mono ?_); rintro e w' ⟨rfl, rfl⟩)
          go_ret3
          exact HQ.out _ H8.out
      · have g2 : ((q : Int) != 0) = true := by simp; omega
        rw [if_neg (fun h => hodd (by rw [hq]; exact h.2.1))] at HL
        have HQ := Lib.hid (fun w' => HP.out 4 w' HL.out (by decide))
        (try clear hform); (try clear hodd); (try clear hmd); (try clear htold); (try clear hlong); (try clear hsh); (try clear hq); (try clear hn0); (try clear hTC); (try clear hC); (try clear hn)
        go_wp2_with fail
        go_ret3
        exact HQ.out _ H8.out
    · have g1 : ((v2 : Int) != 4) = true := by simp; omega
      rw [if_neg (fun h => hform h.1)] at HL
      have HQ := Lib.hid (fun w' => HP.out 4 w' HL.out (by decide))
      (try clear hform); (try clear hodd); (try clear hmd); (try clear htold); (try clear hlong); (try clear hsh); (try clear hq); (try clear hn0); (try clear hTC); (try clear hC); (try clear hn)
      go_wp2_with fail
      go_ret3
      exact HQ.out _ H8.out
  · have hshort : s.size < a + 14 := by
      have := ((((((AtS.start s.size).step N1.out).step N2.out.1).step N3.out.1).step N4.out).step N5.out.1).step N6.out |>.no rfl
      omega
    rw [if_pos hshort] at HL
    have HQ := Lib.hid (fun w' => HP.out 3 w' HL.out (by decide))
    clear hshort N1 N2 N3 N4 N5 N6
    go_wp2_with (go_at_call 38; (with_reducible refine CE.out.mono ?_); rintro e w' ⟨rfl, rfl⟩)
    go_ret3
    exact HQ.out _ H7.out.bel
end Go.Proofs.Ytbmpdpajnmjfpaa
