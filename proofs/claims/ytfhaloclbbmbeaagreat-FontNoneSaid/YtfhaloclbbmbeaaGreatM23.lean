/- Proved here: what openShort answers. Condition: a text of at most a billion bytes · what readSegment and glyph answer. Condition: a text of at most a billion bytes that has the segment's numbers. -/
import Derived.Test.YtfhaloclbbmbeaaGreatM22
namespace Go.Proofs.YtfhaloclbbmbeaaGreat
open Go.RowKit
theorem cut_in (s : ByteArray) (a n : Nat) (w : World) (hs : s.size ≤ 1000000000) (h : a + n ≤ s.size) : Calls Tryz.prog 132 #[.string s, .int .i64 (a : Int), .int .i64 (n : Int)] w fun e w' => e = .returned (.tuple #[.string ⟨(piece s.data.toList a n).toArray⟩, .int .i64 0]) ∧ Below w.heap.size w w' := by
  have h1 := cut_any s (a : Int) (n : Int) w hs (by omega)
  have h2 := cutL_in (l := s.data.toList) (a := a) (n := n) (by rw [size_list]; exact h)
  rw [h2.1, h2.2] at h1
  exact h1
theorem cut_out (s : ByteArray) (a n : Nat) (w : World) (hs : s.size ≤ 1000000000) (ha : a < 5000000000) (h : s.size < a + n) : Calls Tryz.prog 132 #[.string s, .int .i64 (a : Int), .int .i64 (n : Int)] w fun e w' => e = .returned (.tuple #[.string ⟨#[]⟩, .int .i64 3]) ∧ Below w.heap.size w w' := by
  have h1 := cut_any s (a : Int) (n : Int) w hs (by omega)
  have h2 : ¬ Has s.data.toList.length (a : Int) (n : Int) := by rw [size_list]; rintro ⟨_, _, h3⟩; omega
  unfold cutL cutE at h1
  rw [if_neg h2, if_neg h2] at h1
  exact h1
def OsP (s : ByteArray) (a : Nat) (w : World) (e : Ending) (w' : World) : Prop :=
  Below w.heap.size w w' ∧ (shortE s.data.toList a ≠ 0 → e = .returned (.tuple #[.string ⟨#[]⟩, .int .i64 0, .int .i64 (shortE s.data.toList a)])) ∧
    (shortE s.data.toList a = 0 → e = .returned (.tuple #[.string ⟨(prt s.data.toList a).toArray⟩, .int .i64 (nSeg s.data.toList a : Int), .int .i64 0]))
namespace N12
set_option maxHeartbeats 8000000 in
set_option maxRecDepth 100000 in
theorem openShort_any (s : ByteArray) (a : Nat) (w : World) (hs : s.size ≤ 1000000000) (ha : a < 4294967296) : Calls Tryz.prog 216 #[.string s, .int .i64 (a : Int)] w (OsP s a w) := by
  have HN := Lib.hid (new_any s w)
  have HS := Lib.hid hs
  obtain ⟨g, hg⟩ : ∃ g, g = w.heap.size := ⟨_, rfl⟩
  have HG := Lib.hid (show w.heap.size ≤ g by omega)
  have HL := Lib.hid (show shortE s.data.toList a = if s.size < a + 14 then 3 else if n2 s.data.toList a = 4 ∧ n2 s.data.toList (a + 2) % 2 = 0 ∧ mayD (n2 s.data.toList (a + 6)) ∧ piece s.data.toList (a + 6) 8 = cntB (n2 s.data.toList (a + 6) / 2) ∧ 16 + 8 * (n2 s.data.toList (a + 6) / 2) ≤ n2 s.data.toList (a + 2) then (if s.size < a + n2 s.data.toList (a + 2) then 3 else 0) else 4 by unfold shortE; rw [size_list])
  have HP := Lib.hid (show ∀ (x : Int) w', shortE s.data.toList a = x → x ≠ 0 → Below w.heap.size w w' → OsP s a w (.returned (.tuple #[.string ⟨#[]⟩, .int .i64 0, .int .i64 x])) w' from fun x w' h1 h2 h3 => ⟨h3, fun _ => by rw [h1], fun h => absurd (h1.symm.trans h) h2⟩)
  rw [← hg] at HN
  clear hg hs
  go_enter Tryz.func216, Tryz.ntmps216
  go_upto_region 8 with (first
    | (go_at_call 133; (with_reducible refine HN.out.mono ?_); rintro e w1 ⟨rfl, hb, hr, _⟩; have H1 := Lib.hid (show RdS w w1 g s 0 false from ⟨hb.mono HG.out, HG.out, hr, Nat.zero_le _⟩); clear hb hr)
    | (go_at_call 134; (with_reducible refine (rdskip_any _ _ _ _ a _ H1.out.rd HS.out H1.out.le).mono ?_); rintro e w2 ⟨a1, f1, rfl, hn1, hr, ho⟩; have H2 := Lib.hid (H1.out.read hn1 hr ho); have N1 := Lib.hid hn1; clear hr ho hn1)
    | (go_at_call 210; (with_reducible refine (rd16_any _ _ _ _ _ H2.out.rd HS.out H2.out.le).mono ?_); rintro e w3 ⟨v2, a2, f2, rfl, hv2, hn2, hq2, hr, ho⟩; have H3 := Lib.hid (H2.out.read hn2 hr ho); have N2 := Lib.hid (And.intro hn2 hq2); clear hr ho hn2 hq2)
    | (go_at_call 210; (with_reducible refine (rd16_any _ _ _ _ _ H3.out.rd HS.out H3.out.le).mono ?_); rintro e w4 ⟨v3, a3, f3, rfl, hv3, hn3, hq3, hr, ho⟩; have H4 := Lib.hid (H3.out.read hn3 hr ho); have N3 := Lib.hid (And.intro hn3 hq3); clear hr ho hn3 hq3)
    | (go_at_call 134; (with_reducible refine (rdskip2 _ _ _ _ _ H4.out.rd HS.out H4.out.le).mono ?_); rintro e w5 ⟨a4, f4, rfl, hn4, hr, ho⟩; have H5 := Lib.hid (H4.out.read hn4 hr ho); have N4 := Lib.hid hn4; clear hr ho hn4)
    | (go_at_call 210; (with_reducible refine (rd16_any _ _ _ _ _ H5.out.rd HS.out H5.out.le).mono ?_); rintro e w6 ⟨v5, a5, f5, rfl, hv5, hn5, hq5, hr, ho⟩; have H6 := Lib.hid (H5.out.read hn5 hr ho); have N5 := Lib.hid (And.intro hn5 hq5); clear hr ho hn5 hq5)
    | (go_at_call 134; (with_reducible refine (rdskip6 _ _ _ _ _ H6.out.rd HS.out H6.out.le).mono ?_); rintro e w7 ⟨a6, f6, rfl, hn6, hr, ho⟩; have H7 := Lib.hid (H6.out.read hn6 hr ho); have N6 := Lib.hid hn6; clear hr ho hn6))
  have CE := Lib.hid (err_any g s a6 f6 w7 H7.out.rd)
  cases f6
  · obtain ⟨hf5, h6, ha6⟩ := N6.out.yes rfl
    obtain ⟨hf4, h5, ha5⟩ := N5.out.1.yes hf5
    obtain ⟨hf3, h4, ha4⟩ := N4.out.yes hf4
    obtain ⟨hf2, h3, ha3⟩ := N3.out.1.yes hf3
    obtain ⟨hf1, h2, ha2⟩ := N2.out.1.yes hf2
    obtain ⟨_, h1, ha1⟩ := N1.out.yes hf1
    have q2 := N2.out.2 hf2
    have q3 := N3.out.2 hf3
    have q5 := N5.out.2 hf5
    have e14 : a6 = a + 14 := by omega
    rw [show a1 = a by omega] at q2
    rw [show a2 = a + 2 by omega] at q3
    rw [show a4 = a + 6 by omega] at q5
    have h14 : a + 14 ≤ s.size := by omega
    rw [if_neg (by omega), ← q2, ← q3, ← q5] at HL
    obtain ⟨n, hn⟩ : ∃ n, n = v5 / 2 := ⟨_, rfl⟩
    rw [← hn] at HL
    have HNS := Lib.hid (show nSeg s.data.toList a = n ∧ prt s.data.toList a = piece s.data.toList a v3 from ⟨by unfold nSeg; rw [← q5, hn], by unfold prt; rw [← q3]⟩)
    obtain ⟨TL, hTL⟩ : ∃ l, l = piece s.data.toList (a + 6) 8 := ⟨_, rfl⟩
    rw [← hTL] at HL
    obtain ⟨T, hT⟩ : ∃ D : ByteArray, D = ⟨TL.toArray⟩ := ⟨_, rfl⟩
    have CT := Lib.hid (show ∀ W, Calls Tryz.prog 132 #[.string s, .int .i64 ((a : Int) + 6), .int .i64 8] W fun e w' => e = .returned (.tuple #[.string T, .int .i64 0]) ∧ Below W.heap.size W w' from fun W => by rw [hT, hTL]; exact cut_in s (a + 6) 8 W HS.out (by omega))
    have e1 : IntKind.i64.wrap ((a : Int) + 6) = (a : Int) + 6 := i64_in _ (by omega)
    have e2 : IntKind.i64.wrap (v3 : Int) = (v3 : Int) := i64_in _ (by omega)
    have e3 : IntKind.i64.wrap (v5 : Int) = (v5 : Int) := i64_in _ (by omega)
    have e4 : (v5 : Int).tdiv 2 = (n : Int) := by rw [Int.tdiv_eq_ediv_of_nonneg (by omega)]; omega
    have e5 : (v5 : Int) / 2 = (n : Int) := by omega
    have e6 : IntKind.i64.wrap (n : Int) = (n : Int) := i64_in _ (by omega)
    have hn64 : n < 65536 := by omega
    have HT := Lib.hid hT
    clear hT hf5 h6 ha6 hf4 h5 ha5 hf3 h4 ha4 hf2 h3 ha3 hf1 h2 ha2 h1 ha1 q2 q3 q5 e14 N1 N2 N3 N4 N5 N6 hTL
    go_upto_region 11 with (first
      | (go_at_call 211; (with_reducible refine CE.out.mono ?_); rintro e w' ⟨rfl, rfl⟩)
      | (go_at_call 132; (with_reducible refine (CT.out _).mono ?_); rintro e w8 ⟨rfl, hb⟩; have H8 := Lib.hid (H7.out.bel.trans (hb.mono H7.out.bel.size)); clear hb))
    go_upto_region 12 with fail
    have CD := Lib.hid (fun W => mayDouble_any v5 W hv5)
    by_cases hform : v2 = 4
    · have g1 : ((v2 : Int) != 4) = false := by simp; omega
      obtain ⟨q, hq⟩ : ∃ q, q = v3 % 2 := ⟨_, rfl⟩
      have e7 : (v3 : Int).tmod 2 = (q : Int) := by rw [Int.tmod_eq_emod_of_nonneg (by omega)]; omega
      by_cases hodd : q = 0
      · have g2 : ((q : Int) != 0) = false := by simp; omega
        by_cases hmd : mayD v5
        · rw [decide_eq_true hmd] at CD
          have hn0 : 0 < n ∧ n ≤ 8192 := by unfold mayD at hmd; omega
          obtain ⟨C, hC⟩ : ∃ D : ByteArray, D = ⟨(cntB n).toArray⟩ := ⟨_, rfl⟩
          have CC := Lib.hid (show ∀ W, Calls Tryz.prog 236 #[.int .i64 (n : Int)] W fun e w' => e = .returned (.string C) ∧ Below W.heap.size W w' from fun W => by rw [hC]; exact counts_any n W hn0.1 hn0.2)
          have hTC : (T.toList == C.toList) = (TL == cntB n) := by rw [HT.out, hC]; exact str_eq _ _
          by_cases htold : TL = cntB n
          · have g3 : (T.toList == C.toList) = true := by rw [hTC, htold]; simp
            have e8 : IntKind.i64.wrap (8 * (n : Int)) = 8 * (n : Int) := i64_in _ (by omega)
            have e9 : IntKind.i64.wrap (16 + 8 * (n : Int)) = 16 + 8 * (n : Int) := i64_in _ (by omega)
            by_cases hlong : 16 + 8 * n ≤ v3
            · have g4 : ¬ (v3 : Int) < 16 + 8 * (n : Int) := by omega
              rw [if_pos ⟨hform, by omega, hmd, htold, hlong⟩] at HL
              by_cases hsh : s.size < a + v3
              · rw [if_pos hsh] at HL
                have CQ := Lib.hid (fun W => cut_out s a v3 W HS.out (by omega) hsh)
                have HQ := Lib.hid (fun w' => HP.out 3 w' HL.out (by decide))
                (try clear hform); (try clear hodd); (try clear hmd); (try clear htold); (try clear hlong); (try clear hsh); (try clear hq); (try clear hn0); (try clear hTC); (try clear hC); (try clear hn)
                go_wp2_with (first
                  | (go_at_call 261; (with_reducible refine (CD.out _).mono ?_); rintro e w' ⟨rfl, rfl⟩)
                  | (go_at_call 236; (with_reducible refine (CC.out _).mono ?_); rintro e w9 ⟨rfl, hb⟩; have H9 := Lib.hid (H8.out.trans (hb.mono H8.out.size)); clear hb)
                  | (go_at_call 132; (with_reducible refine (CQ.out _).mono ?_); rintro e w10 ⟨rfl, hb⟩; have H10 := Lib.hid (H9.out.trans (hb.mono H9.out.size)); clear hb))
                go_ret3
                exact HQ.out _ H10.out
              · rw [if_neg hsh] at HL
                obtain ⟨PD, hPD⟩ : ∃ D : ByteArray, D = ⟨(piece s.data.toList a v3).toArray⟩ := ⟨_, rfl⟩
                have CQ := Lib.hid (show ∀ W, Calls Tryz.prog 132 #[.string s, .int .i64 (a : Int), .int .i64 (v3 : Int)] W fun e w' => e = .returned (.tuple #[.string PD, .int .i64 0]) ∧ Below W.heap.size W w' from fun W => by rw [hPD]; exact cut_in s a v3 W HS.out (by omega))
                have HQ := Lib.hid (show ∀ w', Below w.heap.size w w' → OsP s a w (.returned (.tuple #[.string PD, .int .i64 (n : Int), .int .i64 0])) w' from fun w' h => ⟨h, fun h2 => absurd HL.out h2, fun _ => by rw [HNS.out.1, HNS.out.2, hPD]⟩)
                clear hPD
                (try clear hform); (try clear hodd); (try clear hmd); (try clear htold); (try clear hlong); (try clear hsh); (try clear hq); (try clear hn0); (try clear hTC); (try clear hC); (try clear hn)
                go_wp2_with (first
                  | (go_at_call 261; (with_reducible refine (CD.out _).mono ?_); rintro e w' ⟨rfl, rfl⟩)
                  | (go_at_call 236; (with_reducible refine (CC.out _).mono ?_); rintro e w9 ⟨rfl, hb⟩; have H9 := Lib.hid (H8.out.trans (hb.mono H8.out.size)); clear hb)
                  | (go_at_call 132; (with_reducible refine (CQ.out _).mono ?_); rintro e w10 ⟨rfl, hb⟩; have H10 := Lib.hid (H9.out.trans (hb.mono H9.out.size)); clear hb))
                go_ret3
                exact HQ.out _ H10.out
            · have g4 : (v3 : Int) < 16 + 8 * (n : Int) := by omega
              rw [if_neg (fun h => hlong h.2.2.2.2)] at HL
              have HQ := Lib.hid (fun w' => HP.out 4 w' HL.out (by decide))
              (try clear hform); (try clear hodd); (try clear hmd); (try clear htold); (try clear hlong); (try clear hsh); (try clear hq); (try clear hn0); (try clear hTC); (try clear hC); (try clear hn)
              go_wp2_with (first
                | (go_at_call 261; (with_reducible refine (CD.out _).mono ?_); rintro e w' ⟨rfl, rfl⟩)
                | (go_at_call 236; (with_reducible refine (CC.out _).mono ?_); rintro e w9 ⟨rfl, hb⟩; have H9 := Lib.hid (H8.out.trans (hb.mono H8.out.size)); clear hb))
              go_ret3
              exact HQ.out _ H9.out
          · have g3 : (T.toList == C.toList) = false := by rw [hTC]; simp [htold]
            rw [if_neg (fun h => htold h.2.2.2.1)] at HL
            have HQ := Lib.hid (fun w' => HP.out 4 w' HL.out (by decide))
            (try clear hform); (try clear hodd); (try clear hmd); (try clear htold); (try clear hlong); (try clear hsh); (try clear hq); (try clear hn0); (try clear hTC); (try clear hC); (try clear hn)
            go_wp2_with (first
              | (go_at_call 261; (with_reducible refine (CD.out _).mono ?_); rintro e w' ⟨rfl, rfl⟩)
              | (go_at_call 236; (with_reducible refine (CC.out _).mono ?_); rintro e w9 ⟨rfl, hb⟩; have H9 := Lib.hid (H8.out.trans (hb.mono H8.out.size)); clear hb))
            go_ret3
            exact HQ.out _ H9.out
        · rw [decide_eq_false hmd] at CD
          rw [if_neg (fun h => hmd h.2.2.1)] at HL
          have HQ := Lib.hid (fun w' => HP.out 4 w' HL.out (by decide))
          (try clear hform); (try clear hodd); (try clear hmd); (try clear htold); (try clear hlong); (try clear hsh); (try clear hq); (try clear hn0); (try clear hTC); (try clear hC); (try clear hn)
          go_wp2_with (go_at_call 261; (with_reducible refine (CD.out _).mono ?_); rintro e w' ⟨rfl, rfl⟩)
          go_ret3
          exact HQ.out _ H8.out
      · have g2 : ((q : Int) != 0) = true := by simp; omega
        rw [if_neg (fun h => hodd (by rw [hq]; exact h.2.1))] at HL
        have HQ := Lib.hid (fun w' => HP.out 4 w' HL.out (by decide))
        (try clear hform); (try clear hodd); (try clear hmd); (try clear htold); (try clear hlong); (try clear hsh); (try clear hq); (try clear hn0); (try clear hTC); (try clear hC); (try clear hn)
        go_wp2_with fail
        go_ret3
        exact HQ.out _ H8.out
    · have g1 : ((v2 : Int) != 4) = true := by simp; omega
      rw [if_neg (fun h => hform h.1)] at HL
      have HQ := Lib.hid (fun w' => HP.out 4 w' HL.out (by decide))
      (try clear hform); (try clear hodd); (try clear hmd); (try clear htold); (try clear hlong); (try clear hsh); (try clear hq); (try clear hn0); (try clear hTC); (try clear hC); (try clear hn)
      go_wp2_with fail
      go_ret3
      exact HQ.out _ H8.out
  · have hshort : s.size < a + 14 := by
      have := ((((((AtS.start s.size).step N1.out).step N2.out.1).step N3.out.1).step N4.out).step N5.out.1).step N6.out |>.no rfl
      omega
    rw [if_pos hshort] at HL
    have HQ := Lib.hid (fun w' => HP.out 3 w' HL.out (by decide))
    clear hshort N1 N2 N3 N4 N5 N6
    go_wp2_with (go_at_call 211; (with_reducible refine CE.out.mono ?_); rintro e w' ⟨rfl, rfl⟩)
    go_ret3
    exact HQ.out _ H7.out.bel
end N12
end Go.Proofs.YtfhaloclbbmbeaaGreat
namespace Go.Proofs.YtfhaloclbbmbeaaGreat
open Go.RowKit
def Bs (w : World) (g : Nat) (x y z u v : Int) : Prop := w.heap[g]? = some (.cells #[.int .i64 x, .int .i64 y, .int .i64 z, .int .i64 u, .int .i64 v] 302 (0, 0))
section
variable {w w' : World} {g : Nat} {x y z u v : Int}
theorem Bs.lt (h : Bs w g x y z u v) : g < w.heap.size := heap_lt h
theorem Bs.bel (h : Bs w g x y z u v) (hb : Below w.heap.size w w') : Bs w' g x y z u v := (hb.block g h.lt).trans h
theorem Bs.cells (h : Bs w g x y z u v) : w.cell? ⟨g, 0, none⟩ = some (.int .i64 x) ∧ w.cell? ⟨g, 1, none⟩ = some (.int .i64 y) ∧ w.cell? ⟨g, 2, none⟩ = some (.int .i64 z) ∧ w.cell? ⟨g, 3, none⟩ = some (.int .i64 u) ∧ w.cell? ⟨g, 4, none⟩ = some (.int .i64 v) :=
  ⟨cell_of_row w g 0 _ 302 (0, 0) h, cell_of_row w g 1 _ 302 (0, 0) h, cell_of_row w g 2 _ 302 (0, 0) h, cell_of_row w g 3 _ 302 (0, 0) h, cell_of_row w g 4 _ 302 (0, 0) h⟩
end
theorem Bs.put {W : World} {b : Nat} {c0 c1 c2 c3 c4 : Value} (h : W.heap[b]? = some (.cells #[c0, c1, c2, c3, c4] 302 (0, 0))) (x y z u v : Int) : Bs (((((W.setCell ⟨b, 0, none⟩ (.int .i64 x)).setCell ⟨b, 1, none⟩ (.int .i64 y)).setCell ⟨b, 2, none⟩ (.int .i64 z)).setCell ⟨b, 3, none⟩ (.int .i64 u)).setCell ⟨b, 4, none⟩ (.int .i64 v)) b x y z u v := by
  unfold Bs; simp [World.setCell, Array.getElem?_modify, h]
theorem ret_seg {fn : Func} {p : Tmp} {tmps : Array Value} {W : World} {g : Nat} {x y z u v : Int} (h : fn.results = #[.cell p 302]) (hp : tmps.getD p undef = .pointer (some ⟨g, 0, none⟩)) (hb : Bs W g x y z u v) :
    (results fn tmps).run Tryz.prog W = .ok (.agg #[.int .i64 x, .int .i64 y, .int .i64 z, .int .i64 u, .int .i64 v]) W := by
  obtain ⟨hc0, hc1, hc2, hc3, hc4⟩ := hb.cells
  rw [Array.getD_eq_getD_getElem?] at hp
  simp [results, h, hp, go_sem, hc0, hc1, hc2, hc3, hc4]
set_option maxHeartbeats 4000000 in
set_option maxRecDepth 100000 in
theorem readSegment_any (s : ByteArray) (n i : Nat) (w : World) (hs : s.size ≤ 1000000000) (hn : n ≤ 8192) (hi : i < n) (hl : 16 + 8 * n ≤ s.size) :
    Calls Tryz.prog 218 #[.string s, .int .i64 (n : Int), .int .i64 (i : Int)] w fun e w' => e = .returned (.agg #[.int .i64 (sF s.data.toList n i : Int), .int .i64 (sT s.data.toList i : Int), .int .i64 (sD s.data.toList n i : Int), .int .i64 (sJ s.data.toList n i : Int), .int .i64 (sAt n i : Int)]) ∧ Below w.heap.size w w' := by
  have C1 := Lib.hid (show ∀ (z : Int) W, z = ((14 + 2 * i + 2 * n + 2 : Nat) : Int) → Calls Tryz.prog 217 #[.string s, .int .i64 z] W fun e w' => e = .returned (.int .i64 (sF s.data.toList n i : Int)) ∧ W = w' from fun z W hz => by rw [hz]; exact number_any s _ W hs (by omega))
  have C2 := Lib.hid (show ∀ (z : Int) W, z = ((14 + 2 * i : Nat) : Int) → Calls Tryz.prog 217 #[.string s, .int .i64 z] W fun e w' => e = .returned (.int .i64 (sT s.data.toList i : Int)) ∧ W = w' from fun z W hz => by rw [hz]; exact number_any s _ W hs (by omega))
  have C3 := Lib.hid (show ∀ (z : Int) W, z = ((14 + 2 * i + 2 * n + 2 + 2 * n : Nat) : Int) → Calls Tryz.prog 217 #[.string s, .int .i64 z] W fun e w' => e = .returned (.int .i64 (sD s.data.toList n i : Int)) ∧ W = w' from fun z W hz => by rw [hz]; exact number_any s _ W hs (by omega))
  have C4 := Lib.hid (show ∀ (z : Int) W, z = ((14 + 2 * i + 2 * n + 2 + 2 * n + 2 * n : Nat) : Int) → Calls Tryz.prog 217 #[.string s, .int .i64 z] W fun e w' => e = .returned (.int .i64 (sJ s.data.toList n i : Int)) ∧ W = w' from fun z W hz => by rw [hz]; exact number_any s _ W hs (by omega))
  obtain ⟨x1, h1⟩ : ∃ x, x = sF s.data.toList n i := ⟨_, rfl⟩
  obtain ⟨x2, h2⟩ : ∃ x, x = sT s.data.toList i := ⟨_, rfl⟩
  obtain ⟨x3, h3⟩ : ∃ x, x = sD s.data.toList n i := ⟨_, rfl⟩
  obtain ⟨x4, h4⟩ : ∃ x, x = sJ s.data.toList n i := ⟨_, rfl⟩
  have hat : sAt n i = 14 + 2 * i + 2 * n + 2 + 2 * n + 2 * n := rfl
  obtain ⟨x5, h5⟩ : ∃ x, x = sAt n i := ⟨_, rfl⟩
  rw [← h1] at C1 ⊢
  rw [← h2] at C2 ⊢
  rw [← h3] at C3 ⊢
  rw [← h4] at C4 ⊢
  rw [← h5] at hat ⊢
  have HAT := Lib.hid hat
  have HB := Lib.hid ((Below.refl w.heap.size w).alloc (Nat.le_refl _) (.cells #[.int .i64 0, .int .i64 0, .int .i64 0, .int .i64 0, .int .i64 0] 302))
  have hbox := heap_alloc_new w (.cells #[.int .i64 0, .int .i64 0, .int .i64 0, .int .i64 0, .int .i64 0] 302)
  have e5 : IntKind.i64.wrap (2 * (i : Int)) = 2 * (i : Int) := i64_in _ (by omega)
  have e6 : IntKind.i64.wrap (14 + 2 * (i : Int)) = 14 + 2 * (i : Int) := i64_in _ (by omega)
  have e7 : IntKind.i64.wrap (2 * (n : Int)) = 2 * (n : Int) := i64_in _ (by omega)
  clear h1 h2 h3 h4 h5 hs hl hat
  go_enter Tryz.func218, Tryz.ntmps218
  go_upto_region 1 with fail
  obtain ⟨b, hb⟩ : ∃ b, b = w.heap.size := ⟨_, rfl⟩
  obtain ⟨W0, hW0⟩ : ∃ W, W = w.alloc (.cells #[.int .i64 0, .int .i64 0, .int .i64 0, .int .i64 0, .int .i64 0] 302) := ⟨_, rfl⟩
  rw [← hW0] at HB hbox ⊢
  rw [← hb] at hbox ⊢
  have HBX := Lib.hid (And.intro hbox (show w.heap.size ≤ b by omega))
  have d0 := cell_of_row W0 b 0 _ 302 (0, 0) hbox
  have d1 := cell_of_row W0 b 1 _ 302 (0, 0) hbox
  have d2 := cell_of_row W0 b 2 _ 302 (0, 0) hbox
  have d3 := cell_of_row W0 b 3 _ 302 (0, 0) hbox
  have d4 := cell_of_row W0 b 4 _ 302 (0, 0) hbox
  have r0 : ∀ j, W0.frozen? ⟨b, j, none⟩ = false := fun j => by simp [World.frozen?, hbox]
  have r1 := r0 0
  have r2 := r0 1
  have r3 := r0 2
  have r4 := r0 3
  have r5 := r0 4
  clear hb hW0 hbox r0
  go_wp2_with (first
    | (go_at_call 217; (with_reducible refine (C1.out _ _ (by omega)).mono ?_); rintro e w' ⟨rfl, rfl⟩)
    | (go_at_call 217; (with_reducible refine (C2.out _ _ (by omega)).mono ?_); rintro e w' ⟨rfl, rfl⟩)
    | (go_at_call 217; (with_reducible refine (C3.out _ _ (by omega)).mono ?_); rintro e w' ⟨rfl, rfl⟩)
    | (go_at_call 217; (with_reducible refine (C4.out _ _ (by omega)).mono ?_); rintro e w' ⟨rfl, rfl⟩))
  refine bodyPost_ret (ret_seg rfl rfl (Bs.put HBX.out.1 _ _ _ _ _)) rfl ?_
  have hx5 : (x5 : Int) = 14 + 2 * (i : Int) + 2 * (n : Int) + 2 + 2 * (n : Int) + 2 * (n : Int) := by have := HAT.out; omega
  rw [hx5]
  exact ⟨rfl, ((((HB.out.setCell HBX.out.2 _).setCell HBX.out.2 _).setCell HBX.out.2 _).setCell HBX.out.2 _).setCell HBX.out.2 _⟩
theorem u16_place (s : ByteArray) (p : Nat) (w : World) (hs : s.size ≤ 1000000000) (hp : p < 5000000000) : Calls Tryz.prog 131 #[.string s, .int .i64 (p : Int)] w fun e w' => e = .returned (.tuple #[.int .u16 ((if s.size < p + 2 then 0 else n2 s.data.toList p : Nat) : Int), .int .i64 (if s.size < p + 2 then 3 else 0)]) ∧ w = w' := by
  have h := u16_any s (p : Int) w hs (by omega)
  by_cases hlt : s.size < p + 2
  · rw [if_pos hlt, if_pos hlt]
    have h2 : ¬ Has s.data.toList.length (p : Int) 2 := by rw [size_list]; rintro ⟨_, _, h3⟩; omega
    unfold cutL cutE at h
    rw [if_neg h2, if_neg h2] at h
    exact h
  · rw [if_neg hlt, if_neg hlt]
    have h2 := cutL_in (l := s.data.toList) (a := p) (n := 2) (by rw [size_list]; omega)
    rw [show ((2 : Nat) : Int) = 2 from rfl] at h2
    rw [h2.1, h2.2] at h
    exact h
theorem mod_tail (a b : Nat) (ha : a < 4294967296) (hb : b < 65536) : ((a : Int) + (b : Int)).tmod 65536 = (((a + b) % 65536 : Nat) : Int) := by
  rw [Int.tmod_eq_emod_of_nonneg (by omega)]; omega
set_option maxHeartbeats 4000000 in
set_option maxRecDepth 100000 in
theorem glyph_any (s : ByteArray) (F T D J at_ c : Nat) (w : World) (hs : s.size ≤ 1000000000) (hF : F ≤ c) (hc : c < 65536) (hD : D < 65536) (hJ : J < 65536) (ha : at_ < 1000000) :
    Calls Tryz.prog 262 #[.agg #[.int .i64 (F : Int), .int .i64 (T : Int), .int .i64 (D : Int), .int .i64 (J : Int), .int .i64 (at_ : Int)], .string s, .int .i64 (c : Int)] w fun e w' => e = .returned (.tuple #[.int .i64 (gly s.data.toList F D J at_ c).1, .int .i64 (gly s.data.toList F D J at_ c).2]) ∧ Below w.heap.size w w' := by
  have HB := Lib.hid ((Below.refl w.heap.size w).alloc (Nat.le_refl _) (.cells #[.int .i64 (F : Int), .int .i64 (T : Int), .int .i64 (D : Int), .int .i64 (J : Int), .int .i64 (at_ : Int)] 302))
  have hbox := heap_alloc_new w (.cells #[.int .i64 (F : Int), .int .i64 (T : Int), .int .i64 (D : Int), .int .i64 (J : Int), .int .i64 (at_ : Int)] 302)
  obtain ⟨b, hb⟩ : ∃ b, b = w.heap.size := ⟨_, rfl⟩
  obtain ⟨W0, hW0⟩ : ∃ W, W = w.alloc (.cells #[.int .i64 (F : Int), .int .i64 (T : Int), .int .i64 (D : Int), .int .i64 (J : Int), .int .i64 (at_ : Int)] 302) := ⟨_, rfl⟩
  rw [← hW0] at HB
  rw [← hW0, ← hb] at hbox
  have HW := Lib.hid (And.intro hb hW0)
  obtain ⟨d0, d1, d2, d3, d4⟩ := Bs.cells (show Bs W0 b F T D J at_ from hbox)
  clear hb hW0 hbox
  unfold gly
  rw [size_list]
  by_cases hJ0 : J = 0
  · rw [if_pos hJ0]
    have g0 : ((J : Int) == 0) = true := by simp [hJ0]
    clear hJ0
    have e1 : IntKind.i64.wrap ((c : Int) + (D : Int)) = (c : Int) + (D : Int) := i64_in _ (by omega)
    have e2 := mod_tail c D (by omega) hD
    obtain ⟨r, hr⟩ : ∃ r, r = (c + D) % 65536 := ⟨_, rfl⟩
    rw [← hr] at e2 ⊢
    have e3 : IntKind.i64.wrap (r : Int) = (r : Int) := i64_in _ (by omega)
    clear hr
    go_enter Tryz.func262, Tryz.ntmps262
    go_upto_region 1 with fail
    rw [← HW.out.1, ← HW.out.2]
    go_wp2_with fail
    go_ret2
    exact ⟨rfl, HB.out⟩
  · rw [if_neg hJ0]
    have g0 : ((J : Int) == 0) = false := by simp; omega
    obtain ⟨p, hp⟩ : ∃ p, p = at_ + J + 2 * (c - F) := ⟨_, rfl⟩
    rw [← hp]
    have C := Lib.hid (show ∀ (z : Int) W, z = (p : Int) → Calls Tryz.prog 131 #[.string s, .int .i64 z] W fun e w' => e = .returned (.tuple #[.int .u16 ((if s.size < p + 2 then 0 else n2 s.data.toList p : Nat) : Int), .int .i64 (if s.size < p + 2 then 3 else 0)]) ∧ W = w' from fun z W hz => by rw [hz]; exact u16_place s p W hs (by omega))
    have hpp : (at_ : Int) + (J : Int) + 2 * ((c : Int) - (F : Int)) = (p : Int) := by omega
    have HPP := Lib.hid hpp
    have e1 : IntKind.i64.wrap ((at_ : Int) + (J : Int)) = (at_ : Int) + (J : Int) := i64_in _ (by omega)
    have e2 : IntKind.i64.wrap ((c : Int) - (F : Int)) = (c : Int) - (F : Int) := i64_in _ (by omega)
    have e3 : IntKind.i64.wrap (2 * ((c : Int) - (F : Int))) = 2 * ((c : Int) - (F : Int)) := i64_in _ (by omega)
    have e4 : IntKind.i64.wrap ((at_ : Int) + (J : Int) + 2 * ((c : Int) - (F : Int))) = (p : Int) := by rw [hpp]; exact i64_in _ (by omega)
    by_cases hlt : s.size < p + 2
    · rw [if_pos hlt, if_pos hlt] at C
      rw [if_pos hlt]
      clear hJ0 hp hpp hlt
      go_enter Tryz.func262, Tryz.ntmps262
      go_upto_region 1 with fail
      rw [← HW.out.1, ← HW.out.2]
      go_wp2_with (go_at_call 131; (with_reducible refine (C.out _ _ (by have := HPP.out; omega)).mono ?_); rintro e w' ⟨rfl, rfl⟩)
      go_ret2
      exact ⟨rfl, HB.out⟩
    · rw [if_neg hlt, if_neg hlt] at C
      rw [if_neg hlt]
      have hx := n2_lt s.data.toList p
      obtain ⟨x, hxx⟩ : ∃ x, x = n2 s.data.toList p := ⟨_, rfl⟩
      rw [← hxx] at C hx ⊢
      by_cases hx0 : x = 0
      · rw [if_pos hx0]
        have g1 : ((x : Int) == 0) = true := by simp; omega
        clear hJ0 hp hpp hlt hxx hx0
        go_enter Tryz.func262, Tryz.ntmps262
        go_upto_region 1 with fail
        rw [← HW.out.1, ← HW.out.2]
        go_wp2_with (go_at_call 131; (with_reducible refine (C.out _ _ (by have := HPP.out; omega)).mono ?_); rintro e w' ⟨rfl, rfl⟩)
        go_ret2
        exact ⟨rfl, HB.out⟩
      · rw [if_neg hx0]
        have g1 : ((x : Int) == 0) = false := by simp; omega
        have e5 : IntKind.i64.wrap ((x : Int) + (D : Int)) = (x : Int) + (D : Int) := i64_in _ (by omega)
        have e6 := mod_tail x D (by omega) hD
        obtain ⟨r, hr⟩ : ∃ r, r = (x + D) % 65536 := ⟨_, rfl⟩
        rw [← hr] at e6 ⊢
        have e7 : IntKind.i64.wrap (r : Int) = (r : Int) := i64_in _ (by omega)
        have e8 : IntKind.i64.wrap (x : Int) = (x : Int) := i64_in _ (by omega)
        clear hJ0 hp hpp hlt hxx hx0 hr
        go_enter Tryz.func262, Tryz.ntmps262
        go_upto_region 1 with fail
        rw [← HW.out.1, ← HW.out.2]
        go_wp2_with (go_at_call 131; (with_reducible refine (C.out _ _ (by have := HPP.out; omega)).mono ?_); rintro e w' ⟨rfl, rfl⟩)
        go_ret2
        exact ⟨rfl, HB.out⟩
end Go.Proofs.YtfhaloclbbmbeaaGreat
