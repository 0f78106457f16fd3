/- Proved here: the law PolySums returns true. Condition: two lists of numbers that lie in memory. -/
import Derived.Test.YtfjlgemobkkhoaaSa
namespace Go.Proofs.Ytfjlgemobkkhoaa
open Go.RowKit

/-- At most 13 numbers of at most 10 digits. -/
def SmP (w : World) (A : Option Addr) (m : Nat) : Prop := m ≤ 13 ∧ ∀ t, t < m → Sm w A t
set_option maxRecDepth 100000 in
set_option maxHeartbeats 1000000 in
theorem small5_yes (A : Option Addr) (m c : Nat) (L : List Int) (l : Nat) (w W : World) (h : Pol .a w (.slice A m c) L l) (hW : Below w.heap.size w W) (hs : SmP w A m) :
    Calls Try.prog 8 #[.slice A m c] W fun e w' => e = .returned (.bool true) ∧ Below W.heap.size W w' := by
  have H := Lib.hid h
  have HM := Lib.hid h.cap.1
  have HW := Lib.hid hW
  have HS := Lib.hid hs
  have hn13 : ¬ 13 < m := by have := hs.1; omega
  clear h hW hs
  go_enter Try.func8, Try.ntmps8
  go_wp2_with fail
  go_loopw [10] (fun i wr => ∃ j : Nat, i = .int .i64 (j : Int) ∧ j ≤ m ∧ Below W.heap.size W wr) (fun i _ => m - (intOf i).toNat)
  case atStart => exact ⟨0, rfl, Nat.zero_le _, Below.refl _ _⟩
  case round =>
    obtain ⟨j, rfl, hj, hb⟩ := hrel
    by_cases hgo : j < m
    · obtain ⟨ad, na, Ba, pa, qa, rfl, had, c0, c1, he⟩ := H.out.get j (by rw [← HM.out]; exact hgo)
      have hb0 := bel_tr HW.out hb
      have g0 : wr.cell? (ad.add (j * 2)) = some (.bool na) := by rw [hb0.cell (by rw [block_of_add]; exact had)]; exact c0
      have g1 : wr.cell? { block := (ad.add (j * 2)).block, off := (ad.add (j * 2)).off + 1 } = some (.slice Ba pa qa) := by rw [add_next, hb0.cell (by rw [block_of_add]; exact had)]; exact c1
      have hp : ¬ 10 < pa := by have := HS.out.2 j hgo ad Ba pa qa rfl c1; omega
      have HB := Lib.hid hb
      clear c0 c1 he hb hb0
      go_wp2_with fail
      exact ⟨⟨j + 1, by simp, by omega, bel_tr HB.out (bel_a _ _)⟩, by simp [intOf]; omega⟩
    · obtain rfl : j = m := by omega
      have HB := Lib.hid hb
      clear hb
      go_wp2_with fail
      go_ret
      exact ⟨rfl, HB.out⟩
set_option maxRecDepth 100000 in
set_option maxHeartbeats 1000000 in
theorem small5_no (A : Option Addr) (m c : Nat) (L : List Int) (l : Nat) (w W : World) (h : Pol .a w (.slice A m c) L l) (hW : Below w.heap.size w W) (hs : ¬ SmP w A m) :
    Calls Try.prog 8 #[.slice A m c] W fun e w' => e = .returned (.bool false) ∧ Below W.heap.size W w' := by
  have H := Lib.hid h
  obtain ⟨hmL, hmc, hcm⟩ := h.cap
  unfold maxLen at hcm
  have HM := Lib.hid hmL
  have HW := Lib.hid hW
  have HS := Lib.hid hs
  clear h hmL hW hs
  by_cases h13 : m ≤ 13
  · have hn13 : ¬ 13 < m := by omega
    have H13 := Lib.hid h13
    go_enter Try.func8, Try.ntmps8
    go_wp2_with fail
    go_loopw [10] (fun i wr => ∃ j : Nat, i = .int .i64 (j : Int) ∧ j ≤ m ∧ Below W.heap.size W wr ∧ ∀ t, t < j → Sm w A t) (fun i _ => m - (intOf i).toNat)
    case atStart => exact ⟨0, rfl, Nat.zero_le _, Below.refl _ _, fun t ht => by omega⟩
    case round =>
      obtain ⟨j, rfl, hj, hb, hs⟩ := hrel
      by_cases hgo : j < m
      · obtain ⟨ad, na, Ba, pa, qa, rfl, had, c0, c1, he⟩ := H.out.get j (by rw [← HM.out]; exact hgo)
        have hb0 := bel_tr HW.out hb
        have g0 : wr.cell? (ad.add (j * 2)) = some (.bool na) := by rw [hb0.cell (by rw [block_of_add]; exact had)]; exact c0
        have g1 : wr.cell? { block := (ad.add (j * 2)).block, off := (ad.add (j * 2)).off + 1 } = some (.slice Ba pa qa) := by rw [add_next, hb0.cell (by rw [block_of_add]; exact had)]; exact c1
        have HC := Lib.hid c1
        have HB := Lib.hid hb
        have HSS := Lib.hid hs
        clear c0 c1 he hb hs hb0
        by_cases hp : pa ≤ 10
        · have hp2 : ¬ 10 < pa := by omega
          go_wp2_with fail
          exact ⟨⟨j + 1, by simp, by omega, bel_tr HB.out (bel_a _ _), fun t ht => by
            rcases Nat.lt_or_ge t j with h | h
            · exact HSS.out t h
            · obtain rfl : t = j := by omega
              intro ad2 B p q hA hc
              injection hA with hA
              subst hA
              rw [HC.out] at hc
              injection hc with hc
              injection hc with _ hc _
              omega⟩, by simp [intOf]; omega⟩
        · have hp2 : 10 < pa := by omega
          go_wp2_with fail
          go_ret
          exact ⟨rfl, bel_tr HB.out (bel_a _ _)⟩
      · exfalso
        obtain rfl : j = m := by omega
        exact HS.out ⟨H13.out, hs⟩
  · have hn13 : 13 < m := by omega
    go_enter Try.func8, Try.ntmps8
    go_wp2_with fail
    go_ret
    exact ⟨rfl, Below.refl _ _⟩
theorem addP_len (L M : List Int) : (addP L M).length ≤ max L.length M.length := by unfold addP; rw [trz_len]; exact pl_gen_le _ _
theorem subP_len (L M : List Int) : (subP L M).length ≤ max L.length M.length := by unfold subP; rw [trz_len]; exact pl_gen_le _ _
theorem mulP_len (L M : List Int) : (mulP L M).length ≤ L.length + M.length := by unfold mulP; rw [trz_len]; exact pl_gen_le _ _
theorem derP_len (L : List Int) : (derP L).length ≤ L.length := by unfold derP; rw [gen_len]; have := pl_le L; omega
theorem trz_le (L : List Int) : (trz L).length ≤ L.length := by rw [trz_len]; exact pl_le L
/-- The document's two polynomials. -/
structure LxS (w W : World) (x y : Value) (T U : List Int) : Prop where
  bel : Below w.heap.size w W
  px : Pol .n W x T 20
  py : Pol .n W y U 20
theorem LxS.next {w W W' : World} {x y : Value} {T U : List Int} (h : LxS w W x y T U) (hb : Below W.heap.size W W') : LxS w W' x y T U := ⟨bel_tr h.bel hb, h.px.bel hb, h.py.bel hb⟩
set_option maxRecDepth 100000 in
set_option maxHeartbeats 4000000 in
theorem law_sums (A B : Option Addr) (m c m2 c2 : Nat) (L M : List Int) (l k : Nat) (w : World) (h : Pol .a w (.slice A m c) L l) (h' : Pol .a w (.slice B m2 c2) M k) :
    Calls Try.prog 3 #[.slice A m c, .slice B m2 c2] w fun e w' => e = .returned (.bool true) ∧ Below w.heap.size w w' := by
  by_cases h1 : SmP w A m
  · have H1 := Lib.hid (fun W hW => small5_yes A m c L l w W h hW h1)
    by_cases h2 : SmP w B m2
    · have H2 := Lib.hid (fun W hW => small5_yes B m2 c2 M k w W h' hW h2)
      have HP := Lib.hid (h.small h1.2)
      have HQ := Lib.hid (h'.small h2.2)
      have hm := h1.1
      have hm2 := h2.1
      have hmL := h.cap.1
      have hmM := h'.cap.1
      obtain ⟨T, hT⟩ : ∃ T, T = trz L := ⟨_, rfl⟩
      obtain ⟨U, hU⟩ : ∃ U, U = trz M := ⟨_, rfl⟩
      obtain ⟨x, hx⟩ : ∃ x, x = T.length := ⟨_, rfl⟩
      obtain ⟨y, hy⟩ : ∃ y, y = U.length := ⟨_, rfl⟩
      have hxl : x ≤ 13 := by rw [hx, hT]; have := trz_le L; omega
      have hyl : y ≤ 13 := by rw [hy, hU]; have := trz_le M; omega
      obtain ⟨R1, hR1⟩ : ∃ R, R = addP L M := ⟨_, rfl⟩
      obtain ⟨R2, hR2⟩ : ∃ R, R = subP L M := ⟨_, rfl⟩
      obtain ⟨R3, hR3⟩ : ∃ R, R = mulP T U := ⟨_, rfl⟩
      obtain ⟨R4, hR4⟩ : ∃ R, R = derP L := ⟨_, rfl⟩
      obtain ⟨n1, hn1⟩ : ∃ n, n = R1.length := ⟨_, rfl⟩
      obtain ⟨n2, hn2⟩ : ∃ n, n = R2.length := ⟨_, rfl⟩
      obtain ⟨n3, hn3⟩ : ∃ n, n = R3.length := ⟨_, rfl⟩
      obtain ⟨n4, hn4⟩ : ∃ n, n = R4.length := ⟨_, rfl⟩
      have hl1 : n1 ≤ 1000 := by rw [hn1, hR1]; have := addP_len L M; omega
      have hl2 : n2 ≤ 1000 := by rw [hn2, hR2]; have := subP_len L M; omega
      have hl3 : n3 ≤ 1000 := by rw [hn3, hR3]; have := mulP_len T U; omega
      have hl4 : n4 ≤ 1000 := by rw [hn4, hR4]; have := derP_len L; omega
      have E := Lib.hid (show trz L = T ∧ trz M = U ∧ T.length = x ∧ U.length = y ∧ addP L M = R1 ∧ subP L M = R2 ∧ mulP T U = R3 ∧ derP L = R4 ∧ R1.length = n1 ∧ R2.length = n2 ∧ R3.length = n3 ∧ R4.length = n4 from
        ⟨hT.symm, hU.symm, hx.symm, hy.symm, hR1.symm, hR2.symm, hR3.symm, hR4.symm, hn1.symm, hn2.symm, hn3.symm, hn4.symm⟩)
      have E2 := Lib.hid (show addP T U = R1 ∧ subP T U = R2 ∧ derP T = R4 ∧ pl L = x by
        rw [hT, hU, hR1, hR2, hR4, hx, hT]
        exact ⟨addP_trz L M, subP_trz L M, derP_trz L, (trz_len L).symm⟩)
      have HAW := Lib.hid awake_any
      clear h h' h1 h2 hmL hmM hT hU hx hy hR1 hR2 hR3 hR4 hn1 hn2 hn3 hn4
      go_enter Try.func3, Try.ntmps3
      go_upto_region 6 with (first
        | (go_at_call 7; (with_reducible refine (HAW.out _).mono ?_); rintro e w1 ⟨rfl, hb⟩; have HB := Lib.hid hb; clear hb)
        | (go_at_call 8; (with_reducible refine (H1.out _ HB.out).mono ?_); rintro e w2 ⟨rfl, hb⟩; have HB := Lib.hid (bel_tr HB.out hb); clear hb)
        | (go_at_call 8; (with_reducible refine (H2.out _ HB.out).mono ?_); rintro e w3 ⟨rfl, hb⟩; have HB := Lib.hid (bel_tr HB.out hb); clear hb)
        | (go_at_call 9; (with_reducible refine (from5_any A m c L 10 _ (HP.out.bel HB.out) (by omega) (by omega)).mono ?_); rintro e w4 he; rw [E.out.1] at he; obtain ⟨Ax, cx, rfl, hp, hb⟩ := he; rw [E.out.2.2.1] at hp ⊢; have HX := Lib.hid hp; have HB := Lib.hid (bel_tr HB.out hb); clear hp hb)
        | (go_at_call 9; (with_reducible refine (from5_any B m2 c2 M 10 _ (HQ.out.bel HB.out) (by omega) (by omega)).mono ?_); rintro e w5 he; rw [E.out.2.1] at he; obtain ⟨Ay, cy, rfl, hp, hb⟩ := he; rw [E.out.2.2.2.1] at hp ⊢; have HS := Lib.hid (show LxS w w5 (.slice Ax x cx) (.slice Ay y cy) T U from ⟨bel_tr HB.out hb, HX.out.bel hb, hp⟩); clear hp hb))
      go_wp2_with (first
        | (go_at_call 11; (with_reducible refine (padd_any A B m c m2 c2 L M 10 10 _ (HP.out.bel HS.out.bel) (HQ.out.bel HS.out.bel) (by omega) (by omega) (by omega) (by omega)).mono ?_); rintro e v1 he; rw [E.out.2.2.2.2.1] at he; obtain ⟨A1, d1, rfl, hp, hb⟩ := he; rw [E.out.2.2.2.2.2.2.2.2.1] at hp ⊢; have G1 := Lib.hid hp; have HS := Lib.hid (HS.out.next hb); clear hp hb)
        | (go_at_call 12; (with_reducible refine (radd5_any Ax Ay x cx y cy T U 20 20 _ HS.out.px HS.out.py (by omega) (by omega) (by omega) (by omega)).mono ?_); rintro e v2 he; rw [E2.out.1] at he; obtain ⟨A2, d2, rfl, hp, hb⟩ := he; rw [E.out.2.2.2.2.2.2.2.2.1] at hp ⊢; have G2 := Lib.hid hp; have G1 := Lib.hid (G1.out.bel hb); have HS := Lib.hid (HS.out.next hb); clear hp hb)
        | (go_at_call 10; (with_reducible refine (same5_any A1 A2 n1 d1 d2 R1 (max 10 10 + 1) (max 20 20 + 1) _ G1.out G2.out hl1 (by omega) (by omega)).mono ?_); rintro e v3 ⟨rfl, hb⟩; have HS := Lib.hid (HS.out.next hb); clear hb)
        | (go_at_call 13; (with_reducible refine (psub_any A B m c m2 c2 L M 10 10 _ (HP.out.bel HS.out.bel) (HQ.out.bel HS.out.bel) (by omega) (by omega) (by omega) (by omega)).mono ?_); rintro e v4 he; rw [E.out.2.2.2.2.2.1] at he; obtain ⟨A3, d3, rfl, hp, hb⟩ := he; rw [E.out.2.2.2.2.2.2.2.2.2.1] at hp ⊢; have G3 := Lib.hid hp; have HS := Lib.hid (HS.out.next hb); clear hp hb)
        | (go_at_call 14; (with_reducible refine (rsub5_any Ax Ay x cx y cy T U 20 20 _ HS.out.px HS.out.py (by omega) (by omega) (by omega) (by omega)).mono ?_); rintro e v5 he; rw [E2.out.2.1] at he; obtain ⟨A4, d4, rfl, hp, hb⟩ := he; rw [E.out.2.2.2.2.2.2.2.2.2.1] at hp ⊢; have G4 := Lib.hid hp; have G3 := Lib.hid (G3.out.bel hb); have HS := Lib.hid (HS.out.next hb); clear hp hb)
        | (go_at_call 10; (with_reducible refine (same5_any A3 A4 n2 d3 d4 R2 (max 10 10 + 1) (max 20 20 + 1) _ G3.out G4.out hl2 (by omega) (by omega)).mono ?_); rintro e v6 ⟨rfl, hb⟩; have HS := Lib.hid (HS.out.next hb); clear hb)
        | (go_at_call 15; (with_reducible refine (pmul_any A B m c m2 c2 L M 10 10 _ (HP.out.bel HS.out.bel) (HQ.out.bel HS.out.bel) (by omega) (by omega) (by omega) (by omega)).mono ?_); rintro e v7 he; rw [E.out.1, E.out.2.1, E.out.2.2.2.2.2.2.1] at he; obtain ⟨A5, d5, rfl, hp, hb⟩ := he; rw [E.out.2.2.2.2.2.2.2.2.2.2.1] at hp ⊢; have G5 := Lib.hid hp; have HS := Lib.hid (HS.out.next hb); clear hp hb)
        | (go_at_call 16; (with_reducible refine (rmul5_any Ax Ay x cx y cy T U 20 20 _ HS.out.px HS.out.py (by omega) (by omega) (by omega) (by omega)).mono ?_); rintro e v8 he; rw [E.out.2.2.2.2.2.2.1] at he; obtain ⟨A6, d6, rfl, hp, hb⟩ := he; rw [E.out.2.2.2.2.2.2.2.2.2.2.1] at hp ⊢; have G6 := Lib.hid hp; have G5 := Lib.hid (G5.out.bel hb); have HS := Lib.hid (HS.out.next hb); clear hp hb)
        | (go_at_call 10; (with_reducible refine (same5_any A5 A6 n3 d5 d6 R3 (10 + 10 + 10000) (20 + 20 + 3000) _ G5.out G6.out hl3 (by omega) (by omega)).mono ?_); rintro e v9 ⟨rfl, hb⟩; have HS := Lib.hid (HS.out.next hb); clear hb)
        | (go_at_call 17; (with_reducible refine (pder_any A m c L 10 _ (HP.out.bel HS.out.bel) (by omega) (by omega)).mono ?_); rintro e va he; rw [E.out.2.2.2.2.2.2.2.1] at he; obtain ⟨A7, d7, rfl, hp, hb⟩ := he; rw [E.out.2.2.2.2.2.2.2.2.2.2.2] at hp ⊢; have G7 := Lib.hid hp; have HS := Lib.hid (HS.out.next hb); clear hp hb)
        | (go_at_call 18; (with_reducible refine (rder5_any Ax x cx T 20 _ HS.out.px (by omega) (by omega)).mono ?_); rintro e vb he; rw [E2.out.2.2.1] at he; obtain ⟨A8, d8, rfl, hp, hb⟩ := he; rw [E.out.2.2.2.2.2.2.2.2.2.2.2] at hp ⊢; have G8 := Lib.hid hp; have G7 := Lib.hid (G7.out.bel hb); have HS := Lib.hid (HS.out.next hb); clear hp hb)
        | (go_at_call 10; (with_reducible refine (same5_any A7 A8 n4 d7 d8 R4 (10 + 2) (20 + 5) _ G7.out G8.out hl4 (by omega) (by omega)).mono ?_); rintro e vc ⟨rfl, hb⟩; have HS := Lib.hid (HS.out.next hb); clear hb)
        | (go_at_call 19; (with_reducible refine (degree_any A m c L 10 _ (HP.out.bel HS.out.bel)).mono ?_); rw [E2.out.2.2.2]; rintro e vd ⟨rfl, hb⟩; have HS := Lib.hid (HS.out.next hb); clear hb))
      go_ret
      exact ⟨rfl, HS.out.bel⟩
    · have H2 := Lib.hid (fun W hW => small5_no B m2 c2 M k w W h' hW h2)
      have HAW := Lib.hid awake_any
      clear h h' h1 h2
      go_enter Try.func3, Try.ntmps3
      go_wp2_with (first
        | (go_at_call 7; (with_reducible refine (HAW.out _).mono ?_); rintro e w1 ⟨rfl, hb⟩; have HB := Lib.hid hb; clear hb)
        | (go_at_call 8; (with_reducible refine (H1.out _ HB.out).mono ?_); rintro e w2 ⟨rfl, hb⟩; have HB := Lib.hid (bel_tr HB.out hb); clear hb)
        | (go_at_call 8; (with_reducible refine (H2.out _ HB.out).mono ?_); rintro e w3 ⟨rfl, hb⟩; have HB := Lib.hid (bel_tr HB.out hb); clear hb))
      go_ret
      exact ⟨rfl, HB.out⟩
  · have H1 := Lib.hid (fun W hW => small5_no A m c L l w W h hW h1)
    have HAW := Lib.hid awake_any
    clear h h' h1
    go_enter Try.func3, Try.ntmps3
    go_wp2_with (first
      | (go_at_call 7; (with_reducible refine (HAW.out _).mono ?_); rintro e w1 ⟨rfl, hb⟩; have HB := Lib.hid hb; clear hb)
      | (go_at_call 8; (with_reducible refine (H1.out _ HB.out).mono ?_); rintro e w2 ⟨rfl, hb⟩; have HB := Lib.hid (bel_tr HB.out hb); clear hb))
    go_ret
    exact ⟨rfl, HB.out⟩
end Go.Proofs.Ytfjlgemobkkhoaa
