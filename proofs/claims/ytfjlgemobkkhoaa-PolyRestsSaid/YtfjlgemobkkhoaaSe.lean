/- Proved here: the law PolyRests returns true. Condition: two lists of numbers that lie in memory. -/
import Derived.Test.YtfjlgemobkkhoaaSd
namespace Go.Proofs.Ytfjlgemobkkhoaa
open Go.RowKit

theorem restF_lt {q : List Int} (hq : 0 < q.length) : ∀ (k : Nat) (p : List Int), p.length ≤ k → (restF k p q).length < q.length
  | 0, p, h => by simp only [restF]; omega
  | k + 1, p, h => by
    simp only [restF]
    split
    · assumption
    · have := stepR_len p q
      exact restF_lt hq k _ (by omega)
theorem restP_lt {p q : List Int} (hq : 0 < q.length) : (restP p q).length < q.length := restF_lt hq _ p (Nat.le_refl _)
set_option maxRecDepth 100000 in
set_option maxHeartbeats 4000000 in
theorem law_rests (A B : Option Addr) (m c m2 c2 : Nat) (L M : List Int) (l k : Nat) (w : World) (h : Pol .a w (.slice A m c) L l) (h' : Pol .a w (.slice B m2 c2) M k) :
    Calls Try.prog 5 #[.slice A m c, .slice B m2 c2] w fun e w' => e = .returned (.bool true) ∧ Below w.heap.size w w' := by
  by_cases h1 : SmP w A m
  · have H1 := Lib.hid (fun W hW => small5_yes A m c L l w W h hW h1)
    by_cases h2 : SmP w B m2
    · have H2 := Lib.hid (fun W hW => small5_yes B m2 c2 M k w W h' hW h2)
      have HP := Lib.hid (h.small h1.2)
      have HQ := Lib.hid (h'.small h2.2)
      have hm := h1.1
      have hm2 := h2.1
      have hmL := h.cap.1
      have hmM := h'.cap.1
      obtain ⟨T, hT⟩ : ∃ T, T = trz L := ⟨_, rfl⟩
      obtain ⟨U, hU⟩ : ∃ U, U = trz M := ⟨_, rfl⟩
      obtain ⟨x, hx⟩ : ∃ x, x = T.length := ⟨_, rfl⟩
      obtain ⟨y, hy⟩ : ∃ y, y = U.length := ⟨_, rfl⟩
      have hxl : x ≤ 13 := by rw [hx, hT]; have := trz_le L; omega
      have hyl : y ≤ 13 := by rw [hy, hU]; have := trz_le M; omega
      have hyp : y = pl M := by rw [hy, hU, trz_len]
      have E := Lib.hid (show trz L = T ∧ trz M = U ∧ T.length = x ∧ U.length = y from ⟨hT.symm, hU.symm, hx.symm, hy.symm⟩)
      have HAW := Lib.hid awake_any
      rcases Nat.eq_zero_or_pos y with hy0 | hy0
      · have HR := Lib.hid (fun W (hW : Below w.heap.size w W) => prest_zero (.slice A m c) B m2 c2 M 10 W (HQ.out.bel hW) (by rw [← hU]; exact List.eq_nil_of_length_eq_zero (by omega)))
        have hyz : ((y : Int) == 0) = true := by simp; omega
        clear h h' h1 h2 hmL hmM hT hU hx hy hyp hy0
        go_enter Try.func5, Try.ntmps5
        go_wp2_with (first
          | (go_at_call 7; (with_reducible refine (HAW.out _).mono ?_); rintro e w1 ⟨rfl, hb⟩; have HB := Lib.hid hb; clear hb)
          | (go_at_call 8; (with_reducible refine (H1.out _ HB.out).mono ?_); rintro e w2 ⟨rfl, hb⟩; have HB := Lib.hid (bel_tr HB.out hb); clear hb)
          | (go_at_call 8; (with_reducible refine (H2.out _ HB.out).mono ?_); rintro e w3 ⟨rfl, hb⟩; have HB := Lib.hid (bel_tr HB.out hb); clear hb)
          | (go_at_call 27; (with_reducible refine (HR.out _ HB.out).mono ?_); rintro e w3 ⟨rfl, hb⟩; have HB := Lib.hid (bel_tr HB.out hb); clear hb)
          | (go_at_call 9; (with_reducible refine (from5_any A m c L 10 _ (HP.out.bel HB.out) (by omega) (by omega)).mono ?_); rintro e w4 he; rw [E.out.1] at he; obtain ⟨Ax, cx, rfl, hp, hb⟩ := he; rw [E.out.2.2.1] at hp ⊢; have HB := Lib.hid (bel_tr HB.out hb); clear hp hb)
          | (go_at_call 9; (with_reducible refine (from5_any B m2 c2 M 10 _ (HQ.out.bel HB.out) (by omega) (by omega)).mono ?_); rintro e w5 he; rw [E.out.2.1] at he; obtain ⟨Ay, cy, rfl, hp, hb⟩ := he; rw [E.out.2.2.2] at hp ⊢; have HB := Lib.hid (bel_tr HB.out hb); clear hp hb))
        go_ret
        exact ⟨rfl, HB.out⟩
      · obtain ⟨R, hR⟩ : ∃ R, R = restP T U := ⟨_, rfl⟩
        obtain ⟨nR, hnR⟩ : ∃ nR, nR = R.length := ⟨_, rfl⟩
        have hlt : nR < y := by rw [hnR, hR, hy]; exact restP_lt (by omega)
        have hlt1 : nR ≤ 1000 := by omega
        have HR := Lib.hid (fun W (hW : Below w.heap.size w W) => prest_yes A B m c m2 c2 L M 10 10 W (HP.out.bel hW) (HQ.out.bel hW) (by omega) (by omega) (by omega) (by omega) (by omega))
        rw [← hT, ← hU, ← hR] at HR
        have HRR := Lib.hid (fun W Ax cx Ay cy (hp : Pol .n W (.slice Ax x cx) T 20) (hq : Pol .n W (.slice Ay y cy) U 20) => rrest5_any Ax Ay x cx y cy (y - 1) T U 20 20 W hp hq (by omega) (by omega) (by omega) (by omega) (by omega))
        rw [← hR] at HRR
        have HNR := Lib.hid hnR.symm
        have hyz : ((y : Int) == 0) = false := by simp; omega
        clear h h' h1 h2 hmL hmM hT hU hx hy hyp hR hnR
        go_enter Try.func5, Try.ntmps5
        go_wp2_with (first
          | (go_at_call 7; (with_reducible refine (HAW.out _).mono ?_); rintro e w1 ⟨rfl, hb⟩; have HB := Lib.hid hb; clear hb)
          | (go_at_call 8; (with_reducible refine (H1.out _ HB.out).mono ?_); rintro e w2 ⟨rfl, hb⟩; have HB := Lib.hid (bel_tr HB.out hb); clear hb)
          | (go_at_call 8; (with_reducible refine (H2.out _ HB.out).mono ?_); rintro e w3 ⟨rfl, hb⟩; have HB := Lib.hid (bel_tr HB.out hb); clear hb)
          | (go_at_call 27; (with_reducible refine (HR.out _ HB.out).mono ?_); rintro e w3 ⟨Ar, cr, rfl, hq, hb⟩; rw [HNR.out] at hq ⊢; have HG := Lib.hid hq; have HB := Lib.hid (bel_tr HB.out hb); clear hb hq)
          | (go_at_call 9; (with_reducible refine (from5_any A m c L 10 _ (HP.out.bel HB.out) (by omega) (by omega)).mono ?_); rintro e w4 he; rw [E.out.1] at he; obtain ⟨Ax, cx, rfl, hp, hb⟩ := he; rw [E.out.2.2.1] at hp ⊢; have HX := Lib.hid hp; have HG := Lib.hid (HG.out.bel hb); have HB := Lib.hid (bel_tr HB.out hb); clear hp hb)
          | (go_at_call 9; (with_reducible refine (from5_any B m2 c2 M 10 _ (HQ.out.bel HB.out) (by omega) (by omega)).mono ?_); rintro e w5 he; rw [E.out.2.1] at he; obtain ⟨Ay, cy, rfl, hp, hb⟩ := he; rw [E.out.2.2.2] at hp ⊢; have HS := Lib.hid (show LxS w w5 (.slice Ax x cx) (.slice Ay y cy) T U from ⟨bel_tr HB.out hb, HX.out.bel hb, hp⟩); have HG := Lib.hid (HG.out.bel hb); clear hp hb)
          | (go_at_call 28; (with_reducible refine (HRR.out _ Ax cx Ay cy HS.out.px HS.out.py).mono ?_); rintro e w6 ⟨Az, cz, rfl, hq, hb⟩; rw [HNR.out] at hq ⊢; have HG2 := Lib.hid hq; have HG := Lib.hid (HG.out.bel hb); have HS := Lib.hid (HS.out.next hb); clear hq hb)
          | (go_at_call 10; (with_reducible refine (same5_any Ar Az nR cr cz R (10 + 20101) (20 + 40201) _ HG.out HG2.out hlt1 (by omega) (by omega)).mono ?_); rintro e w7 ⟨rfl, hb⟩; have HS := Lib.hid (HS.out.next hb); clear hb))
        go_ret
        exact ⟨rfl, HS.out.bel⟩
    · have H2 := Lib.hid (fun W hW => small5_no B m2 c2 M k w W h' hW h2)
      have HAW := Lib.hid awake_any
      clear h h' h1 h2
      go_enter Try.func5, Try.ntmps5
      go_wp2_with (first
        | (go_at_call 7; (with_reducible refine (HAW.out _).mono ?_); rintro e w1 ⟨rfl, hb⟩; have HB := Lib.hid hb; clear hb)
        | (go_at_call 8; (with_reducible refine (H1.out _ HB.out).mono ?_); rintro e w2 ⟨rfl, hb⟩; have HB := Lib.hid (bel_tr HB.out hb); clear hb)
        | (go_at_call 8; (with_reducible refine (H2.out _ HB.out).mono ?_); rintro e w3 ⟨rfl, hb⟩; have HB := Lib.hid (bel_tr HB.out hb); clear hb))
      go_ret
      exact ⟨rfl, HB.out⟩
  · have H1 := Lib.hid (fun W hW => small5_no A m c L l w W h hW h1)
    have HAW := Lib.hid awake_any
    clear h h' h1
    go_enter Try.func5, Try.ntmps5
    go_wp2_with (first
      | (go_at_call 7; (with_reducible refine (HAW.out _).mono ?_); rintro e w1 ⟨rfl, hb⟩; have HB := Lib.hid hb; clear hb)
      | (go_at_call 8; (with_reducible refine (H1.out _ HB.out).mono ?_); rintro e w2 ⟨rfl, hb⟩; have HB := Lib.hid (bel_tr HB.out hb); clear hb))
    go_ret
    exact ⟨rfl, HB.out⟩
end Go.Proofs.Ytfjlgemobkkhoaa
