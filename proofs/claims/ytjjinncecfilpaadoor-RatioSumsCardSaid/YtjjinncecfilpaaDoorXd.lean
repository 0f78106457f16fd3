/- Proved here: what the document's division of layer 3 answers and leaves in memory. Condition: numbers from 0 on in their one form, of at most 1000 digits, that lie in memory, the second one above 0. -/
import Derived.Test.YtjjinncecfilpaaDoorXc
import Derived.IntWalk
namespace Go.Proofs.YtjjinncecfilpaaDoor
open Go.RowKit

set_option maxHeartbeats 8000000 in
set_option maxRecDepth 100000 in
theorem divide_core (na nb : Bool) (v u : Value) (xs ys : List Nat) (w : World) (hv : Arr w .u64 v xs) (hu : Arr w .u64 u ys) (hx : Dg xs) (hy : Dg ys) (hcy : Can nb ys) (hxl : xs.length ≤ 1000) (hyl : ys.length ≤ 1000) (hN0 : 0 < sv nb (dv ys)) :
    Calls Tryd.prog 64 #[.agg #[.bool na, v], .agg #[.bool nb, u]] w (DivN (dv xs) (dv ys) xs.length ys.length w) := by
  obtain ⟨A, c, rfl⟩ := hv.slice
  obtain ⟨B, cb, rfl⟩ := hu.slice
  obtain ⟨N, hN⟩ : ∃ N, N = dv ys := ⟨_, rfl⟩
  have hNv : sv nb (dv ys) = (N : Int) := by rw [hN]; cases nb <;> simp [sv] at hN0 ⊢ <;> omega
  have HBN := Lib.hid (show NumC w (.agg #[.bool nb, .slice B ys.length cb]) (N : Int) ys.length from ⟨nb, _, ys, rfl, hu, hy, hcy, Nat.le_refl _, hNv⟩)
  have HN := Lib.hid (show 0 < N ∧ N < 65536 ^ ys.length from ⟨by rw [← hN] at hN0; cases nb <;> simp [sv] at hN0 <;> omega, by rw [hN]; exact dv_lt hy⟩)
  obtain ⟨p, hp⟩ : ∃ p, p = xs.length := ⟨_, rfl⟩
  obtain ⟨pb, hpb⟩ : ∃ pb, pb = ys.length := ⟨_, rfl⟩
  rw [← hp] at hv hxl ⊢
  rw [← hpb] at HBN HN hyl ⊢
  rw [← hN]
  obtain ⟨o, ho⟩ : ∃ o, o = pb := ⟨_, rfl⟩
  have HBN := Lib.hid (show NumC w (.agg #[.bool nb, .slice B pb cb]) (N : Int) o by rw [ho]; exact HBN.out)
  have HN := Lib.hid (show 0 < N ∧ N < 65536 ^ o by rw [ho]; exact HN.out)
  have HOE := Lib.hid (show o = pb from ho)
  have hol : o ≤ 1000 := by omega
  have HV := Lib.hid hv
  have HX := Lib.hid (And.intro hx hp)
  have HO1 := Lib.hid (fun W => rof_any 1 W (by decide) (by decide))
  have HA := Lib.hid (show dv xs < 65536 ^ p by rw [hp]; exact dv_lt hx)
  have L0 := Lib.hid (EeH.start (na := na) (va := .slice A p c) (nb := nb) (vb := .slice B pb cb) (N := N) (lb := o) w HV.out HBN.out)
  have L1 := Lib.hid (L0.out.vals (Q' := ((dv xs / 2 ^ (16 * p) / N : Nat) : Int)) (R' := ((dv xs / 2 ^ (16 * p) % N : Nat) : Int)) (lq' := p) (lr' := o)
    ((L0.out.Q.eqv (by rw [Nat.div_eq_of_lt (show dv xs < 2 ^ (16 * p) by rw [Nat.pow_mul]; exact HA.out)]; simp)).le (Nat.zero_le _)) ((L0.out.R.eqv (by rw [Nat.div_eq_of_lt (show dv xs < 2 ^ (16 * p) by rw [Nat.pow_mul]; exact HA.out)]; simp)).le (Nat.zero_le _)))
  clear hv hx hp hu hy hcy hN hNv hN0 ho hpb L0
  obtain ⟨f1, f2, f3, f4, f5, f6, f7, f8⟩ := L1.out.facts
  go_enter Tryd.func64, Tryd.ntmps64
  go_wp2_with fail
  clear f1 f2 f3 f4 f5 f6 f7 f8
  go_loopw [8] (fun i wr => ∃ (k : Nat) (y : Int) (bq : Bool) (Cq : Option Addr) (rq qq : Nat) (br : Bool) (Cr : Option Addr) (rr qr : Nat), i = .int .i64 y ∧ y = (k : Int) - 1 ∧ k ≤ 16 * p ∧
    EeH w wr na (.slice A p c) nb (.slice B pb cb) bq (.slice Cq rq qq) br (.slice Cr rr qr) xs N ((dv xs / 2 ^ k / N : Nat) : Int) ((dv xs / 2 ^ k % N : Nat) : Int) o p o false (.slice none 0 0) false (.slice none 0 0)) (fun i _ => (intOf i + 1).toNat)
  case atStart => exact ⟨16 * p, 16 * (p : Int) - 1, false, none, 0, 0, false, none, 0, 0, rfl, by omega, Nat.le_refl _, L1.out⟩
  case round =>
    obtain ⟨k, y, bq, Cq, rq, qq, br, Cr, rr, qr, rfl, hy, hk, hr⟩ := hrel
    have L := Lib.hid hr
    obtain ⟨f1, f2, f3, f4, f5, f6, f7, f8⟩ := hr.facts
    clear L1
    rcases k with _ | k
    · obtain rfl : y = -1 := by omega
      obtain ⟨k1, k2, k3, k4, k5, k6, k7, k8⟩ := hr.res
      clear hr hy
      go_wp2_with fail
      go_region
      all_goals
        go_wp2_with fail
        have K := (EeH.put2 (m := br) (z := .slice Cr rr qr) (EeH.put1 (m := bq) (z := .slice Cq rq qq) L.out)).drew
        have h1 := K.Q
        have h2 := K.R
        simp only [Nat.pow_zero, Nat.div_one] at h1 h2
        rw [HOE.out] at h2
        exact bodyPost_ret (ret_bx28_28 rfl rfl rfl K.r1 K.r2) rfl ⟨_, _, rfl, h1, h2, K.bel⟩
    · obtain rfl : y = (k : Int) := by omega
      clear hr hy
      obtain ⟨g1, g2, g3, g4⟩ := L.out.frs
      obtain ⟨Q, hQ⟩ : ∃ Q, Q = dv xs / 2 ^ (k + 1) / N := ⟨_, rfl⟩
      obtain ⟨R, hR⟩ : ∃ R, R = dv xs / 2 ^ (k + 1) % N := ⟨_, rfl⟩
      obtain ⟨t, ht⟩ : ∃ t, t = dv xs / 2 ^ k % 2 := ⟨_, rfl⟩
      have hst := div_step (dv xs) N k HN.out.1
      rw [← hQ, ← hR, ← ht] at hst
      rw [← hQ, ← hR] at L
      have hRN : R < N := by rw [hR]; exact Nat.mod_lt _ HN.out.1
      have ht2 : t < 2 := by rw [ht]; exact Nat.mod_lt _ (by decide)
      have hbit := bit_dat HX.out.1 k
      rw [← ht] at hbit
      obtain ⟨d, hd⟩ : ∃ d, d = k / 16 := ⟨_, rfl⟩
      obtain ⟨b, hb⟩ : ∃ b, b = k % 16 := ⟨_, rfl⟩
      rw [← hd, ← hb] at hbit
      have hdp : d < p := by omega
      have hb16 : b < 16 := by omega
      have hdl : dat xs d < 65536 := HX.out.1 d
      have F1 : (k : Int) / 16 = (d : Int) := by omega
      have F2 : (k : Int) % 16 = (b : Int) := by omega
      have F3 : ((dat xs d : Int) / 2 ^ b).tmod 2 = (t : Int) := by rw [bit_eq, hbit]
      obtain ⟨ad, rfl, _, _⟩ := L.out.A.get d (by rw [← HX.out.2]; exact hdp)
      have HG := Lib.hid (show ∀ W, Arr W .u64 (.slice (some ad) p c) xs → W.cell? (ad.add d) = some (.int .u64 (dat xs d : Int)) from fun W h => by
        obtain ⟨ad', h1, _, h2⟩ := h.get d (by rw [← HX.out.2]; exact hdp)
        injection h1 with h1
        rw [h1]
        exact h2)
      have HST := Lib.hid hst
      have HRN := Lib.hid hRN
      clear hQ hR ht hst hRN hbit hd hb
      rcases Nat.lt_or_ge t 1 with ht1 | ht1
      · have HT0 := Lib.hid (show t = 0 by omega)
        have hb1 : ((t : Int) == 1) = false := by simp; omega
        obtain ⟨cc, hcc⟩ : ∃ cc, cc = cmpI ((R : Int) + (R : Int)) (N : Int) := ⟨_, rfl⟩
        have HC := Lib.hid hcc
        by_cases hle : N ≤ 2 * R + t
        · have HLE := Lib.hid (show N ≤ 2 * R + t from hle)
          have hdc : decide (0 ≤ cc) = true := decide_eq_true (by rw [hcc]; unfold cmpI; split <;> (try split) <;> omega)
          clear hle hcc
          go_wp2_with (first
            | (go_at_call 45; (with_reducible refine (radd_any (.agg #[.bool bq, .slice Cq rq qq]) (.agg #[.bool bq, .slice Cq rq qq]) (Q : Int) (Q : Int) p p _ L.out.Q L.out.Q (by omega) (by omega)).mono ?_); rintro e w2 he; obtain ⟨bw2, Cw2, pw2, qw2, zw2, rfl, hs, hb⟩ := he.open_; have L := Lib.hid (L.out.next hb); (try clear f1 f2 f3 f4 f5 f6 f7 f8 g1 g2 g3 g4); obtain ⟨f1, f2, f3, f4, f5, f6, f7, f8⟩ := L.out.facts; obtain ⟨g1, g2, g3, g4⟩ := L.out.frs; have L := Lib.hid (EeH.putq (m := bw2) (z := .slice Cw2 pw2 qw2) L.out ⟨bw2, _, zw2, rfl, hs⟩); clear he hs hb)
            | (go_at_call 45; (with_reducible refine (radd_any (.agg #[.bool br, .slice Cr rr qr]) (.agg #[.bool br, .slice Cr rr qr]) (R : Int) (R : Int) o o _ L.out.R L.out.R (by omega) (by omega)).mono ?_); rintro e w3 he; obtain ⟨bw3, Cw3, pw3, qw3, zw3, rfl, hs, hb⟩ := he.open_; have L := Lib.hid (L.out.next hb); (try clear f1 f2 f3 f4 f5 f6 f7 f8 g1 g2 g3 g4); obtain ⟨f1, f2, f3, f4, f5, f6, f7, f8⟩ := L.out.facts; obtain ⟨g1, g2, g3, g4⟩ := L.out.frs; have L := Lib.hid (EeH.putr (m := bw3) (z := .slice Cw3 pw3 qw3) L.out ⟨bw3, _, zw3, rfl, hs⟩); have hxc := HG.out _ L.out.A; clear he hs hb)
            | (go_at_call 49; (with_reducible refine (rcmp_any (.agg #[.bool bw3, .slice Cw3 pw3 qw3]) (.agg #[.bool nb, .slice B pb cb]) ((R : Int) + (R : Int)) (N : Int) (max o o + 1) o _ L.out.R L.out.B (by omega) (by omega)).mono ?_); rintro e w6 ⟨he, hb⟩; rw [← HC.out] at he; subst he; have L := Lib.hid (L.out.next hb); clear f1 f2 f3 f4 f5 f6 f7 f8 g1 g2 g3 g4; obtain ⟨f1, f2, f3, f4, f5, f6, f7, f8⟩ := L.out.facts; obtain ⟨g1, g2, g3, g4⟩ := L.out.frs; clear hb)
            | (go_at_call 47; (with_reducible refine (rsub_any (.agg #[.bool bw3, .slice Cw3 pw3 qw3]) (.agg #[.bool nb, .slice B pb cb]) ((R : Int) + (R : Int)) (N : Int) (max o o + 1) o _ L.out.R L.out.B (by omega) (by omega)).mono ?_); rintro e w7 he; obtain ⟨bw7, Cw7, pw7, qw7, zw7, rfl, hs, hb⟩ := he.open_; have L := Lib.hid (L.out.next hb); (try clear f1 f2 f3 f4 f5 f6 f7 f8 g1 g2 g3 g4); obtain ⟨f1, f2, f3, f4, f5, f6, f7, f8⟩ := L.out.facts; obtain ⟨g1, g2, g3, g4⟩ := L.out.frs; have L := Lib.hid (EeH.putr (m := bw7) (z := .slice Cw7 pw7 qw7) L.out ⟨bw7, _, zw7, rfl, hs⟩); clear he hs hb))
          go_region_with (first
            | (go_at_call 51; (with_reducible refine (HO1.out _).mono ?_); rintro e w8 ⟨Zw8, rfl, hz, hb⟩; have HZ := Lib.hid hz; have L := Lib.hid (L.out.drew.next hb); (try clear f1 f2 f3 f4 f5 f6 f7 f8 g1 g2 g3 g4); obtain ⟨f1, f2, f3, f4, f5, f6, f7, f8⟩ := L.out.facts; obtain ⟨g1, g2, g3, g4⟩ := L.out.frs; clear hz hb)
            | (go_at_call 45; (with_reducible refine (radd_any (.agg #[.bool bw2, .slice Cw2 pw2 qw2]) Zw8 ((Q : Int) + (Q : Int)) 1 (max p p + 1) 4 _ L.out.Q HZ.out (by omega) (by omega)).mono ?_); rintro e w9 he; obtain ⟨bw9, Cw9, pw9, qw9, zw9, rfl, hs, hb⟩ := he.open_; have L := Lib.hid (L.out.next hb); (try clear f1 f2 f3 f4 f5 f6 f7 f8 g1 g2 g3 g4); obtain ⟨f1, f2, f3, f4, f5, f6, f7, f8⟩ := L.out.facts; obtain ⟨g1, g2, g3, g4⟩ := L.out.frs; have L := Lib.hid (EeH.putq (m := bw9) (z := .slice Cw9 pw9 qw9) L.out ⟨bw9, _, zw9, rfl, hs⟩); clear he hs hb))
          all_goals go_wp2_with fail
          all_goals have HE := Lib.hid (HST.out.1 HLE.out)
          all_goals exact ⟨⟨k, (k : Int) - 1, bw9, Cw9, pw9, qw9, bw7, Cw7, pw7, qw7, by simp, rfl, by omega, L.out.vals
            ((L.out.Q.eqv (by rw [HE.out.1]; omega)).short_ (Nat.lt_of_le_of_lt (Nat.le_trans (Nat.div_le_self _ _) (Nat.div_le_self _ _)) HA.out))
            ((L.out.R.eqv (by have := HT0.out; have := HLE.out; rw [HE.out.2]; omega)).short_ (Nat.lt_trans (Nat.mod_lt _ HN.out.1) HN.out.2))⟩, by simp [intOf]⟩

        · have HLE := Lib.hid (show ¬ N ≤ 2 * R + t from hle)
          have hdc : decide (0 ≤ cc) = false := decide_eq_false (by rw [hcc]; unfold cmpI; split <;> (try split) <;> omega)
          clear hle hcc
          go_wp2_with (first
            | (go_at_call 45; (with_reducible refine (radd_any (.agg #[.bool bq, .slice Cq rq qq]) (.agg #[.bool bq, .slice Cq rq qq]) (Q : Int) (Q : Int) p p _ L.out.Q L.out.Q (by omega) (by omega)).mono ?_); rintro e w2 he; obtain ⟨bw2, Cw2, pw2, qw2, zw2, rfl, hs, hb⟩ := he.open_; have L := Lib.hid (L.out.next hb); (try clear f1 f2 f3 f4 f5 f6 f7 f8 g1 g2 g3 g4); obtain ⟨f1, f2, f3, f4, f5, f6, f7, f8⟩ := L.out.facts; obtain ⟨g1, g2, g3, g4⟩ := L.out.frs; have L := Lib.hid (EeH.putq (m := bw2) (z := .slice Cw2 pw2 qw2) L.out ⟨bw2, _, zw2, rfl, hs⟩); clear he hs hb)
            | (go_at_call 45; (with_reducible refine (radd_any (.agg #[.bool br, .slice Cr rr qr]) (.agg #[.bool br, .slice Cr rr qr]) (R : Int) (R : Int) o o _ L.out.R L.out.R (by omega) (by omega)).mono ?_); rintro e w3 he; obtain ⟨bw3, Cw3, pw3, qw3, zw3, rfl, hs, hb⟩ := he.open_; have L := Lib.hid (L.out.next hb); (try clear f1 f2 f3 f4 f5 f6 f7 f8 g1 g2 g3 g4); obtain ⟨f1, f2, f3, f4, f5, f6, f7, f8⟩ := L.out.facts; obtain ⟨g1, g2, g3, g4⟩ := L.out.frs; have L := Lib.hid (EeH.putr (m := bw3) (z := .slice Cw3 pw3 qw3) L.out ⟨bw3, _, zw3, rfl, hs⟩); have hxc := HG.out _ L.out.A; clear he hs hb)
            | (go_at_call 49; (with_reducible refine (rcmp_any (.agg #[.bool bw3, .slice Cw3 pw3 qw3]) (.agg #[.bool nb, .slice B pb cb]) ((R : Int) + (R : Int)) (N : Int) (max o o + 1) o _ L.out.R L.out.B (by omega) (by omega)).mono ?_); rintro e w6 ⟨he, hb⟩; rw [← HC.out] at he; subst he; have L := Lib.hid (L.out.next hb); clear f1 f2 f3 f4 f5 f6 f7 f8 g1 g2 g3 g4; obtain ⟨f1, f2, f3, f4, f5, f6, f7, f8⟩ := L.out.facts; obtain ⟨g1, g2, g3, g4⟩ := L.out.frs; clear hb)
            | (go_at_call 47; (with_reducible refine (rsub_any (.agg #[.bool bw3, .slice Cw3 pw3 qw3]) (.agg #[.bool nb, .slice B pb cb]) ((R : Int) + (R : Int)) (N : Int) (max o o + 1) o _ L.out.R L.out.B (by omega) (by omega)).mono ?_); rintro e w7 he; obtain ⟨bw7, Cw7, pw7, qw7, zw7, rfl, hs, hb⟩ := he.open_; have L := Lib.hid (L.out.next hb); (try clear f1 f2 f3 f4 f5 f6 f7 f8 g1 g2 g3 g4); obtain ⟨f1, f2, f3, f4, f5, f6, f7, f8⟩ := L.out.facts; obtain ⟨g1, g2, g3, g4⟩ := L.out.frs; have L := Lib.hid (EeH.putr (m := bw7) (z := .slice Cw7 pw7 qw7) L.out ⟨bw7, _, zw7, rfl, hs⟩); clear he hs hb))
          all_goals have HE := Lib.hid (HST.out.2 (Nat.lt_of_not_le HLE.out))
          all_goals exact ⟨⟨k, (k : Int) - 1, bw2, Cw2, pw2, qw2, bw3, Cw3, pw3, qw3, by simp, rfl, by omega, L.out.vals
            ((L.out.Q.eqv (by rw [HE.out.1]; omega)).short_ (Nat.lt_of_le_of_lt (Nat.le_trans (Nat.div_le_self _ _) (Nat.div_le_self _ _)) HA.out))
            ((L.out.R.eqv (by have := HT0.out; have := HLE.out; rw [HE.out.2]; omega)).short_ (Nat.lt_trans (Nat.mod_lt _ HN.out.1) HN.out.2))⟩, by simp [intOf]⟩


      · have HT0 := Lib.hid (show t = 1 by omega)
        have hb1 : ((t : Int) == 1) = true := by simp; omega
        obtain ⟨cc, hcc⟩ : ∃ cc, cc = cmpI ((R : Int) + (R : Int) + 1) (N : Int) := ⟨_, rfl⟩
        have HC := Lib.hid hcc
        by_cases hle : N ≤ 2 * R + t
        · have HLE := Lib.hid (show N ≤ 2 * R + t from hle)
          have hdc : decide (0 ≤ cc) = true := decide_eq_true (by rw [hcc]; unfold cmpI; split <;> (try split) <;> omega)
          clear hle hcc
          go_wp2_with (first
            | (go_at_call 45; (with_reducible refine (radd_any (.agg #[.bool bq, .slice Cq rq qq]) (.agg #[.bool bq, .slice Cq rq qq]) (Q : Int) (Q : Int) p p _ L.out.Q L.out.Q (by omega) (by omega)).mono ?_); rintro e w2 he; obtain ⟨bw2, Cw2, pw2, qw2, zw2, rfl, hs, hb⟩ := he.open_; have L := Lib.hid (L.out.next hb); (try clear f1 f2 f3 f4 f5 f6 f7 f8 g1 g2 g3 g4); obtain ⟨f1, f2, f3, f4, f5, f6, f7, f8⟩ := L.out.facts; obtain ⟨g1, g2, g3, g4⟩ := L.out.frs; have L := Lib.hid (EeH.putq (m := bw2) (z := .slice Cw2 pw2 qw2) L.out ⟨bw2, _, zw2, rfl, hs⟩); clear he hs hb)
            | (go_at_call 45; (with_reducible refine (radd_any (.agg #[.bool br, .slice Cr rr qr]) (.agg #[.bool br, .slice Cr rr qr]) (R : Int) (R : Int) o o _ L.out.R L.out.R (by omega) (by omega)).mono ?_); rintro e w3 he; obtain ⟨bw3, Cw3, pw3, qw3, zw3, rfl, hs, hb⟩ := he.open_; have L := Lib.hid (L.out.next hb); (try clear f1 f2 f3 f4 f5 f6 f7 f8 g1 g2 g3 g4); obtain ⟨f1, f2, f3, f4, f5, f6, f7, f8⟩ := L.out.facts; obtain ⟨g1, g2, g3, g4⟩ := L.out.frs; have L := Lib.hid (EeH.putr (m := bw3) (z := .slice Cw3 pw3 qw3) L.out ⟨bw3, _, zw3, rfl, hs⟩); have hxc := HG.out _ L.out.A; clear he hs hb))
          clear hxc
          go_region_with (first
            | (go_at_call 51; (with_reducible refine (HO1.out _).mono ?_); rintro e w4 ⟨Zw4, rfl, hz, hb⟩; have HZ := Lib.hid hz; have L := Lib.hid (L.out.drew.next hb); (try clear f1 f2 f3 f4 f5 f6 f7 f8 g1 g2 g3 g4); obtain ⟨f1, f2, f3, f4, f5, f6, f7, f8⟩ := L.out.facts; obtain ⟨g1, g2, g3, g4⟩ := L.out.frs; clear hz hb)
            | (go_at_call 45; (with_reducible refine (radd_any (.agg #[.bool bw3, .slice Cw3 pw3 qw3]) Zw4 ((R : Int) + (R : Int)) 1 (max o o + 1) 4 _ L.out.R HZ.out (by omega) (by omega)).mono ?_); rintro e w5 he; obtain ⟨bw5, Cw5, pw5, qw5, zw5, rfl, hs, hb⟩ := he.open_; have L := Lib.hid (L.out.next hb); (try clear f1 f2 f3 f4 f5 f6 f7 f8 g1 g2 g3 g4); obtain ⟨f1, f2, f3, f4, f5, f6, f7, f8⟩ := L.out.facts; obtain ⟨g1, g2, g3, g4⟩ := L.out.frs; have L := Lib.hid (EeH.putr (m := bw5) (z := .slice Cw5 pw5 qw5) L.out ⟨bw5, _, zw5, rfl, hs⟩); clear he hs hb))
          all_goals go_wp2_with (first
            | (go_at_call 49; (with_reducible refine (rcmp_any (.agg #[.bool bw5, .slice Cw5 pw5 qw5]) (.agg #[.bool nb, .slice B pb cb]) ((R : Int) + (R : Int) + 1) (N : Int) (max (max o o + 1) 4 + 1) o _ L.out.R L.out.B (by omega) (by omega)).mono ?_); rintro e w6 ⟨he, hb⟩; rw [← HC.out] at he; subst he; have L := Lib.hid (L.out.next hb); clear f1 f2 f3 f4 f5 f6 f7 f8 g1 g2 g3 g4; obtain ⟨f1, f2, f3, f4, f5, f6, f7, f8⟩ := L.out.facts; obtain ⟨g1, g2, g3, g4⟩ := L.out.frs; clear hb)
            | (go_at_call 47; (with_reducible refine (rsub_any (.agg #[.bool bw5, .slice Cw5 pw5 qw5]) (.agg #[.bool nb, .slice B pb cb]) ((R : Int) + (R : Int) + 1) (N : Int) (max (max o o + 1) 4 + 1) o _ L.out.R L.out.B (by omega) (by omega)).mono ?_); rintro e w7 he; obtain ⟨bw7, Cw7, pw7, qw7, zw7, rfl, hs, hb⟩ := he.open_; have L := Lib.hid (L.out.next hb); (try clear f1 f2 f3 f4 f5 f6 f7 f8 g1 g2 g3 g4); obtain ⟨f1, f2, f3, f4, f5, f6, f7, f8⟩ := L.out.facts; obtain ⟨g1, g2, g3, g4⟩ := L.out.frs; have L := Lib.hid (EeH.putr (m := bw7) (z := .slice Cw7 pw7 qw7) L.out ⟨bw7, _, zw7, rfl, hs⟩); clear he hs hb))
          all_goals go_region_with (first
            | (go_at_call 51; (with_reducible refine (HO1.out _).mono ?_); rintro e w8 ⟨Zw8, rfl, hz, hb⟩; have HZ := Lib.hid hz; have L := Lib.hid (L.out.drew.next hb); (try clear f1 f2 f3 f4 f5 f6 f7 f8 g1 g2 g3 g4); obtain ⟨f1, f2, f3, f4, f5, f6, f7, f8⟩ := L.out.facts; obtain ⟨g1, g2, g3, g4⟩ := L.out.frs; clear hz hb)
            | (go_at_call 45; (with_reducible refine (radd_any (.agg #[.bool bw2, .slice Cw2 pw2 qw2]) Zw8 ((Q : Int) + (Q : Int)) 1 (max p p + 1) 4 _ L.out.Q HZ.out (by omega) (by omega)).mono ?_); rintro e w9 he; obtain ⟨bw9, Cw9, pw9, qw9, zw9, rfl, hs, hb⟩ := he.open_; have L := Lib.hid (L.out.next hb); (try clear f1 f2 f3 f4 f5 f6 f7 f8 g1 g2 g3 g4); obtain ⟨f1, f2, f3, f4, f5, f6, f7, f8⟩ := L.out.facts; obtain ⟨g1, g2, g3, g4⟩ := L.out.frs; have L := Lib.hid (EeH.putq (m := bw9) (z := .slice Cw9 pw9 qw9) L.out ⟨bw9, _, zw9, rfl, hs⟩); clear he hs hb))
          all_goals go_wp2_with fail
          all_goals have HE := Lib.hid (HST.out.1 HLE.out)
          all_goals exact ⟨⟨k, (k : Int) - 1, bw9, Cw9, pw9, qw9, bw7, Cw7, pw7, qw7, by simp, rfl, by omega, L.out.vals
            ((L.out.Q.eqv (by rw [HE.out.1]; omega)).short_ (Nat.lt_of_le_of_lt (Nat.le_trans (Nat.div_le_self _ _) (Nat.div_le_self _ _)) HA.out))
            ((L.out.R.eqv (by have := HT0.out; have := HLE.out; rw [HE.out.2]; omega)).short_ (Nat.lt_trans (Nat.mod_lt _ HN.out.1) HN.out.2))⟩, by simp [intOf]⟩

        · have HLE := Lib.hid (show ¬ N ≤ 2 * R + t from hle)
          have hdc : decide (0 ≤ cc) = false := decide_eq_false (by rw [hcc]; unfold cmpI; split <;> (try split) <;> omega)
          clear hle hcc
          go_wp2_with (first
            | (go_at_call 45; (with_reducible refine (radd_any (.agg #[.bool bq, .slice Cq rq qq]) (.agg #[.bool bq, .slice Cq rq qq]) (Q : Int) (Q : Int) p p _ L.out.Q L.out.Q (by omega) (by omega)).mono ?_); rintro e w2 he; obtain ⟨bw2, Cw2, pw2, qw2, zw2, rfl, hs, hb⟩ := he.open_; have L := Lib.hid (L.out.next hb); (try clear f1 f2 f3 f4 f5 f6 f7 f8 g1 g2 g3 g4); obtain ⟨f1, f2, f3, f4, f5, f6, f7, f8⟩ := L.out.facts; obtain ⟨g1, g2, g3, g4⟩ := L.out.frs; have L := Lib.hid (EeH.putq (m := bw2) (z := .slice Cw2 pw2 qw2) L.out ⟨bw2, _, zw2, rfl, hs⟩); clear he hs hb)
            | (go_at_call 45; (with_reducible refine (radd_any (.agg #[.bool br, .slice Cr rr qr]) (.agg #[.bool br, .slice Cr rr qr]) (R : Int) (R : Int) o o _ L.out.R L.out.R (by omega) (by omega)).mono ?_); rintro e w3 he; obtain ⟨bw3, Cw3, pw3, qw3, zw3, rfl, hs, hb⟩ := he.open_; have L := Lib.hid (L.out.next hb); (try clear f1 f2 f3 f4 f5 f6 f7 f8 g1 g2 g3 g4); obtain ⟨f1, f2, f3, f4, f5, f6, f7, f8⟩ := L.out.facts; obtain ⟨g1, g2, g3, g4⟩ := L.out.frs; have L := Lib.hid (EeH.putr (m := bw3) (z := .slice Cw3 pw3 qw3) L.out ⟨bw3, _, zw3, rfl, hs⟩); have hxc := HG.out _ L.out.A; clear he hs hb))
          clear hxc
          go_region_with (first
            | (go_at_call 51; (with_reducible refine (HO1.out _).mono ?_); rintro e w4 ⟨Zw4, rfl, hz, hb⟩; have HZ := Lib.hid hz; have L := Lib.hid (L.out.drew.next hb); (try clear f1 f2 f3 f4 f5 f6 f7 f8 g1 g2 g3 g4); obtain ⟨f1, f2, f3, f4, f5, f6, f7, f8⟩ := L.out.facts; obtain ⟨g1, g2, g3, g4⟩ := L.out.frs; clear hz hb)
            | (go_at_call 45; (with_reducible refine (radd_any (.agg #[.bool bw3, .slice Cw3 pw3 qw3]) Zw4 ((R : Int) + (R : Int)) 1 (max o o + 1) 4 _ L.out.R HZ.out (by omega) (by omega)).mono ?_); rintro e w5 he; obtain ⟨bw5, Cw5, pw5, qw5, zw5, rfl, hs, hb⟩ := he.open_; have L := Lib.hid (L.out.next hb); (try clear f1 f2 f3 f4 f5 f6 f7 f8 g1 g2 g3 g4); obtain ⟨f1, f2, f3, f4, f5, f6, f7, f8⟩ := L.out.facts; obtain ⟨g1, g2, g3, g4⟩ := L.out.frs; have L := Lib.hid (EeH.putr (m := bw5) (z := .slice Cw5 pw5 qw5) L.out ⟨bw5, _, zw5, rfl, hs⟩); clear he hs hb))
          all_goals go_wp2_with (first
            | (go_at_call 49; (with_reducible refine (rcmp_any (.agg #[.bool bw5, .slice Cw5 pw5 qw5]) (.agg #[.bool nb, .slice B pb cb]) ((R : Int) + (R : Int) + 1) (N : Int) (max (max o o + 1) 4 + 1) o _ L.out.R L.out.B (by omega) (by omega)).mono ?_); rintro e w6 ⟨he, hb⟩; rw [← HC.out] at he; subst he; have L := Lib.hid (L.out.next hb); clear f1 f2 f3 f4 f5 f6 f7 f8 g1 g2 g3 g4; obtain ⟨f1, f2, f3, f4, f5, f6, f7, f8⟩ := L.out.facts; obtain ⟨g1, g2, g3, g4⟩ := L.out.frs; clear hb)
            | (go_at_call 47; (with_reducible refine (rsub_any (.agg #[.bool bw5, .slice Cw5 pw5 qw5]) (.agg #[.bool nb, .slice B pb cb]) ((R : Int) + (R : Int) + 1) (N : Int) (max (max o o + 1) 4 + 1) o _ L.out.R L.out.B (by omega) (by omega)).mono ?_); rintro e w7 he; obtain ⟨bw7, Cw7, pw7, qw7, zw7, rfl, hs, hb⟩ := he.open_; have L := Lib.hid (L.out.next hb); (try clear f1 f2 f3 f4 f5 f6 f7 f8 g1 g2 g3 g4); obtain ⟨f1, f2, f3, f4, f5, f6, f7, f8⟩ := L.out.facts; obtain ⟨g1, g2, g3, g4⟩ := L.out.frs; have L := Lib.hid (EeH.putr (m := bw7) (z := .slice Cw7 pw7 qw7) L.out ⟨bw7, _, zw7, rfl, hs⟩); clear he hs hb))
          all_goals have HE := Lib.hid (HST.out.2 (Nat.lt_of_not_le HLE.out))
          all_goals exact ⟨⟨k, (k : Int) - 1, bw2, Cw2, pw2, qw2, bw5, Cw5, pw5, qw5, by simp, rfl, by omega, L.out.vals
            ((L.out.Q.eqv (by rw [HE.out.1]; omega)).short_ (Nat.lt_of_le_of_lt (Nat.le_trans (Nat.div_le_self _ _) (Nat.div_le_self _ _)) HA.out))
            ((L.out.R.eqv (by have := HT0.out; have := HLE.out; rw [HE.out.2]; omega)).short_ (Nat.lt_trans (Nat.mod_lt _ HN.out.1) HN.out.2))⟩, by simp [intOf]⟩



theorem divide_any (X Y : Value) (a n l k : Nat) (w : World) (hX : NumC w X (a : Int) l) (hY : NumC w Y (n : Int) k) (hl : l ≤ 1000) (hk : k ≤ 1000) (hn : 0 < n) : Calls Tryd.prog 64 #[X, Y] w (DivN a n l k w) := by
  obtain ⟨b, v, xs, rfl, hv, hx, _, hxl, hxv⟩ := hX
  obtain ⟨c, u, ys, rfl, hu, hy, hcy, hyl, hyv⟩ := hY
  have e1 : dv xs = a := by cases b <;> simp [sv] at hxv <;> omega
  have e2 : dv ys = n := by cases c <;> simp [sv] at hyv <;> omega
  have h := divide_core b c v u xs ys w hv hu hx hy hcy (by omega) (by omega) (by omega)
  rw [e1, e2] at h
  exact h.mono fun _ _ ⟨X, Y, h1, h2, h3, h4⟩ => ⟨X, Y, h1, h2.le hxl, h3.le hyl, h4⟩
end Go.Proofs.YtjjinncecfilpaaDoor
