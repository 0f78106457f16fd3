/- Proved here: what the document's Derive and Mul of polynomials answer and leave in memory. Condition: polynomials of at most 1000 numbers of at most 20000 digits, that lie in memory. -/
import Derived.Test.YtpobhegllhhdgaaGreatRb
import Derived.Test.YtpobhegllhhdgaaGreatTl
import Derived.Test.YtpobhegllhhdgaaGreatQj
namespace Go.Proofs.YtpobhegllhhdgaaGreat
open Go.RowKit

theorem der_trz (L : List Int) : derP L = trz (gen (L.length - 1) fun i => co L (i + 1) * ((i + 1 : Nat) : Int)) := by
  rw [← trz_cf (derP_cf L)]
  refine trz_ext fun i => ?_
  unfold derP
  rw [co_gen, co_gen]
  have := pl_le L
  by_cases h1 : i < pl L - 1
  · rw [if_pos h1, if_pos (by omega)]
  · rw [if_neg h1]
    split
    · rw [pl_zero L (i + 1) (by omega)]; simp
    · rfl
set_option maxRecDepth 100000 in
set_option maxHeartbeats 2000000 in
theorem rder5_any (A : Option Addr) (m c : Nat) (L : List Int) (l : Nat) (w : World) (h : Pol .n w (.slice A m c) L l) (hm : m ≤ 1000) (hl : l ≤ 50000) :
    Calls Tryz.prog 34 #[.slice A m c] w (PolE .n (derP L) (l + 5) w) := by
  have hmL := h.cap.1
  have H := Lib.hid h
  have HM := Lib.hid hmL
  obtain ⟨f, hf⟩ : ∃ f : Nat → Int, f = fun i => co L (i + 1) * ((i + 1 : Nat) : Int) := ⟨_, rfl⟩
  have HD := Lib.hid (show derP L = trz (gen (m - 1) f) by rw [hf, hmL]; exact der_trz L)
  have HF := Lib.hid (fun i => congrFun hf i)
  clear h hmL hf
  go_enter Tryz.func34, Tryz.ntmps34
  go_wp2_with fail
  go_loopw [3, 4] (fun z i wr => ∃ j : Nat, i = .int .i64 (j : Int) ∧ 1 ≤ j ∧ j ≤ max m 1 ∧ Below w.heap.size w wr ∧ Rn wr w.heap.size z (gen (j - 1) f) (l + 5)) (fun _ i _ => max m 1 - (intOf i).toNat)
  case atStart => exact ⟨1, rfl, Nat.le_refl _, by omega, Below.refl _ _, Rn.nil _ _ _⟩
  case round =>
    obtain ⟨j, rfl, hj1, hj, hb, hR⟩ := hrel
    by_cases hgo : j < m
    · obtain ⟨ad, na, Ba, pa, qa, rfl, had, hga⟩ := H.out.at_ j (by rw [← HM.out]; exact hgo)
      have HG := Lib.hid hga
      obtain ⟨⟨f0, f1⟩, he⟩ := hga _ hb
      have HE := Lib.hid he
      have HB := Lib.hid hb
      have HR := Lib.hid hR
      have HOF := Lib.hid (fun W => rof_any (j : Int) W (by omega) (by omega))
      have hji : (j : Int) < (m : Int) := by omega
      have hj0 : (0 : Int) ≤ (j : Int) := by omega
      have HT := Lib.hid (show gen (j - 1 + 1) f = gen (j - 1) f ++ [co L j * (j : Int)] by rw [gen_snoc, HF.out (j - 1), show j - 1 + 1 = j by omega])
      have HL := Lib.hid (show (gen (j - 1) f).length ≤ 1000000 by rw [gen_len]; omega)
      clear he hb hR hga
      go_wp2_with fail
      go_region_held3 (fun w' => w'.cell? (ad.add (j * 2)) = some (.bool na) ∧ w'.cell? { block := (ad.add (j * 2)).block, off := (ad.add (j * 2)).off + 1 } = some (.slice Ba pa qa))
        (first | exact ⟨f0, f1⟩ | exact (HG.out _ (HB.out.trans hb')).1 | exact (HG.out _ (bel_tr HB.out (bel_a _ _))).1)
        (first
        | (go_at_call 71; (with_reducible refine (HOF.out _).mono ?_); rintro e w2 he; obtain ⟨n2, B2, p2, q2, rfl, he1, hb⟩ := he.open1; have HE2 := Lib.hid he1; have HE := Lib.hid (HE.out.drew.bel hb); have HB := Lib.hid (bel_tr HB.out ((Below.refl _ wr).drew.trans hb)); have HR := Lib.hid (HR.out.drew.bel hb); clear he he1 hb f0 f1; obtain ⟨f0, f1⟩ := (HG.out _ HB.out).1)
        | (go_at_call 70; (with_reducible refine (rmul_any (.agg #[.bool na, .slice Ba pa qa]) (.agg #[.bool n2, .slice B2 p2 q2]) (co L j) (j : Int) l 4 _ HE.out.num_ HE2.out.num_ (by omega) (by omega)).mono ?_); rintro e w4 he; obtain ⟨n4, B4, p4, q4, rfl, he1, hb⟩ := he.open1; have HE4 := Lib.hid he1; have HB := Lib.hid (bel_tr HB.out hb); have HR := Lib.hid (HR.out.bel hb); clear he he1 hb f0 f1; have hbs := HB.out.size; obtain ⟨f0, f1⟩ := (HG.out _ HB.out).1)
        | (refine step_push rfl (.tmp 11) (.tmp 19) rfl w.heap.size u3 (gen (j - 1) f) (l + 5) n4 B4 p4 q4 (co L j * (j : Int)) rfl HR.out HE4.out hbs HL.out rfl ?_; intro v' w' hR' hb'))
      all_goals
        go_wp2_with fail
        exact ⟨⟨j + 1, by simp, by omega, by omega, HB.out.trans hb', by rw [show j + 1 - 1 = j - 1 + 1 by omega, HT.out]; exact hR'⟩, by simp [intOf]; omega⟩
    · have hP := hR.pol
      obtain ⟨A', c', rfl⟩ := hP.slice
      rw [show j - 1 = m - 1 by omega, gen_len] at hP
      rw [show j - 1 = m - 1 by omega, gen_len]
      have HP := Lib.hid hP
      have HB := Lib.hid hb
      clear hR hP hb
      go_wp2_with (go_at_call 28; (with_reducible refine (rtrim_any A' (m - 1) c' (gen (m - 1) f) (l + 5) _ HP.out).mono ?_); rintro e w4 ⟨rfl, hb⟩; have HB := Lib.hid (bel_tr HB.out hb); have HP := Lib.hid (HP.out.bel hb); clear hb)
      go_ret
      exact polE_of HP.out HD.out HB.out
end Go.Proofs.YtpobhegllhhdgaaGreat
