/- Proved here: what package poly's Degree and trim answer. Condition: a polynomial that lies in memory. -/
import Derived.Test.YtpobhegllhhdgaaGreatQa
import Derived.Test.YtpobhegllhhdgaaGreatGC
namespace Go.Proofs.YtpobhegllhhdgaaGreat
open Go.RowKit

theorem El.big_ {w : World} {Z : Value} {z : Int} {l : Nat} (h : El .a w Z z l) : BigA w Z z l := h
theorem El.one_ {w : World} {Z : Value} {z : Int} {l : Nat} (h : El .c w Z z l) : BigA w Z z l := BigC.any h
theorem El.num_ {w : World} {Z : Value} {z : Int} {l : Nat} (h : El .n w Z z l) : NumC w Z z l := h
theorem sgn_zero (x : Int) : (sgn x == 0) = decide (x = 0) := by
  unfold sgn cmpI
  rcases Int.lt_trichotomy x 0 with h | h | h
  · rw [if_pos h]; simp; omega
  · subst h; simp
  · rw [if_neg (by omega), if_pos h]; simp; omega
theorem pl_still {L : List Int} {k : Nat} (h1 : ∀ j, k ≤ j → co L j = 0) (h2 : k = 0 ∨ co L (k - 1) ≠ 0) : pl L = k := (pl_uniq h1 h2).symm
set_option maxRecDepth 100000 in
set_option maxHeartbeats 1000000 in
theorem degree_any (A : Option Addr) (m c : Nat) (L : List Int) (l : Nat) (w : World) (h : Pol .a w (.slice A m c) L l) :
    Calls Tryz.prog 63 #[.slice A m c] w fun e w' => e = .returned (.int .i64 ((pl L : Int) - 1)) ∧ Below w.heap.size w w' := by
  obtain ⟨hm, hmc, hcm⟩ := h.cap
  unfold maxLen at hcm
  have H := Lib.hid h
  have HM := Lib.hid hm
  clear h hm
  go_enter Tryz.func63, Tryz.ntmps63
  go_wp2_with fail
  go_loopw [3] (fun d wr => ∃ k : Nat, d = .int .i64 ((k : Int) - 1) ∧ k ≤ m ∧ (∀ j, k ≤ j → co L j = 0) ∧ Below w.heap.size w wr) (fun d _ => (intOf d + 1).toNat)
  case atStart => exact ⟨m, rfl, Nat.le_refl _, fun j hj => co_beyond (by rw [← HM.out]; exact hj), Below.refl _ _⟩
  case round =>
    obtain ⟨k, rfl, hk, hz, hb⟩ := hrel
    have HZ := Lib.hid hz
    have HB := Lib.hid hb
    clear hz hb
    rcases k with _ | k
    · have e0 : ((0 : Nat) : Int) - 1 = -1 := by omega
      rw [e0]
      go_wp2_with fail
      go_ret
      exact ⟨ret_int (by rw [pl_still HZ.out (.inl rfl)]; rfl), HB.out⟩
    · have e0 : ((k + 1 : Nat) : Int) - 1 = (k : Int) := by omega
      rw [e0]
      obtain ⟨ad, n, B, p, q, rfl, hl, c0, c1, he⟩ := H.out.get k (by rw [← HM.out]; omega)
      have f0 : wr.cell? (ad.add (k * 2)) = some (.bool n) := by rw [HB.out.cell (by rw [block_of_add]; exact hl)]; exact c0
      have f1 : wr.cell? { block := (ad.add (k * 2)).block, off := (ad.add (k * 2)).off + 1 } = some (.slice B p q) := by rw [add_next, HB.out.cell (by rw [block_of_add]; exact hl)]; exact c1
      have HE := Lib.hid (El.big_ (he.bel HB.out))
      clear he c0 c1
      have hs := sgn_zero (co L k)
      have HV := Lib.hid (Eq.refl (co L k))
      by_cases h0 : co L k = 0
      · have hd : (sgn (co L k) == 0) = true := by rw [hs]; exact decide_eq_true h0
        have H0 := Lib.hid h0
        clear hs h0
        go_wp2_with (go_at_call 78; (with_reducible refine (sign_any _ (co L k) l _ HE.out).mono ?_); rintro e w1 ⟨rfl, hb⟩; have HB := Lib.hid (bel_tr HB.out hb); clear hb)
        go_roundw
        case rel => exact ⟨k, rfl, by omega, fun j hj => by
          rcases Nat.lt_or_ge k j with h | h
          · exact HZ.out j h
          · obtain rfl : j = k := by omega
            exact H0.out, HB.out⟩
        case measure => simp [intOf]
      · have hd : (sgn (co L k) == 0) = false := by rw [hs]; exact decide_eq_false h0
        have H0 := Lib.hid h0
        clear hs h0
        go_wp2_with (go_at_call 78; (with_reducible refine (sign_any _ (co L k) l _ HE.out).mono ?_); rintro e w1 ⟨rfl, hb⟩; have HB := Lib.hid (bel_tr HB.out hb); clear hb)
        go_ret
        exact ⟨ret_int (by rw [pl_still HZ.out (.inr H0.out)]; omega), HB.out⟩
set_option maxRecDepth 100000 in
theorem trim_any (A : Option Addr) (m c : Nat) (L : List Int) (l : Nat) (w : World) (h : Pol .a w (.slice A m c) L l) :
    Calls Tryz.prog 54 #[.slice A m c] w fun e w' => e = .returned (.slice A (pl L) c) ∧ Below w.heap.size w w' := by
  obtain ⟨hm, hmc, hcm⟩ := h.cap
  unfold maxLen at hcm
  have H := Lib.hid h
  have hp := pl_le L
  obtain ⟨k, hk⟩ : ∃ k, k = pl L := ⟨_, rfl⟩
  have HK := Lib.hid hk
  rw [← hk] at hp ⊢
  have hkm : k ≤ c := by omega
  have e1 : (k : Int) - 1 + 1 = (k : Int) := by omega
  clear h hm hk
  go_enter Tryz.func54, Tryz.ntmps54
  go_wp2_with (go_at_call 63; (with_reducible refine (degree_any A m c L l _ H.out).mono ?_); rintro e w1 ⟨rfl, hb⟩; have HB := Lib.hid hb; rw [← HK.out]; clear hb)
  go_ret
  exact ⟨rfl, HB.out⟩
end Go.Proofs.YtpobhegllhhdgaaGreat
