/- Proved here: what Make answers, in the program. Condition: a list that lies in memory, of up to 10^6 tables, of tags and bytes of up to 900000 each. -/
import Derived.Test.YtlidagofjkilgaaTg
namespace Go.Proofs.Ytlidagofjkilgaa
open Go.RowKit

set_option maxHeartbeats 4000000 in
theorem make_none (A : Option Addr) (m c : Nat) (L : List (List UInt8 × List UInt8)) (w : World) (h : Tl w A m L) (hm : m ≤ 1000000) (ht : ∀ i, i < m → (tg L i).length ≤ 1000000) (hd : ∀ i, i < m → (dt L i).length ≤ 900000) (hE : mkE L ≠ 0) :
    Calls Try.prog 7 #[.slice A m c] w fun e w' => e = .returned (.tuple #[.string ⟨#[]⟩, .int .i64 (mkE L)]) ∧ Below w.heap.size w w' := by
  have hl := h.len
  have HX := Lib.hid h
  by_cases h0 : m = 0
  · have HE := Lib.hid (show mkE L = 1 by unfold mkE; rw [if_pos (.inl (by omega))])
    have e0 : ((m : Int) == 0) = true := by simp; omega
    clear h hl h0 hE ht hd
    go_enter Try.func7, Try.ntmps7
    go_wp2_with fail
    go_ret2
    exact ⟨(by rw [HE.out] <;> rfl), Below.refl _ _⟩
  · have e0 : ((m : Int) == 0) = false := by simp; omega
    have hr := fun W (hb : Below w.heap.size w W) => rising_any A m c L W (HX.out.bel hb) hm ht
    have hr0 := hr w (Below.refl _ _)
    cases hri : risU L m
    · have HE := Lib.hid (show mkE L = 1 by unfold mkE; rw [if_pos (.inr (by rw [hl]; exact hri))])
      rw [hri] at hr0
      have HR := Lib.hid hr0
      clear h hl h0 hE ht hd hr hr0 hri
      go_enter Try.func7, Try.ntmps7
      go_wp2_with (go_at_call 14; (with_reducible refine HR.out.mono ?_); rintro e w1 ⟨rfl, hb⟩; have B := Lib.hid hb; clear hb)
      go_ret2
      exact ⟨(by rw [HE.out] <;> rfl), B.out⟩
    · have hfi : fitsL L = false := by
        cases hf : fitsL L
        · rfl
        · exfalso
          apply hE
          unfold fitsL at hf
          simp only [Bool.and_eq_true, decide_eq_true_eq] at hf
          unfold mkE
          rw [if_neg (by rw [hl, hri]; rintro (h | h) <;> first | omega | cases h), if_neg (by omega)]
      have HE := Lib.hid (show mkE L = 6 by
        unfold fitsL at hfi
        simp only [Bool.and_eq_false_iff, decide_eq_false_iff_not] at hfi
        unfold mkE
        rw [if_neg (by rw [hl, hri]; rintro (h | h) <;> first | omega | cases h), if_pos (by omega)])
      have hf := fun W (hb : Below w.heap.size w W) => fits_any A m c L W (HX.out.bel hb) hm (fun i hi => by have := hd i hi; omega)
      rw [hri] at hr0
      rw [hfi] at hf
      have HR := Lib.hid hr0
      have HF := Lib.hid hf
      clear h hl h0 hE ht hd hr hr0 hri hfi hf
      go_enter Try.func7, Try.ntmps7
      go_wp2_with (first
        | (go_at_call 14; (with_reducible refine HR.out.mono ?_); rintro e w1 ⟨rfl, hb⟩; have B := Lib.hid hb; clear hb)
        | (go_at_call 15; (with_reducible refine (HF.out _ B.out).mono ?_); rintro e w2 ⟨rfl, hb⟩; have B2 := Lib.hid (B.out.trans (hb.mono B.out.size)); clear hb))
      go_ret2
      exact ⟨(by rw [HE.out] <;> rfl), B2.out⟩
end Go.Proofs.Ytlidagofjkilgaa
