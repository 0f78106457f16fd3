/- Proved here: what is made is read again: widths, and places. No condition. -/
import Derived.Test.YtibbgmahdiphpaaMj
namespace Go.Proofs.Ytibbgmahdiphpaa
open Go.RowKit

theorem piece_left {a b : List UInt8} {i n : Nat} (h : i + n ≤ a.length) : piece (a ++ b) i n = piece a i n := by
  unfold piece
  rw [List.drop_append_of_le_length (by omega), List.take_append_of_le_length (by rw [List.length_drop]; omega)]
theorem piece_at {a b c : List UInt8} {i n : Nat} (hi : i = a.length) (hn : n = b.length) : piece (a ++ (b ++ c)) i n = b := by
  subst hi hn
  unfold piece
  rw [List.drop_left, List.take_left]
theorem hmB_piece (M : Nat) (xs : List Int) : ∀ n j, j < n → j < M → piece (hmB M xs n) (4 * j) 2 = byt 2 (co xs j).toNat
  | n + 1, j, h1, h2 => by
    simp only [hmB]
    rcases Nat.lt_or_ge j n with h | h
    · rw [piece_left (by rw [hmB_len]; omega)]
      exact hmB_piece M xs n j h h2
    · obtain rfl : j = n := by omega
      rw [if_pos h2]
      exact piece_at (by rw [hmB_len]; omega) (by rw [byt_len])
theorem nat_back {x : Int} {n : Nat} (h : (x.toNat) = n) (h0 : 0 ≤ x) : (n : Int) = x := by omega
theorem back_w {h : Hd} {xs : List Int} (hm : MayP h) (hx : mayW h xs) : WE h (HmS h xs) = 0 ∧ WL h (HmS h xs) = xs := by
  obtain ⟨G, M, h1, h2, h3, h4, h5, h6⟩ := hm.nat
  have hS : HmS h xs = hmB M xs G := by
    unfold HmS
    rw [if_pos ⟨hm, hx⟩, h2, show xs.length = G by have := hx.1; omega]
    rfl
  have hE : WE h (HmS h xs) = 0 := by
    unfold WE
    rw [if_pos hm, if_neg (by rw [hS, hmB_len]; omega)]
  refine ⟨hE, ?_⟩
  unfold WL
  rw [if_pos hE, h1, h2, Int.toNat_natCast, Int.toNat_natCast, hS]
  have hl : xs.length = G := by have := hx.1; omega
  refine co_ext (by rw [gen_len, hl]) fun i hi => ?_
  rw [gen_len] at hi
  rw [co_gen, if_pos hi]
  obtain ⟨q1, q2, q3⟩ := hx.2 i (by omega)
  rw [h2, Int.toNat_natCast] at q3
  unfold wdN n2
  rw [hmB_piece M xs G (min i (M - 1)) (by omega) (by omega), ← q3, byt_bv 2 _ (by omega)]
  omega
theorem loB_piece (lg : Bool) (xs : List Int) : ∀ n k, k < n → piece (loB lg xs n) (eaN lg * k) (eaN lg) = loK lg (co xs k)
  | n + 1, k, h1 => by
    simp only [loB]
    rcases Nat.lt_or_ge k n with h | h
    · have : (k + 1) * eaN lg ≤ n * eaN lg := Nat.mul_le_mul_right _ (by omega)
      rw [piece_left (by rw [loB_len, Nat.mul_comm, ← Nat.succ_mul]; exact this)]
      exact loB_piece lg xs n k h
    · obtain rfl : k = n := by omega
      have := piece_at (a := loB lg xs k) (b := loK lg (co xs k)) (c := []) (i := eaN lg * k) (n := eaN lg) (by rw [loB_len, Nat.mul_comm]) (by rw [loK_len])
      rw [List.append_nil] at this
      exact this
theorem loB_plN {lg : Bool} {xs : List Int} {n k : Nat} (hk : k < n) (h0 : 0 ≤ co xs k) (h1 : mayPl lg (co xs k)) : (plN lg (loB lg xs n) k : Int) = co xs k := by
  have hp := loB_piece lg xs n k hk
  unfold plN n2 n4
  cases lg
  · obtain ⟨q1, q2⟩ : co xs k % 2 = 0 ∧ co xs k ≤ 131070 := h1
    rw [if_neg (by simp)]
    have hp : piece (loB false xs n) (2 * k) 2 = byt 2 ((co xs k).toNat / 2) := hp
    rw [hp, byt_bv 2 _ (by omega)]
    omega
  · have q1 : co xs k ≤ 1048576 := h1
    rw [if_pos rfl]
    have hp : piece (loB true xs n) (4 * k) 4 = byt 4 (co xs k).toNat := hp
    rw [hp, byt_bv 4 _ (by omega)]
    omega
theorem okP_up {lg : Bool} {xs : List Int} {n : Nat} (h : okP lg xs n) : ∀ {j i : Nat}, i ≤ j → j < n → co xs i ≤ co xs j
  | 0, i, hi, _ => by rw [show i = 0 by omega]; exact Int.le_refl _
  | j + 1, i, hi, hj => by
    rcases Nat.lt_or_ge i (j + 1) with h1 | h1
    · have h2 := okP_up h (j := j) (i := i) (by omega) (by omega)
      have h3 : co xs j ≤ co xs (j + 1) := (h (j + 1) hj).1
      omega
    · rw [show i = j + 1 by omega]; exact Int.le_refl _
theorem back_p {h : Hd} {xs : List Int} (hm : MayP h) (hx : mayPs h xs) : PlE h (LoS h xs) (co xs (xs.length - 1)) = 0 ∧ PlL h (LoS h xs) (co xs (xs.length - 1)) = xs := by
  obtain ⟨G, M, h1, h2, h3, h4, h5, h6⟩ := hm.nat
  have hl : xs.length = G + 1 := by have := hx.1; omega
  have hS : LoS h xs = loB h.lg xs (G + 1) := by
    unfold LoS
    rw [if_pos ⟨hm, hx⟩, hl]
  have hgt : h.gl.toNat = G := by omega
  have hok := hx.2
  rw [hl] at hok
  have hat : ∀ k, k < G + 1 → (plN h.lg (loB h.lg xs (G + 1)) k : Int) = co xs k := fun k hk => by
    have h0 := okP_pos (k := k) (fun i hi => hok i (by omega))
    obtain ⟨q1, q2⟩ := hok k hk
    exact loB_plN hk (by omega) q2
  have hup : okUp h.lg (loB h.lg xs (G + 1)) (co xs (xs.length - 1)) (G + 1) := fun i hi => by
    have e1 := hat i hi
    refine ⟨?_, by rw [e1]; exact okP_up hok (by omega) (by omega)⟩
    match i, hi, e1 with
    | 0, _, _ => exact Nat.zero_le _
    | i + 1, hi, e1 =>
      have e2 := hat i (by omega)
      have q : co xs i ≤ co xs (i + 1) := (hok (i + 1) hi).1
      show plN h.lg (loB h.lg xs (G + 1)) i ≤ plN h.lg (loB h.lg xs (G + 1)) (i + 1)
      omega
  have hE : PlE h (LoS h xs) (co xs (xs.length - 1)) = 0 := by
    unfold PlE
    rw [if_pos hm, hgt, hS, if_neg (by rw [loB_len]; omega)]
    exact if_pos hup
  refine ⟨hE, ?_⟩
  unfold PlL
  rw [if_pos hE, hgt, hS]
  refine co_ext (by rw [gen_len, hl]) fun i hi => ?_
  rw [gen_len] at hi
  rw [co_gen, if_pos hi, hat i hi]
end Go.Proofs.Ytibbgmahdiphpaa
