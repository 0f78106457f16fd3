/- Proved here: what package root's search digit by digit answers and leaves in memory. Condition: numbers of 64 bits as halves, the second number isn't 0. -/
import Derived.Test.YtbkoeiofofhinaaXf
namespace Go.Proofs.Ytbkoeiofofhinaa
open Go.RowKit

/-- The digit that is tried when k are yet to be found. -/
def dgN : Nat → Nat
  | 0 => 0
  | j + 1 => 2 ^ j
theorem dgN_half (j : Nat) : 2 ^ j / 2 = dgN j := by
  cases j with
  | zero => rfl
  | succ k => rw [Nat.pow_succ]; show _ = 2 ^ k; omega
/-- What holds at each round's head. -/
def GrtR (w wr : World) (a b c d : Nat) (r g : Value) : Prop := ∃ k m : Nat, r = .int .u64 (m : Int) ∧ g = .int .u64 (dgN k : Int) ∧ k ≤ 64 ∧ Bt (numW a b) (numW c d) 64 k m ∧ TwH w wr a b c d
set_option maxHeartbeats 4000000 in
set_option maxRecDepth 100000 in
theorem greatest_any (a b c d : Nat) (w : World) (hp : 0 < numW c d) (ha : a < 18446744073709551616) (hb : b < 18446744073709551616) (hc : c < 18446744073709551616) (hd : d < 18446744073709551616) :
    Calls Try.prog 16 #[.agg #[.int .u64 (a : Int), .int .u64 (b : Int)], .agg #[.int .u64 (c : Int), .int .u64 (d : Int)]] w (RootE (numW a b) (numW c d) 64 w) := by
  have H0 := Lib.hid (TwH.start w a b c d)
  have HW := Lib.hid (fun r hr W => below_any r a b c d W hr ha hb hc hd)
  have HT := Lib.hid (Bt.start (sq_top ha hb hp))
  clear ha hb hc hd hp
  go_enter Try.func16, Try.ntmps16
  go_wp2_with fail
  go_loopw [5, 6] (fun r g wr => GrtR w wr a b c d r g) (fun _ g _ => (intOf g).toNat)
  case atStart => exact ⟨64, 0, rfl, rfl, by decide, HT.out, H0.out⟩
  case round =>
    obtain ⟨k, m, rfl, rfl, hk, hbt, hon⟩ := hrel
    have H := Lib.hid hon
    have HB := Lib.hid hbt
    obtain ⟨f1, f2, f3, f4⟩ := hon.facts
    clear hon hbt
    rcases k with _ | j
    · clear f1 f2 f3 f4
      simp only [dgN]
      go_wp2_with fail
      go_ret
      exact ⟨m, rfl, HB.out.gr, HB.out.small, H.out.bel⟩
    · have hm := HB.out.room
      have hor := HB.out.or
      have hhalf := dgN_half j
      have hpos := Nat.two_pow_pos j
      simp only [dgN]
      obtain ⟨P, hP⟩ : ∃ P, P = 2 ^ j := ⟨_, rfl⟩
      rw [← hP] at hm hor hhalf hpos ⊢
      obtain ⟨Q, hQ⟩ : ∃ Q, Q = dgN j := ⟨_, rfl⟩
      rw [← hQ] at hhalf
      obtain ⟨x, hx⟩ : ∃ x, x = m + P := ⟨_, rfl⟩
      have E1 : bits .or .u64 (m : Int) (P : Int) = (x : Int) := by
        rw [bits_or_u64_nat m P (by omega) (by omega), hor, hx]
      have E2 : ((P : Int) != 0) = true := by simp; omega
      have E3 : (P : Int) / 2 = (Q : Int) := by rw [← hhalf]; simp
      have HC := Lib.hid (show x = m + 2 ^ j by rw [hx, hP])
      have HX := Lib.hid (fun W => HW.out x (by omega) W)
      have HQ := Lib.hid hQ
      have HL := Lib.hid (show Q < P by omega)
      clear hP hx hm hor hhalf hpos hQ
      by_cases hg : sq x (numW c d) ≤ numW a b
      · rw [show bw x (numW c d) (numW a b) = true from decide_eq_true hg] at HX
        have HG := Lib.hid (HB.out.hit (HC.out ▸ hg))
        rw [← HC.out] at HG
        clear hg
        go_wp2_with (go_at_call 14; (with_reducible refine (HX.out _).mono ?_); rintro e w2 ⟨rfl, hb⟩; have H := Lib.hid (H.out.next hb); clear hb)
        exact ⟨⟨j, x, rfl, by rw [HQ.out], by omega, HG.out, H.out⟩, by simp [intOf]; exact HL.out⟩
      · rw [show bw x (numW c d) (numW a b) = false from decide_eq_false hg] at HX
        have HG := Lib.hid (HB.out.miss (HC.out ▸ hg))
        clear hg
        go_wp2_with (go_at_call 14; (with_reducible refine (HX.out _).mono ?_); rintro e w2 ⟨rfl, hb⟩; have H := Lib.hid (H.out.next hb); clear hb)
        exact ⟨⟨j, m, rfl, by rw [HQ.out], by omega, HG.out, H.out⟩, by simp [intOf]; exact HL.out⟩
end Go.Proofs.Ytbkoeiofofhinaa
