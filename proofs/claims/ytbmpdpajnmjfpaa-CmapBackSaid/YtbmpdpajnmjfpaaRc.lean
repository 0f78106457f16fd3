/- Proved here: the four numbers that tell how many segments there are, in the program, and the greatest power of 2, in the document. Condition: 1 up to 8192 segments. -/
import Derived.Test.YtbmpdpajnmjfpaaRb
namespace Go.Proofs.Ytbmpdpajnmjfpaa
open Go.RowKit

/-- Which power of 2 is the greatest one that isn't above n. -/
def pw (n : Nat) : Nat := Nat.log2 n
/-- The four numbers ahead of the segments. -/
def cntB (n : Nat) : List UInt8 := byt 2 (2 * n) ++ byt 2 (2 * 2 ^ pw n) ++ byt 2 (pw n) ++ byt 2 (2 * n - 2 * 2 ^ pw n)
theorem cntB_len (n : Nat) : (cntB n).length = 8 := by simp [cntB, byt_len]
theorem pw_two {n : Nat} (h0 : 0 < n) : 2 ^ pw n ≤ n ∧ n < 2 ^ (pw n + 1) := by
  have h := (Nat.log2_eq_iff (k := Nat.log2 n) (by omega)).1 rfl
  exact ⟨h.1, h.2⟩
theorem pw_le {n : Nat} (h0 : 0 < n) (h : n ≤ 8192) : pw n ≤ 13 := by
  have h1 := pw_two h0
  rcases Nat.lt_or_ge 13 (pw n) with h2 | h2
  · have : 2 ^ 14 ≤ 2 ^ pw n := Nat.pow_le_pow_right (by decide) h2
    omega
  · exact h2
theorem aux_log : ∀ (f x : Nat), 0 < x → x < 2 ^ f → Lib.bitLenAux f x = Nat.log2 x + 1
  | 0, x, h0, h => by simp at h; omega
  | f + 1, x, h0, h => by
    simp only [Lib.bitLenAux]
    rw [if_neg (by omega)]
    rcases Nat.lt_or_ge x 2 with h2 | h2
    · have hx : x = 1 := by omega
      subst hx
      have : Lib.bitLenAux f (1 / 2) = 0 := by cases f <;> rfl
      rw [this]
      decide
    · have ih := aux_log f (x / 2) (by omega) (by rw [Nat.pow_succ] at h; omega)
      rw [ih]
      rw [Nat.log2_def x, if_pos h2]
      omega
theorem bits_log {n : Nat} (h0 : 0 < n) (h : n ≤ 8192) : Lib.bitLen n = pw n + 1 := aux_log 64 n h0 (by omega)
theorem app_four (a b c d : List UInt8) : ((⟨a.toArray⟩ : ByteArray) ++ ⟨b.toArray⟩ ++ ⟨c.toArray⟩ ++ ⟨d.toArray⟩) = ⟨(a ++ b ++ c ++ d).toArray⟩ := by rw [app_txt, app_txt, app_txt]
theorem pow_lits : ∀ p, p ≤ 13 → 2 ^ p = 1 ∧ p = 0 ∨ 2 ^ p = 2 ∧ p = 1 ∨ 2 ^ p = 4 ∧ p = 2 ∨ 2 ^ p = 8 ∧ p = 3 ∨ 2 ^ p = 16 ∧ p = 4 ∨ 2 ^ p = 32 ∧ p = 5 ∨ 2 ^ p = 64 ∧ p = 6 ∨ 2 ^ p = 128 ∧ p = 7 ∨ 2 ^ p = 256 ∧ p = 8 ∨ 2 ^ p = 512 ∧ p = 9 ∨ 2 ^ p = 1024 ∧ p = 10 ∨ 2 ^ p = 2048 ∧ p = 11 ∨ 2 ^ p = 4096 ∧ p = 12 ∨ 2 ^ p = 8192 ∧ p = 13 := by decide
set_option maxHeartbeats 2000000 in
theorem counts_any (n : Nat) (w : World) (h0 : 0 < n) (h : n ≤ 8192) : Calls Try.prog 34 #[.int .i64 (n : Int)] w fun e w' => e = .returned (.string ⟨(cntB n).toArray⟩) ∧ Below w.heap.size w w' := by
  have hbl := bits_log h0 h
  have hp13 := pw_le h0 h
  obtain ⟨hp1, hp2⟩ := pw_two h0
  unfold cntB
  obtain ⟨p, hp⟩ : ∃ p, p = pw n := ⟨_, rfl⟩
  rw [← hp] at hbl hp13 hp1 hp2 ⊢
  have hlen := fun W => Try.bits_Len (n : Int) W (by omega) (by omega)
  rw [Int.toNat_natCast, hbl] at hlen
  have hsh := pow_lits p hp13
  obtain ⟨m, hm⟩ : ∃ m, m = 2 ^ p := ⟨_, rfl⟩
  rw [← hm] at hp1 hsh ⊢
  obtain ⟨d, hd⟩ : ∃ d, d = 2 * n := ⟨_, rfl⟩
  obtain ⟨r, hr⟩ : ∃ r, r = 2 * n - 2 * m := ⟨_, rfl⟩
  obtain ⟨q, hq⟩ : ∃ q, q = 2 * m := ⟨_, rfl⟩
  rw [← hr, ← hd, ← hq]
  obtain ⟨X1, z1, h1, c1⟩ := p16_txt d (by omega)
  obtain ⟨X2, z2, h2, c2⟩ := p16_txt q (by omega)
  obtain ⟨X3, z3, h3, c3⟩ := p16_txt p (by omega)
  obtain ⟨X4, z4, h4, c4⟩ := p16_txt r (by omega)
  have l1 : ¬ 9223372036854775807 < X1.size + X2.size := by omega
  have l2 : ¬ 9223372036854775807 < X1.size + X2.size + X3.size := by omega
  have l3 : ¬ 9223372036854775807 < X1.size + X2.size + X3.size + X4.size := by omega
  have hfin : X1 ++ X2 ++ X3 ++ X4 = ⟨(byt 2 d ++ byt 2 q ++ byt 2 p ++ byt 2 r).toArray⟩ := by rw [h1, h2, h3, h4, app_four]
  rw [← hfin]
  have P1 := Lib.hid c1
  have P2 := Lib.hid c2
  have P3 := Lib.hid c3
  have P4 := Lib.hid c4
  have w0 : IntKind.u64.wrap (n : Int) = (n : Int) := by rw [IntKind.wrap_u64]; omega
  have w1 : IntKind.u16.wrap (d : Int) = (d : Int) := wrap_u16n d (by omega)
  have w2 : IntKind.u16.wrap (q : Int) = (q : Int) := wrap_u16n q (by omega)
  have w3 : IntKind.u16.wrap (p : Int) = (p : Int) := wrap_u16n p (by omega)
  have w4 : IntKind.u16.wrap (r : Int) = (r : Int) := wrap_u16n r (by omega)
  have e4 : IntKind.i64.wrap (2 * (n : Int)) = (d : Int) := by rw [i64_in _ (by omega)]; omega
  have e5 : IntKind.i64.wrap ((d : Int) - (q : Int)) = (r : Int) := by rw [i64_in _ (by omega)]; omega
  have e6 : IntKind.i64.wrap (((p + 1 : Nat) : Int) - 1) = (p : Int) := by rw [i64_in _ (by omega)]; omega
  have e7 : wrap64 (2 * 2 ^ p) = (q : Int) := by
    have e8 : (2 : Int) ^ p = (m : Int) := by rw [hm]; simp
    rw [e8]; unfold wrap64; omega
  have B0 := Lib.hid (Below.refl w.heap.size w)
  have HL := Lib.hid hlen
  clear hlen hbl hp2 hp h1 h2 h3 h4 c1 c2 c3 c4 z1 z2 z3 z4 hfin hr hp1 h0 h hd hm hq hsh
  go_enter Try.func34, Try.ntmps34
  go_upto_region 3 with (go_at_call 53; (with_reducible refine (HL.out _).mono ?_); rintro e w' ⟨rfl, rfl⟩)
  go_wp2_with (first
    | (go_at_call 29; (with_reducible refine (P1.out _).mono ?_); rintro e w1 ⟨rfl, hb⟩; have B1 := Lib.hid (B0.out.trans (hb.mono B0.out.size)); clear hb)
    | (go_at_call 29; (with_reducible refine (P2.out _).mono ?_); rintro e w2 ⟨rfl, hb⟩; have B2 := Lib.hid (B1.out.trans (hb.mono B1.out.size)); clear hb)
    | (go_at_call 29; (with_reducible refine (P3.out _).mono ?_); rintro e w3 ⟨rfl, hb⟩; have B3 := Lib.hid (B2.out.trans (hb.mono B2.out.size)); clear hb)
    | (go_at_call 29; (with_reducible refine (P4.out _).mono ?_); rintro e w4 ⟨rfl, hb⟩; have B4 := Lib.hid (B3.out.trans (hb.mono B3.out.size)); clear hb))
  go_ret
  exact ⟨rfl, B4.out⟩
theorem rpower_any (n : Nat) (w : World) (h0 : 0 < n) (h : n ≤ 8192) : Calls Try.prog 21 #[.int .i64 (n : Int)] w fun e w' => e = .returned (.tuple #[.int .i64 ((2 ^ pw n : Nat) : Int), .int .i64 (pw n : Int)]) ∧ w = w' := by
  have HP := Lib.hid (fun j (h1 : 2 ^ j ≤ n) (h2 : n < 2 ^ j * 2) => show j = pw n from by
    unfold pw
    exact ((Nat.log2_eq_iff (by omega)).2 ⟨h1, by rw [Nat.pow_succ]; exact h2⟩).symm)
  go_enter Try.func21, Try.ntmps21
  go_wp2_with fail
  go_loopw [4, 5] (fun v i wr => ∃ j : Nat, v = .int .i64 ((2 ^ j : Nat) : Int) ∧ i = .int .i64 (j : Int) ∧ 2 ^ j ≤ n ∧ j ≤ 2 ^ j ∧ wr = w) (fun v _ _ => n - (intOf v).toNat)
  case atStart => exact ⟨0, rfl, rfl, by simp; omega, by simp, rfl⟩
  case round =>
    obtain ⟨j, rfl, rfl, hj, hjp, rfl⟩ := hrel
    have hs : 2 ^ (j + 1) = 2 * 2 ^ j := by rw [Nat.pow_succ]; omega
    have hpos := Nat.two_pow_pos j
    have hq := HP.out j hj
    obtain ⟨P, hP⟩ : ∃ P, P = 2 ^ j := ⟨_, rfl⟩
    rw [← hP] at hs hpos hj hjp hq ⊢
    obtain ⟨P2, hP2⟩ : ∃ P2, P2 = 2 * P := ⟨_, rfl⟩
    rw [← hP2] at hs
    have HS := Lib.hid hs
    have e1 : IntKind.i64.wrap (2 * (P : Int)) = (P2 : Int) := by rw [i64_in _ (by omega)]; omega
    rcases Nat.lt_or_ge n P2 with h2 | h2
    · have HJ := Lib.hid (show 2 ^ pw n = P ∧ pw n = j from by
        have h3 := hq (by omega)
        exact ⟨by rw [← h3]; exact hP.symm, h3.symm⟩)
      clear hq hP hs hP2
      go_wp2_with fail
      go_ret2
      rw [HJ.out.1, HJ.out.2]
      exact ⟨rfl, rfl⟩
    · have HP2 := Lib.hid hP2
      clear hq hP hs hP2
      go_wp2_with fail
      exact ⟨⟨j + 1, by rw [HS.out], by simp, by rw [HS.out]; exact h2, by rw [HS.out]; have := HP2.out; omega, by trivial⟩, by have := HP2.out; simp [intOf]; omega⟩
end Go.Proofs.Ytbmpdpajnmjfpaa
