/- Proved here: what package root's Ratio answers and leaves in memory. Condition: numbers of 64 bits as halves. -/
import Derived.Test.YtbkoeiofofhinaaXh
namespace Go.Proofs.Ytbkoeiofofhinaa
open Go.RowKit

theorem below32 (a b c d : Nat) (v : Bool) (ha : a < 18446744073709551616) (hb : b < 18446744073709551616) (hc : c < 18446744073709551616) (hd : d < 18446744073709551616) (hv : bw 4294967296 (numW c d) (numW a b) = v) (w : World) :
    Calls Try.prog 14 #[.int .u64 4294967296, .agg #[.int .u64 (a : Int), .int .u64 (b : Int)], .agg #[.int .u64 (c : Int), .int .u64 (d : Int)]] w fun e w' => e = .returned (.bool v) ∧ Below w.heap.size w w' := by
  rw [← hv]
  exact below_any 4294967296 a b c d w (by decide) ha hb hc hd
set_option maxHeartbeats 4000000 in
set_option maxRecDepth 100000 in
theorem ratio_any (a b c d : Nat) (w : World) (ha : a < 18446744073709551616) (hb : b < 18446744073709551616) (hc : c < 18446744073709551616) (hd : d < 18446744073709551616) :
    Calls Try.prog 12 #[.agg #[.int .u64 (a : Int), .int .u64 (b : Int)], .agg #[.int .u64 (c : Int), .int .u64 (d : Int)]] w (RatE (numW a b) (numW c d) w) := by
  have H0 := Lib.hid (TwH.start w a b c d)
  have HT0 := Lib.hid (fun v hv W => below32 a b c d v ha hb hc hd hv W)
  have HG0 := Lib.hid (fun hp W => greatest_any a b c d W hp ha hb hc hd)
  obtain ⟨f1, f2, f3, f4⟩ := H0.out.facts
  have HZ := Lib.hid hd
  clear ha hb hc hd
  go_enter Try.func12, Try.ntmps12
  go_upto_region 1 with fail
  go_cut [6] from 7 to 9 (fun t wx => t = .bool (decide (numW c d = 0)) ∧ TwH w wx a b c d)
  case first =>
    go_wp2_with fail
    all_goals
      (try subst_vars)
      go_meet
      refine ⟨zeroB HZ.out _ ?_, H0.out⟩
      simp
      try omega
  case rest =>
    obtain ⟨rfl, hx⟩ := hcut
    have H0 := Lib.hid hx
    clear hx f1 f2 f3 f4
    obtain ⟨f1, f2, f3, f4⟩ := H0.out.facts
    by_cases h0 : numW c d = 0
    · have HA := Lib.hid (show RatA (numW a b) (numW c d) 0 13 from .inl ⟨h0, rfl, rfl⟩)
      rw [show decide (numW c d = 0) = true from decide_eq_true h0]
      clear h0
      go_wp2_with fail
      go_ret2
      exact ⟨0, 13, rfl, HA.out, H0.out.bel⟩
    · have hp : 0 < numW c d := by omega
      rw [show decide (numW c d = 0) = false from decide_eq_false h0]
      have HG := Lib.hid (fun W => HG0.out hp W)
      have HP := Lib.hid hp
      clear h0 hp
      by_cases ht : sq 4294967296 (numW c d) ≤ numW a b
      · have hq : bw 4294967296 (numW c d) (numW a b) = true := decide_eq_true ht
        have HA := Lib.hid (show RatA (numW a b) (numW c d) 0 2 from .inr (.inl ⟨HP.out, ht, rfl, rfl⟩))
        have HT := Lib.hid (fun W => HT0.out _ hq W)
        clear ht hq
        go_wp2_with (go_at_call 14; (with_reducible refine (HT.out _).mono ?_); rintro e w1 ⟨rfl, hb⟩; have H := Lib.hid (H0.out.next hb); clear hb)
        go_ret2
        exact ⟨0, 2, rfl, HA.out, H.out.bel⟩
      · have hq : bw 4294967296 (numW c d) (numW a b) = false := decide_eq_false ht
        have HL := Lib.hid (Nat.lt_of_not_le ht)
        have HT := Lib.hid (fun W => HT0.out _ hq W)
        clear ht hq
        go_wp2_with (first
          | (go_at_call 14; (with_reducible refine (HT.out _).mono ?_); rintro e w1 ⟨rfl, hb⟩; have H := Lib.hid (H0.out.next hb); clear hb f1 f2 f3 f4; obtain ⟨f1, f2, f3, f4⟩ := H.out.facts)
          | (go_at_call 16; (with_reducible refine (HG.out _).mono ?_); rintro e w2 ⟨s, rfl, hs, _, hb⟩; have H2 := Lib.hid (H.out.next hb); have HS := Lib.hid hs; clear hs hb))
        go_ret2
        exact ⟨s, 0, rfl, .inr (.inr ⟨HP.out, HL.out, HS.out, rfl⟩), H2.out.bel⟩
/-- The end of a fraction's root whose answer is given. -/
theorem ratio_is (a b c d r : Nat) (x : Int) (w : World) (hr : RatA (numW a b) (numW c d) r x) (ha : a < 18446744073709551616) (hb : b < 18446744073709551616) (hc : c < 18446744073709551616) (hd : d < 18446744073709551616) :
    Calls Try.prog 12 #[.agg #[.int .u64 (a : Int), .int .u64 (b : Int)], .agg #[.int .u64 (c : Int), .int .u64 (d : Int)]] w fun e w' => e = .returned (.tuple #[.int .u64 (r : Int), .int .i64 x]) ∧ Below w.heap.size w w' :=
  (ratio_any a b c d w ha hb hc hd).mono fun _ _ ⟨s, y, he, hs, hbl⟩ => by
    obtain ⟨rfl, rfl⟩ := hr.same hs
    exact ⟨he, hbl⟩
theorem rratio_is (a b c d r : Nat) (x : Int) (w : World) (hr : RatA (numW a b) (numW c d) r x) (ha : a < 18446744073709551616) (hb : b < 18446744073709551616) (hc : c < 18446744073709551616) (hd : d < 18446744073709551616) :
    Calls Try.prog 13 #[.agg #[.int .u64 (a : Int), .int .u64 (b : Int)], .agg #[.int .u64 (c : Int), .int .u64 (d : Int)]] w fun e w' => e = .returned (.tuple #[.int .u64 (r : Int), .int .i64 x]) ∧ Below w.heap.size w w' :=
  (rratio_any a b c d w ha hb hc hd).mono fun _ _ ⟨s, y, he, hs, hbl⟩ => by
    obtain ⟨rfl, rfl⟩ := hr.same hs
    exact ⟨he, hbl⟩
/-- Each number has a root, and each fraction an answer. -/
theorem gr_of {n : Nat} (h : n < 340282366920938463463374607431768211456) : ∃ r, Gr n 1 r ∧ r < 18446744073709551616 := (Bt.start (t := 64) (d := 1) (n := n) (by rw [sq_one]; exact h)).ends
theorem rat_of (n d : Nat) : ∃ r x, RatA n d r x := by
  rcases Nat.eq_zero_or_pos d with h0 | h0
  · exact ⟨0, 13, .inl ⟨h0, rfl, rfl⟩⟩
  · by_cases h : sq 4294967296 d ≤ n
    · exact ⟨0, 2, .inr (.inl ⟨h0, h, rfl, rfl⟩)⟩
    · have hl := Nat.lt_of_not_le h
      obtain ⟨s, hs, _⟩ := (Bt.start (t := 32) hl).ends
      exact ⟨s, 0, .inr (.inr ⟨h0, hl, hs, rfl⟩)⟩
end Go.Proofs.Ytbkoeiofofhinaa
