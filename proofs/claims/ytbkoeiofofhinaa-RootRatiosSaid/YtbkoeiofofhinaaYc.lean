/- Proved here: that RootRatios' law answers true, over all numbers. Condition: numbers of 64 bits as halves. -/
import Derived.Test.YtbkoeiofofhinaaYa
namespace Go.Proofs.Ytbkoeiofofhinaa
open Go.RowKit

set_option maxHeartbeats 4000000 in
set_option maxRecDepth 100000 in
theorem law_ratios (a b c d r : Nat) (w : World) (ha : a < 18446744073709551616) (hb : b < 18446744073709551616) (hc : c < 18446744073709551616) (hd : d < 18446744073709551616) (hr : r < 18446744073709551616) :
    Calls Try.prog 4 #[.agg #[.int .u64 (a : Int), .int .u64 (b : Int)], .agg #[.int .u64 (c : Int), .int .u64 (d : Int)], .int .u64 (r : Int)] w fun e w' => e = .returned (.bool true) ∧ Below w.heap.size w w' := by
  obtain ⟨s, x, hs⟩ := rat_of (numW a b) (numW c d)
  have H := Lib.hid (TwH.start w a b c d)
  have H1 := Lib.hid (fun W => ratio_is a b c d s x W hs ha hb hc hd)
  have H2 := Lib.hid (fun W => rratio_is a b c d s x W hs ha hb hc hd)
  have H3 := Lib.hid (fun W => below_any r a b c d W hr ha hb hc hd)
  have H4 := Lib.hid (fun W => rbelow_any r a b c d W hr ha hb hc hd)
  obtain ⟨v, hv⟩ : ∃ v, v = bw r (numW c d) (numW a b) := ⟨_, rfl⟩
  rw [← hv] at H3 H4
  clear hr hs ha hb hc hd hv
  go_enter Try.func4, Try.ntmps4
  go_wp2_with (first
    | (go_at_call 6; (with_reducible refine (awake_any _).mono ?_); rintro e w1 ⟨rfl, hb⟩; have H := Lib.hid (H.out.next hb); clear hb; obtain ⟨f1, f2, f3, f4⟩ := H.out.facts)
    | (go_at_call 12; (with_reducible refine (H1.out _).mono ?_); rintro e w2 ⟨rfl, hb⟩; have H := Lib.hid (H.out.next hb); clear hb f1 f2 f3 f4; obtain ⟨f1, f2, f3, f4⟩ := H.out.facts)
    | (go_at_call 13; (with_reducible refine (H2.out _).mono ?_); rintro e w3 ⟨rfl, hb⟩; have H := Lib.hid (H.out.next hb); clear hb f1 f2 f3 f4; obtain ⟨f1, f2, f3, f4⟩ := H.out.facts))
  go_region_held3 (fun w' => w'.cell? ⟨w.heap.size, 0, none⟩ = some (.int .u64 (a : Int)) ∧ w'.cell? ⟨w.heap.size, 1, none⟩ = some (.int .u64 (b : Int)) ∧ w'.cell? ⟨w.heap.size + 1, 0, none⟩ = some (.int .u64 (c : Int)) ∧ w'.cell? ⟨w.heap.size + 1, 1, none⟩ = some (.int .u64 (d : Int)))
    (first | with_reducible exact H.out.facts | with_reducible exact H.out.drew.facts | go_keep)
    (first
      | (go_at_call 14; (with_reducible refine (H3.out _).mono ?_); rintro e w4 ⟨rfl, hb⟩; have H := Lib.hid (H.out.drew.next hb); clear hb)
      | (go_at_call 15; (with_reducible refine (H4.out _).mono ?_); rintro e w5 ⟨rfl, hb⟩; have H := Lib.hid (H.out.next hb); clear hb))
  all_goals
    go_wp2_with fail
    go_ret
    exact ⟨by simp, H.out.bel⟩
end Go.Proofs.Ytbkoeiofofhinaa
