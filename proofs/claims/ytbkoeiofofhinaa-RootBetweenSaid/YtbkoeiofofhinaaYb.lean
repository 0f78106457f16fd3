/- Proved here: that RootFloors' law answers true, over every number. Condition: halves of 64 bits. -/
import Derived.Test.YtbkoeiofofhinaaYa
namespace Go.Proofs.Ytbkoeiofofhinaa
open Go.RowKit

theorem rwide_lo (n r : Nat) (hr : Gr n 1 r) (hn : n < 18446744073709551616) (w : World) :
    Calls Try.prog 8 #[.agg #[.int .u64 0, .int .u64 (n : Int)]] w fun e w' => e = .returned (.int .u64 (r : Int)) ∧ Below w.heap.size w w' :=
  rwide_is 0 n r w (by rw [numW0]; exact hr) (by decide) hn
set_option maxHeartbeats 4000000 in
set_option maxRecDepth 100000 in
theorem law_floors (a b : Nat) (w : World) (ha : a < 18446744073709551616) (hb : b < 18446744073709551616) :
    Calls Try.prog 3 #[.agg #[.int .u64 (a : Int), .int .u64 (b : Int)]] w fun e w' => e = .returned (.bool true) ∧ Below w.heap.size w w' := by
  obtain ⟨r, hr, hrl⟩ := gr_of (n := numW a b) (by unfold numW; omega)
  obtain ⟨s, hs, _⟩ := gr_of (n := b) (by omega)
  have H := Lib.hid (OnH.start w a b)
  have H1 := Lib.hid (fun W => wide_is a b r W hr ha hb)
  have H2 := Lib.hid (fun W => rwide_is a b r W hr ha hb)
  have H3 := Lib.hid (fun W => floor_is b s W hs hb)
  have H4 := Lib.hid (fun W => rwide_lo b s hs hb W)
  have H5 := Lib.hid (fun W => whole_is a b r W hr hrl ha hb)
  have H6 := Lib.hid (fun W => rwhole_is a b r W hr hrl ha hb)
  obtain ⟨v, hv⟩ : ∃ v, v = decide (r * r = numW a b) := ⟨_, rfl⟩
  rw [← hv] at H5 H6
  clear hr hrl hs ha hb hv
  go_enter Try.func3, Try.ntmps3
  go_wp2_with (go_at_call 6; (with_reducible refine (awake_any _).mono ?_); rintro e w1 ⟨rfl, hb⟩; have H := Lib.hid (H.out.next hb); clear hb; obtain ⟨f1, f2⟩ := H.out.facts)
  go_region_held3 (fun w' => w'.cell? ⟨w.heap.size, 0, none⟩ = some (.int .u64 (a : Int)) ∧ w'.cell? ⟨w.heap.size, 1, none⟩ = some (.int .u64 (b : Int)))
    (first | with_reducible exact H.out.facts | with_reducible exact H.out.drew.facts | go_keep)
    (first
      | (go_at_call 7; (with_reducible refine (H1.out _).mono ?_); rintro e w2 ⟨rfl, hb⟩; have H := Lib.hid (H.out.drew.next hb); clear hb)
      | (go_at_call 8; (with_reducible refine (H2.out _).mono ?_); rintro e w3 ⟨rfl, hb⟩; have H := Lib.hid (H.out.next hb); clear hb)
      | (go_at_call 9; (with_reducible refine (H3.out _).mono ?_); rintro e w4 ⟨rfl, hb⟩; have H := Lib.hid (H.out.next hb); clear hb)
      | (go_at_call 8; (with_reducible refine (H4.out _).mono ?_); rintro e w5 ⟨rfl, hb⟩; have H := Lib.hid (H.out.next hb); clear hb)
      | (go_at_call 10; (with_reducible refine (H5.out _).mono ?_); rintro e w6 ⟨rfl, hb⟩; have H := Lib.hid (H.out.next hb); clear hb)
      | (go_at_call 11; (with_reducible refine (H6.out _).mono ?_); rintro e w7 ⟨rfl, hb⟩; have H := Lib.hid (H.out.next hb); clear hb))
  all_goals
    go_wp2_with fail
    go_ret
    exact ⟨by simp, H.out.bel⟩
end Go.Proofs.Ytbkoeiofofhinaa
