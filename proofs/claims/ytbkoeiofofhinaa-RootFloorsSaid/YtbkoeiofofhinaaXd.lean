/- Proved here: what the document's Wide and Whole answer of a number whose root is given. Condition: halves of 64 bits. -/
import Derived.Test.YtbkoeiofofhinaaXc
namespace Go.Proofs.Ytbkoeiofofhinaa
open Go.RowKit

theorem Bt.ends {n d t : Nat} : ∀ {m r : Nat}, Bt n d t m r → ∃ s, Gr n d s ∧ s < 2 ^ t
  | 0, r, h => ⟨r, h.gr, h.small⟩
  | m + 1, r, h => by
    by_cases hc : sq (r + 2 ^ m) d ≤ n
    · exact (h.hit hc).ends
    · exact (h.miss hc).ends
theorem rwide_is (a b r : Nat) (w : World) (hr : Gr (numW a b) 1 r) (ha : a < 18446744073709551616) (hb : b < 18446744073709551616) :
    Calls Try.prog 8 #[.agg #[.int .u64 (a : Int), .int .u64 (b : Int)]] w fun e w' => e = .returned (.int .u64 (r : Int)) ∧ Below w.heap.size w w' :=
  (rwide_any a b w ha hb).mono fun _ _ ⟨s, he, hs, _, hbl⟩ => ⟨by rw [he, hr.same hs], hbl⟩
theorem cmpI_zero (x y : Nat) : (cmpI x y == 0) = decide (x = y) := by
  unfold cmpI
  repeat' split
  all_goals simp <;> omega
set_option maxHeartbeats 4000000 in
theorem rwhole_is (a b r : Nat) (w : World) (hr : Gr (numW a b) 1 r) (hrl : r < 18446744073709551616) (ha : a < 18446744073709551616) (hb : b < 18446744073709551616) :
    Calls Try.prog 11 #[.agg #[.int .u64 (a : Int), .int .u64 (b : Int)]] w fun e w' => e = .returned (.bool (decide (r * r = numW a b))) ∧ Below w.heap.size w w' := by
  have H := Lib.hid (OnH.start w a b)
  have HN := Lib.hid (fun W => digits_num a b W ha hb)
  have HS := Lib.hid (fun W => square_num r W hrl)
  have HW := Lib.hid (fun W => rwide_is a b r W hr ha hb)
  have HE := Lib.hid (cmpI_zero (r * r) (numW a b))
  obtain ⟨f1, f2⟩ := H.out.facts
  clear ha hb hr hrl
  go_enter Try.func11, Try.ntmps11
  go_wp2_with fail
  go_region_held3 (fun w' => w'.cell? ⟨w.heap.size, 0, none⟩ = some (.int .u64 (a : Int)) ∧ w'.cell? ⟨w.heap.size, 1, none⟩ = some (.int .u64 (b : Int)))
    (first | with_reducible exact H.out.facts | with_reducible exact H.out.drew.facts | go_keep)
    (first
      | (go_at_call 8; (with_reducible refine (HW.out _).mono ?_); rintro e w1 ⟨rfl, hb⟩; have H := Lib.hid (H.out.drew.next hb); clear hb)
      | (go_at_call 19; (with_reducible refine (HS.out _).mono ?_); rintro e w1 ⟨z1, rfl, hz, hb⟩; have Z1 := Lib.hid hz; have H := Lib.hid (H.out.next hb); clear hz hb)
      | (go_at_call 20; (with_reducible refine (HN.out _).mono ?_); rintro e w2 ⟨z2, rfl, hz, hb⟩; have Z2 := Lib.hid hz; have Z1 := Lib.hid (Z1.out.below hb (Nat.le_refl _)); have H := Lib.hid (H.out.next hb); clear hz hb)
      | (go_at_call 18; (with_reducible refine (less_num z1 z2 _ _ 17 8 _ Z1.out Z2.out (by decide) (by decide)).mono ?_); rintro e w5 ⟨rfl, rfl⟩))
  all_goals
    go_wp2_with fail
    go_ret
    exact ⟨ret_bool HE.out, H.out.bel⟩
end Go.Proofs.Ytbkoeiofofhinaa
