/- Proved here: what package root's Wide, Floor and Whole answer of a number whose root is given, and Ratio of a fraction. Condition: numbers of 64 bits as halves. -/
import Derived.Test.YtbkoeiofofhinaaXg
namespace Go.Proofs.Ytbkoeiofofhinaa
open Go.RowKit

theorem of_one (w : World) : Calls Try.prog 17 #[.int .u64 1] w fun e w' => e = .returned (.agg #[.int .u64 0, .int .u64 1]) ∧ Below w.heap.size w w' := of_any 1 w
theorem of_lo (n : Nat) (w : World) : Calls Try.prog 17 #[.int .u64 (n : Int)] w fun e w' => e = .returned (.agg #[.int .u64 0, .int .u64 (n : Int)]) ∧ Below w.heap.size w w' := of_any n w
theorem grt_one (a b r : Nat) (hr : Gr (numW a b) 1 r) (ha : a < 18446744073709551616) (hb : b < 18446744073709551616) (w : World) :
    Calls Try.prog 16 #[.agg #[.int .u64 (a : Int), .int .u64 (b : Int)], .agg #[.int .u64 0, .int .u64 1]] w fun e w' => e = .returned (.int .u64 (r : Int)) ∧ Below w.heap.size w w' :=
  (greatest_any a b 0 1 w (by decide) ha hb (by decide) (by decide)).mono fun _ _ ⟨s, he, hs, _, hbl⟩ => ⟨by rw [he, hr.same (by simpa [numW] using hs)], hbl⟩
set_option maxHeartbeats 1000000 in
theorem wide_is (a b r : Nat) (w : World) (hr : Gr (numW a b) 1 r) (ha : a < 18446744073709551616) (hb : b < 18446744073709551616) :
    Calls Try.prog 7 #[.agg #[.int .u64 (a : Int), .int .u64 (b : Int)]] w fun e w' => e = .returned (.int .u64 (r : Int)) ∧ Below w.heap.size w w' := by
  have H := Lib.hid (OnH.start w a b)
  have HG := Lib.hid (fun W => grt_one a b r hr ha hb W)
  obtain ⟨f1, f2⟩ := H.out.facts
  clear ha hb hr
  go_enter Try.func7, Try.ntmps7
  go_wp2_with fail
  go_region_held3 (fun w' => w'.cell? ⟨w.heap.size, 0, none⟩ = some (.int .u64 (a : Int)) ∧ w'.cell? ⟨w.heap.size, 1, none⟩ = some (.int .u64 (b : Int)))
    (first | with_reducible exact H.out.facts | with_reducible exact H.out.drew.facts | go_keep)
    (first
      | (go_at_call 17; (with_reducible refine (of_one _).mono ?_); rintro e w1 ⟨rfl, hb⟩; have H := Lib.hid (H.out.drew.next hb); clear hb)
      | (go_at_call 16; (with_reducible refine (HG.out _).mono ?_); rintro e w2 ⟨rfl, hb⟩; have H := Lib.hid (H.out.next hb); clear hb))
  all_goals
    go_wp2_with fail
    go_ret
    exact ⟨rfl, H.out.bel⟩
theorem wide_lo (n r : Nat) (hr : Gr n 1 r) (hn : n < 18446744073709551616) (w : World) :
    Calls Try.prog 7 #[.agg #[.int .u64 0, .int .u64 (n : Int)]] w fun e w' => e = .returned (.int .u64 (r : Int)) ∧ Below w.heap.size w w' :=
  wide_is 0 n r w (by rw [numW0]; exact hr) (by decide) hn
set_option maxHeartbeats 1000000 in
theorem floor_is (n r : Nat) (w : World) (hr : Gr n 1 r) (hn : n < 18446744073709551616) :
    Calls Try.prog 9 #[.int .u64 (n : Int)] w fun e w' => e = .returned (.int .u64 (r : Int)) ∧ Below w.heap.size w w' := by
  have HG := Lib.hid (fun W => wide_lo n r hr hn W)
  clear hn hr
  go_enter Try.func9, Try.ntmps9
  go_wp2_with (first
      | (go_at_call 17; (with_reducible refine (of_lo n _).mono ?_); rintro e w1 ⟨rfl, hb⟩; have HB := Lib.hid hb; clear hb)
      | (go_at_call 7; (with_reducible refine (HG.out _).mono ?_); rintro e w2 ⟨rfl, hb⟩; have HB2 := Lib.hid (HB.out.trans (hb.mono HB.out.size)); clear hb))
  go_ret
  exact ⟨rfl, HB2.out⟩
theorem mul_sq (r h l : Nat) (hh : h = pHi r r) (hl : l = pLo r r) (hr : r < 18446744073709551616) (w : World) :
    Calls Try.prog 21 #[.int .u64 (r : Int), .int .u64 (r : Int)] w fun e w' => e = .returned (.agg #[.int .u64 (h : Int), .int .u64 (l : Int)]) ∧ Below w.heap.size w w' := by
  rw [hh, hl]
  exact mul_any r r w hr hr
theorem numW_eq {a b h l : Nat} (hb : b < 18446744073709551616) (hl : l < 18446744073709551616) : numW h l = numW a b ↔ h = a ∧ l = b := by unfold numW; omega
set_option maxHeartbeats 2000000 in
theorem whole_is (a b r : Nat) (w : World) (hr : Gr (numW a b) 1 r) (hrl : r < 18446744073709551616) (ha : a < 18446744073709551616) (hb : b < 18446744073709551616) :
    Calls Try.prog 10 #[.agg #[.int .u64 (a : Int), .int .u64 (b : Int)]] w fun e w' => e = .returned (.bool (decide (r * r = numW a b))) ∧ Below w.heap.size w w' := by
  have H := Lib.hid (OnH.start w a b)
  have HG := Lib.hid (fun W => wide_is a b r W hr ha hb)
  obtain ⟨f1, f2⟩ := H.out.facts
  obtain ⟨h, hh⟩ : ∃ h, h = pHi r r := ⟨_, rfl⟩
  obtain ⟨l, hl⟩ : ∃ l, l = pLo r r := ⟨_, rfl⟩
  have hhl : numW h l = r * r := by rw [hh, hl]; exact Nat.div_add_mod' _ _
  have hlb : l < 18446744073709551616 := by rw [hl]; exact Nat.mod_lt _ (by decide)
  have HM := Lib.hid (fun W => mul_sq r h l hh hl hrl W)
  have hiff := numW_eq (a := a) (h := h) hb hlb
  rw [hhl] at hiff
  clear hh hl hhl hlb ha hb hr hrl
  by_cases h1 : h = a
  · by_cases h2 : l = b
    · have HE := Lib.hid (show true = decide (r * r = numW a b) from (decide_eq_true (hiff.2 ⟨h1, h2⟩)).symm)
      subst h1 h2
      clear hiff
      go_enter Try.func10, Try.ntmps10
      go_wp2_with (go_at_call 7; (with_reducible refine (HG.out _).mono ?_); rintro e w1 ⟨rfl, hb⟩; have H := Lib.hid (H.out.next hb); clear hb f1 f2; obtain ⟨f1, f2⟩ := H.out.facts)
      go_region_held3 (fun w' => w'.cell? ⟨w.heap.size, 0, none⟩ = some (.int .u64 (h : Int)) ∧ w'.cell? ⟨w.heap.size, 1, none⟩ = some (.int .u64 (l : Int)))
        (first | with_reducible exact H.out.facts | with_reducible exact H.out.drew.facts | go_keep)
        (first
          | (go_at_call 21; (with_reducible refine (HM.out _).mono ?_); rintro e w2 ⟨rfl, hb⟩; have H := Lib.hid (H.out.drew.next hb); clear hb))
      all_goals
        go_wp2_with fail
        go_ret
        exact ⟨ret_bool HE.out, H.out.bel⟩
    · have HE := Lib.hid (show false = decide (r * r = numW a b) from (decide_eq_false (fun e => h2 (hiff.1 e).2)).symm)
      have h3 : (l : Int) ≠ (b : Int) := fun e => h2 (Int.ofNat.inj e)
      clear h2
      subst h1
      clear hiff
      go_enter Try.func10, Try.ntmps10
      go_wp2_with (go_at_call 7; (with_reducible refine (HG.out _).mono ?_); rintro e w1 ⟨rfl, hb⟩; have H := Lib.hid (H.out.next hb); clear hb f1 f2; obtain ⟨f1, f2⟩ := H.out.facts)
      go_region_held3 (fun w' => w'.cell? ⟨w.heap.size, 0, none⟩ = some (.int .u64 (h : Int)) ∧ w'.cell? ⟨w.heap.size, 1, none⟩ = some (.int .u64 (b : Int)))
        (first | with_reducible exact H.out.facts | with_reducible exact H.out.drew.facts | go_keep)
        (first
          | (go_at_call 21; (with_reducible refine (HM.out _).mono ?_); rintro e w2 ⟨rfl, hb⟩; have H := Lib.hid (H.out.drew.next hb); clear hb))
      all_goals
        go_wp2_with fail
        go_ret
        exact ⟨ret_bool HE.out, H.out.bel⟩
  · have HE := Lib.hid (show false = decide (r * r = numW a b) from (decide_eq_false (fun e => h1 (hiff.1 e).1)).symm)
    have h3 : (h : Int) ≠ (a : Int) := fun e => h1 (Int.ofNat.inj e)
    clear h1
    clear hiff
    go_enter Try.func10, Try.ntmps10
    go_wp2_with (go_at_call 7; (with_reducible refine (HG.out _).mono ?_); rintro e w1 ⟨rfl, hb⟩; have H := Lib.hid (H.out.next hb); clear hb f1 f2; obtain ⟨f1, f2⟩ := H.out.facts)
    go_region_held3 (fun w' => w'.cell? ⟨w.heap.size, 0, none⟩ = some (.int .u64 (a : Int)) ∧ w'.cell? ⟨w.heap.size, 1, none⟩ = some (.int .u64 (b : Int)))
      (first | with_reducible exact H.out.facts | with_reducible exact H.out.drew.facts | go_keep)
      (first
        | (go_at_call 21; (with_reducible refine (HM.out _).mono ?_); rintro e w2 ⟨rfl, hb⟩; have H := Lib.hid (H.out.drew.next hb); clear hb))
    all_goals
      go_wp2_with fail
      go_ret
      exact ⟨ret_bool HE.out, H.out.bel⟩
end Go.Proofs.Ytbkoeiofofhinaa
