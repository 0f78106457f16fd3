/- Proved here: what the document's root of a number, found bit by bit, answers and leaves in memory. Condition: halves of 64 bits. -/
import Derived.Test.YtbkoeiofofhinaaXb
namespace Go.Proofs.Ytbkoeiofofhinaa
open Go.RowKit

/-- The place of a digit, as it is counted down. -/
def idx : Nat → Value
  | 0 => .int .i64 (-1)
  | j + 1 => .int .i64 (j : Int)
/-- What holds at each round's head of a root that is found bit by bit. -/
def WidR (w wr : World) (a b d t : Nat) (r i : Value) : Prop := ∃ k m : Nat, r = .int .u64 (m : Int) ∧ i = idx k ∧ k ≤ t ∧ Bt (numW a b) d t k m ∧ OnH w wr a b
/-- A root is answered. -/
def RootE (n d t : Nat) (w : World) (e : Ending) (w' : World) : Prop := ∃ r : Nat, e = .returned (.int .u64 (r : Int)) ∧ Gr n d r ∧ r < 2 ^ t ∧ Below w.heap.size w w'
theorem sq_top {a b : Nat} (ha : a < 18446744073709551616) (hb : b < 18446744073709551616) {d : Nat} (hd : 0 < d) : numW a b < sq (2 ^ 64) d := by
  have h1 : numW a b < 2 ^ 64 * 2 ^ 64 := by unfold numW; omega
  exact Nat.lt_of_lt_of_le h1 (Nat.le_mul_of_pos_right _ hd)
theorem sq_one (r : Nat) : sq r 1 = r * r := Nat.mul_one _
theorem idx_down (j : Nat) : Value.int .i64 ((j : Int) - 1) = idx j := by
  cases j with
  | zero => rfl
  | succ k => show Value.int .i64 (((k + 1 : Nat) : Int) - 1) = .int .i64 (k : Int); congr 1; omega
theorem wrap_down (j : Nat) (h : j < 64) : IntKind.i64.wrap ((j : Int) - 1) = (j : Int) - 1 := IntWalk.i64_in _ (by omega)
set_option maxHeartbeats 4000000 in
set_option maxRecDepth 100000 in
theorem rwide_any (a b : Nat) (w : World) (ha : a < 18446744073709551616) (hb : b < 18446744073709551616) :
    Calls Try.prog 8 #[.agg #[.int .u64 (a : Int), .int .u64 (b : Int)]] w (RootE (numW a b) 1 64 w) := by
  have H0 := Lib.hid (OnH.start w a b)
  have HN := Lib.hid (fun W => digits_num a b W ha hb)
  have HT := Lib.hid (Bt.start (sq_top ha hb (d := 1) (by decide)))
  clear ha hb
  go_enter Try.func8, Try.ntmps8
  go_wp2_with fail
  go_loopw [3, 4] (fun r i wr => WidR w wr a b 1 64 r i) (fun _ i _ => (intOf i + 1).toNat)
  case atStart => exact ⟨64, 0, rfl, rfl, by decide, HT.out, H0.out⟩
  case round =>
    obtain ⟨k, m, rfl, rfl, hk, hbt, hon⟩ := hrel
    have H := Lib.hid hon
    have HB := Lib.hid hbt
    obtain ⟨f1, f2⟩ := hon.facts
    clear hon hbt
    rcases k with _ | j
    · clear f1 f2
      simp only [idx]
      go_wp2_with fail
      go_ret
      exact ⟨m, rfl, HB.out.gr, HB.out.small, H.out.bel⟩
    · have hm := HB.out.room
      have E1 := shl_one (k := j) (by omega)
      have E3 := wrap_down j (by omega)
      obtain ⟨P, hP⟩ : ∃ P, P = 2 ^ j := ⟨_, rfl⟩
      rw [← hP] at E1 hm
      have E2 := add_one_ hm
      obtain ⟨c, hc⟩ : ∃ c, c = m + P := ⟨_, rfl⟩
      rw [← hc] at E2
      have HC := Lib.hid (show c = m + 2 ^ j by rw [hc, hP])
      have HS := Lib.hid (fun W => square_num c W (by omega))
      clear hP hc hm
      simp only [idx]
      by_cases hg : sq c 1 ≤ numW a b
      · have hq : decide (cmpI (c * c) (numW a b) ≤ 0) = true := by rw [cmpI_le, ← sq_one]; exact decide_eq_true hg
        have HG := Lib.hid (HB.out.hit (HC.out ▸ hg))
        rw [← HC.out] at HG
        clear hg
        go_wp2_with fail
        go_region_held3 (fun w' => w'.cell? ⟨w.heap.size, 0, none⟩ = some (.int .u64 (a : Int)) ∧ w'.cell? ⟨w.heap.size, 1, none⟩ = some (.int .u64 (b : Int)))
          (first | with_reducible exact H.out.facts | with_reducible exact H.out.drew.facts | go_keep)
          (first
            | (go_at_call 19; (with_reducible refine (HS.out _).mono ?_); rintro e w1 ⟨z1, rfl, hz, hb⟩; have Z1 := Lib.hid hz; have H := Lib.hid (H.out.drew.next hb); clear hz hb)
            | (go_at_call 20; (with_reducible refine (HN.out _).mono ?_); rintro e w2 ⟨z2, rfl, hz, hb⟩; have Z2 := Lib.hid hz; have Z1 := Lib.hid (Z1.out.below hb (Nat.le_refl _)); have H := Lib.hid (H.out.next hb); clear hz hb)
            | (go_at_call 18; (with_reducible refine (less_num z1 z2 _ _ 17 8 _ Z1.out Z2.out (by decide) (by decide)).mono ?_); rintro e w5 ⟨rfl, rfl⟩))
        all_goals
          go_wp2_with fail
          exact ⟨⟨j, c, rfl, idx_down j, by omega, HG.out, H.out⟩, by simp [intOf]⟩
      · have hq : decide (cmpI (c * c) (numW a b) ≤ 0) = false := by rw [cmpI_le, ← sq_one]; exact decide_eq_false hg
        have HG := Lib.hid (HB.out.miss (HC.out ▸ hg))
        clear hg
        go_wp2_with fail
        go_region_held3 (fun w' => w'.cell? ⟨w.heap.size, 0, none⟩ = some (.int .u64 (a : Int)) ∧ w'.cell? ⟨w.heap.size, 1, none⟩ = some (.int .u64 (b : Int)))
          (first | with_reducible exact H.out.facts | with_reducible exact H.out.drew.facts | go_keep)
          (first
            | (go_at_call 19; (with_reducible refine (HS.out _).mono ?_); rintro e w1 ⟨z1, rfl, hz, hb⟩; have Z1 := Lib.hid hz; have H := Lib.hid (H.out.drew.next hb); clear hz hb)
            | (go_at_call 20; (with_reducible refine (HN.out _).mono ?_); rintro e w2 ⟨z2, rfl, hz, hb⟩; have Z2 := Lib.hid hz; have Z1 := Lib.hid (Z1.out.below hb (Nat.le_refl _)); have H := Lib.hid (H.out.next hb); clear hz hb)
            | (go_at_call 18; (with_reducible refine (less_num z1 z2 _ _ 17 8 _ Z1.out Z2.out (by decide) (by decide)).mono ?_); rintro e w5 ⟨rfl, rfl⟩))
        all_goals
          go_wp2_with fail
          exact ⟨⟨j, m, rfl, idx_down j, by omega, HG.out, H.out⟩, by simp [intOf]⟩
end Go.Proofs.Ytbkoeiofofhinaa
