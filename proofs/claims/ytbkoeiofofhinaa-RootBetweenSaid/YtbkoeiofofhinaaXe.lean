/- Proved here: what the document's Ratio answers and leaves in memory. Condition: numbers of 64 bits as halves. -/
import Derived.Test.YtbkoeiofofhinaaXd
import Derived.Deep.CutBlock
import Derived.Deep.DeepCutAuto
import Derived.Deep.CutRange
namespace Go.Proofs.Ytbkoeiofofhinaa
open Go.RowKit

/-- What holds at each round's head of a fraction's root that is found bit by bit. -/
def RatR (w wr : World) (a b c d t : Nat) (r i : Value) : Prop := ∃ k m : Nat, r = .int .u64 (m : Int) ∧ i = idx k ∧ k ≤ t ∧ Bt (numW a b) (numW c d) t k m ∧ TwH w wr a b c d
/-- What is answered of a fraction: its root and 0; 0 and 13 where it is divided by 0; 0 and 2 where the root is too great. -/
def RatA (n d r : Nat) (x : Int) : Prop := (d = 0 ∧ r = 0 ∧ x = 13) ∨ (0 < d ∧ sq 4294967296 d ≤ n ∧ r = 0 ∧ x = 2) ∨ (0 < d ∧ n < sq 4294967296 d ∧ Gr n d r ∧ x = 0)
theorem RatA.same {n d r s : Nat} {x y : Int} (h : RatA n d r x) (k : RatA n d s y) : r = s ∧ x = y := by
  rcases h with ⟨h1, h2, h3⟩ | ⟨h1, h2, h3, h4⟩ | ⟨h1, h2, h3, h4⟩ <;> rcases k with ⟨k1, k2, k3⟩ | ⟨k1, k2, k3, k4⟩ | ⟨k1, k2, k3, k4⟩
  · exact ⟨by rw [h2, k2], by rw [h3, k3]⟩
  · omega
  · omega
  · omega
  · exact ⟨by rw [h3, k3], by rw [h4, k4]⟩
  · omega
  · omega
  · omega
  · exact ⟨h3.same k3, by rw [h4, k4]⟩
def RatE (n d : Nat) (w : World) (e : Ending) (w' : World) : Prop := ∃ (r : Nat) (x : Int), e = .returned (.tuple #[.int .u64 (r : Int), .int .i64 x]) ∧ RatA n d r x ∧ Below w.heap.size w w'
theorem numW_zero {c d : Nat} (hd : d < 18446744073709551616) : numW c d = 0 ↔ c = 0 ∧ d = 0 := by unfold numW; omega
theorem rbelow32 (a b c d : Nat) (v : Bool) (ha : a < 18446744073709551616) (hb : b < 18446744073709551616) (hc : c < 18446744073709551616) (hd : d < 18446744073709551616) (hv : bw 4294967296 (numW c d) (numW a b) = v) (w : World) :
    Calls Try.prog 15 #[.int .u64 4294967296, .agg #[.int .u64 (a : Int), .int .u64 (b : Int)], .agg #[.int .u64 (c : Int), .int .u64 (d : Int)]] w fun e w' => e = .returned (.bool v) ∧ Below w.heap.size w w' := by
  rw [← hv]
  exact rbelow_any 4294967296 a b c d w (by decide) ha hb hc hd
theorem zeroB {c d : Nat} (hd : d < 18446744073709551616) (v : Bool) (h : v = true ↔ c = 0 ∧ d = 0) : Value.bool v = .bool (decide (numW c d = 0)) := by
  congr 1
  rw [Bool.eq_iff_iff, h, decide_eq_true_eq, numW_zero hd]
set_option maxHeartbeats 4000000 in
set_option maxRecDepth 100000 in
theorem rratio_any (a b c d : Nat) (w : World) (ha : a < 18446744073709551616) (hb : b < 18446744073709551616) (hc : c < 18446744073709551616) (hd : d < 18446744073709551616) :
    Calls Try.prog 13 #[.agg #[.int .u64 (a : Int), .int .u64 (b : Int)], .agg #[.int .u64 (c : Int), .int .u64 (d : Int)]] w (RatE (numW a b) (numW c d) w) := by
  have H0 := Lib.hid (TwH.start w a b c d)
  have HW := Lib.hid (fun r hr W => rbelow_any r a b c d W hr ha hb hc hd)
  have HT0 := Lib.hid (fun v hv W => rbelow32 a b c d v ha hb hc hd hv W)
  obtain ⟨f1, f2, f3, f4⟩ := H0.out.facts
  have HZ := Lib.hid hd
  clear ha hb hc hd
  go_enter Try.func13, Try.ntmps13
  go_upto_region 1 with fail
  go_cut [10] from 8 to 10 (fun t wx => t = .bool (decide (numW c d = 0)) ∧ TwH w wx a b c d)
  case first =>
    go_wp2_with fail
    all_goals
      (try subst_vars)
      go_meet
      refine ⟨zeroB HZ.out _ ?_, H0.out⟩
      simp
      try omega
  case rest =>
    obtain ⟨rfl, hx⟩ := hcut
    have H0 := Lib.hid hx
    clear hx f1 f2 f3 f4
    obtain ⟨f1, f2, f3, f4⟩ := H0.out.facts
    by_cases h0 : numW c d = 0
    · have HA := Lib.hid (show RatA (numW a b) (numW c d) 0 13 from .inl ⟨h0, rfl, rfl⟩)
      rw [show decide (numW c d = 0) = true from decide_eq_true h0]
      clear h0
      go_wp2_with fail
      go_ret2
      exact ⟨0, 13, rfl, HA.out, H0.out.bel⟩
    · have HP := Lib.hid (show 0 < numW c d by omega)
      rw [show decide (numW c d = 0) = false from decide_eq_false h0]
      clear h0
      by_cases ht : sq 4294967296 (numW c d) ≤ numW a b
      · have hq : bw 4294967296 (numW c d) (numW a b) = true := decide_eq_true ht
        have HA := Lib.hid (show RatA (numW a b) (numW c d) 0 2 from .inr (.inl ⟨HP.out, ht, rfl, rfl⟩))
        have HT := Lib.hid (fun W => HT0.out _ hq W)
        clear ht hq
        go_wp2_with (go_at_call 15; (with_reducible refine (HT.out _).mono ?_); rintro e w1 ⟨rfl, hb⟩; have H := Lib.hid (H0.out.next hb); clear hb)
        go_ret2
        exact ⟨0, 2, rfl, HA.out, H.out.bel⟩
      · have hq : bw 4294967296 (numW c d) (numW a b) = false := decide_eq_false ht
        have HL := Lib.hid (Nat.lt_of_not_le ht)
        have HT := Lib.hid (fun W => HT0.out _ hq W)
        have HS := Lib.hid (Bt.start (t := 32) HL.out)
        clear ht hq
        go_wp2_with (go_at_call 15; (with_reducible refine (HT.out _).mono ?_); rintro e w1 ⟨rfl, hb⟩; have H0 := Lib.hid (H0.out.next hb); clear hb)
        clear f1 f2 f3 f4
        go_loopw [6, 7] (fun r i wr => RatR w wr a b c d 32 r i) (fun _ i _ => (intOf i + 1).toNat)
        case atStart => exact ⟨32, 0, rfl, rfl, by decide, HS.out, H0.out⟩
        case round =>
          obtain ⟨k, m, rfl, rfl, hk, hbt, hon⟩ := hrel
          have H := Lib.hid hon
          have HB := Lib.hid hbt
          obtain ⟨f1, f2, f3, f4⟩ := hon.facts
          clear hon hbt
          rcases k with _ | j
          · clear f1 f2 f3 f4
            simp only [idx]
            go_wp2_with fail
            go_ret2
            exact ⟨m, 0, rfl, .inr (.inr ⟨HP.out, HL.out, HB.out.gr, rfl⟩), H.out.bel⟩
          · have hm := HB.out.room32
            have E1 := shl_one (k := j) (by omega)
            have E3 := wrap_down j (by omega)
            obtain ⟨P, hP⟩ : ∃ P, P = 2 ^ j := ⟨_, rfl⟩
            rw [← hP] at E1 hm
            have E2 := add_one_ (Nat.lt_trans hm (by decide))
            obtain ⟨x, hx⟩ : ∃ x, x = m + P := ⟨_, rfl⟩
            rw [← hx] at E2 hm
            have HC := Lib.hid (show x = m + 2 ^ j by rw [hx, hP])
            have HX := Lib.hid (fun W => HW.out x (by omega) W)
            clear hP hx hm
            simp only [idx]
            by_cases hg : sq x (numW c d) ≤ numW a b
            · rw [show bw x (numW c d) (numW a b) = true from decide_eq_true hg] at HX
              have HG := Lib.hid (HB.out.hit (HC.out ▸ hg))
              rw [← HC.out] at HG
              clear hg
              go_wp2_with fail
              go_region_held3 (fun w' => w'.cell? ⟨w.heap.size, 0, none⟩ = some (.int .u64 (a : Int)) ∧ w'.cell? ⟨w.heap.size, 1, none⟩ = some (.int .u64 (b : Int)) ∧ w'.cell? ⟨w.heap.size + 1, 0, none⟩ = some (.int .u64 (c : Int)) ∧ w'.cell? ⟨w.heap.size + 1, 1, none⟩ = some (.int .u64 (d : Int)))
                (first | with_reducible exact H.out.facts | with_reducible exact H.out.drew.facts | go_keep)
                (first
                  | (go_at_call 15; (with_reducible refine (HX.out _).mono ?_); rintro e w2 ⟨rfl, hb⟩; have H := Lib.hid (H.out.drew.next hb); clear hb))
              all_goals
                go_wp2_with fail
                exact ⟨⟨j, x, rfl, idx_down j, by omega, HG.out, H.out⟩, by simp [intOf]⟩
            · rw [show bw x (numW c d) (numW a b) = false from decide_eq_false hg] at HX
              have HG := Lib.hid (HB.out.miss (HC.out ▸ hg))
              clear hg
              go_wp2_with fail
              go_region_held3 (fun w' => w'.cell? ⟨w.heap.size, 0, none⟩ = some (.int .u64 (a : Int)) ∧ w'.cell? ⟨w.heap.size, 1, none⟩ = some (.int .u64 (b : Int)) ∧ w'.cell? ⟨w.heap.size + 1, 0, none⟩ = some (.int .u64 (c : Int)) ∧ w'.cell? ⟨w.heap.size + 1, 1, none⟩ = some (.int .u64 (d : Int)))
                (first | with_reducible exact H.out.facts | with_reducible exact H.out.drew.facts | go_keep)
                (first
                  | (go_at_call 15; (with_reducible refine (HX.out _).mono ?_); rintro e w2 ⟨rfl, hb⟩; have H := Lib.hid (H.out.drew.next hb); clear hb))
              all_goals
                go_wp2_with fail
                exact ⟨⟨j, m, rfl, idx_down j, by omega, HG.out, H.out⟩, by simp [intOf]⟩
end Go.Proofs.Ytbkoeiofofhinaa
