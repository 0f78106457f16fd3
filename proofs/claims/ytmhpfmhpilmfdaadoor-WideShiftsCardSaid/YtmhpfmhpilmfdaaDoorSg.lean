/- Proved here: what the reference package's Shift answers of n below 0, and of the number 0. -/
import Derived.Test.YtmhpfmhpilmfdaaDoorSf
namespace Go.Proofs.YtmhpfmhpilmfdaaDoor
open Go.RowKit

/-- Behind k halvings: what lies in the boxes. -/
def ShD (w wr : World) (x k p q : Nat) : Prop := SB w wr p q ∧ p < 18446744073709551616 ∧ q < 18446744073709551616 ∧ numW p q = x / 2 ^ k
theorem hlv (p q : Nat) (W : World) (hp : p < 18446744073709551616) (hq : q < 18446744073709551616) :
    Calls Tryd.prog 17 #[.agg #[.int .u64 (p : Int), .int .u64 (q : Int)], .int .u64 2] W fun e w' => ∃ r : Nat, e = .returned (.tuple #[.agg #[.int .u64 (hiW (numW p q / 2) : Int), .int .u64 (loW (numW p q / 2) : Int)], .int .u64 (r : Int), .int .i64 0]) ∧ Below W.heap.size W w' :=
  (rdiv_any p q 2 W hq hp (by decide)).mono fun _ _ ⟨x, y, r, c, he, hr, hb⟩ => by
    rcases hr with ⟨h1, _⟩ | ⟨_, rfl, rfl, _, rfl⟩
    · exact absurd h1 (by decide)
    · exact ⟨r, he, hb⟩
theorem hlv0 (q : Nat) (W : World) (hq : q < 18446744073709551616) :
    Calls Tryd.prog 17 #[.agg #[.int .u64 0, .int .u64 (q : Int)], .int .u64 2] W fun e w' => ∃ r : Nat, e = .returned (.tuple #[.agg #[.int .u64 (hiW (numW 0 q / 2) : Int), .int .u64 (loW (numW 0 q / 2) : Int)], .int .u64 (r : Int), .int .i64 0]) ∧ Below W.heap.size W w' := hlv 0 q W (by decide) hq
theorem hlv_step {x k p q : Nat} (hp : p < 18446744073709551616) (hq : q < 18446744073709551616) (h : numW p q = x / 2 ^ k) :
    hiW (numW p q / 2) < 18446744073709551616 ∧ loW (numW p q / 2) < 18446744073709551616 ∧ numW (hiW (numW p q / 2)) (loW (numW p q / 2)) = x / 2 ^ (k + 1) :=
  ⟨hw_lt (by have : numW p q < 18446744073709551616 * 18446744073709551616 := by unfold numW; omega
             omega), lw_lt _, by rw [num_hl, h, Nat.pow_succ, Nat.div_div_eq_div_mul]⟩
theorem shd_end {x k m p q : Nat} (hq : q < 18446744073709551616) (h : numW p q = x / 2 ^ k) (hk : k = m ∨ (k ≤ m ∧ p = 0 ∧ q = 0)) : p = hiW (x / 2 ^ m) ∧ q = loW (x / 2 ^ m) := by
  rcases hk with rfl | ⟨hk, rfl, rfl⟩
  · rw [← h]
    obtain ⟨h1, h2⟩ := hiW_of (h := p) hq
    exact ⟨h1.symm, h2.symm⟩
  · have h0 : x / 2 ^ k = 0 := by rw [← h]; decide
    have : x / 2 ^ m = 0 := by
      have h1 : x / 2 ^ m ≤ x / 2 ^ k := Nat.div_le_div_left (Nat.pow_le_pow_right (show 0 < 2 by decide) hk) (Nat.two_pow_pos k)
      rw [h0] at h1
      exact Nat.le_zero.1 h1
    rw [this]
    decide
set_option maxHeartbeats 2000000 in
set_option maxRecDepth 100000 in
theorem rshift_dnA (a b m : Nat) (w : World) (ha : a < 18446744073709551616) (hb : b < 18446744073709551616) (hm : m ≤ 200) (hm1 : 0 < m) (h0 : (a : Int) ≠ 0) :
    Calls Tryd.prog 19 #[.agg #[.int .u64 (a : Int), .int .u64 (b : Int)], .int .i64 (-(m : Int))] w fun e w' => e = .returned (.tuple #[.agg #[.int .u64 (hiW (numW a b / 2 ^ m) : Int), .int .u64 (loW (numW a b / 2 ^ m) : Int)], .int .i64 0]) ∧ Below w.heap.size w w' := by
  have HS := Lib.hid (SB.start w a b)
  have HA : Hid (a < 18446744073709551616 ∧ b < 18446744073709551616) := ⟨ha, hb⟩
  have hm0 : ¬ ((0 : Int) < -(m : Int)) := by omega
  clear ha hb
  go_enter Tryd.func19, Tryd.ntmps19
  go_wp2_with fail
  go_loop [6] (fun i => i = .int .i64 0) (fun _ => 0)
  case atStart => rfl
  case round =>
    obtain rfl := hrel
    go_wp2_with fail
    go_loopw [9] (fun i wr => ∃ k p q : Nat, i = .int .i64 (-(k : Int)) ∧ k ≤ m ∧ ShD w wr (numW a b) k p q) (fun i _ => (1000 + intOf i).toNat)
    case atStart => exact ⟨0, a, b, rfl, by omega, HS.out, HA.out.1, HA.out.2, by simp⟩
    case round =>
      obtain ⟨k, p, q, rfl, hk, hr⟩ := hrel
      have HR := Lib.hid hr
      clear hr
      have c0 := HR.out.1.1.c0
      have c1 := HR.out.1.1.c1
      have e1 : IntKind.i64.wrap (-(k : Int) - 1) = -((k + 1 : Nat) : Int) := by rw [IntWalk.i64_in _ (by omega)]; omega
      by_cases hgo : -(m : Int) < -(k : Int)
      · by_cases hp : (p : Int) ≠ 0
        · skip
          have HF := Lib.hid (hlv_step (x := numW a b) (k := k) HR.out.2.1 HR.out.2.2.1 HR.out.2.2.2)
          have HK := Lib.hid (fun W => hlv p q W HR.out.2.1 HR.out.2.2.1)
          obtain ⟨x, hx⟩ : ∃ x, x = hiW (numW p q / 2) := ⟨_, rfl⟩
          obtain ⟨y, hy⟩ : ∃ y, y = loW (numW p q / 2) := ⟨_, rfl⟩
          rw [← hx, ← hy] at HK HF
          clear hx hy
          go_wp2_with (go_at_call 17; (with_reducible refine (HK.out _).mono ?_); rintro e wa ⟨r, rfl, hba⟩; have HSa := Lib.hid (HR.out.1.next hba); have b0 := HSa.out.1.c0; have b1 := HSa.out.1.c1; have b2 := HSa.out.1.fr 0; have b3 := HSa.out.1.fr 1; have l1 := HSa.out.1.lt; clear hba c0 c1)
          exact ⟨⟨k + 1, x, y, rfl, by omega, HSa.out.put x y, HF.out⟩, by simp [intOf]; omega⟩
        · obtain rfl : p = 0 := by omega
          replace c0 : wr.cell? ⟨w.heap.size, 0, none⟩ = some (.int .u64 0) := c0
          by_cases hq : (q : Int) ≠ 0
          · skip
            have HF := Lib.hid (hlv_step (x := numW a b) (k := k) HR.out.2.1 HR.out.2.2.1 HR.out.2.2.2)
            have HK := Lib.hid (fun W => hlv0 q W HR.out.2.2.1)
            obtain ⟨x, hx⟩ : ∃ x, x = hiW (numW 0 q / 2) := ⟨_, rfl⟩
            obtain ⟨y, hy⟩ : ∃ y, y = loW (numW 0 q / 2) := ⟨_, rfl⟩
            rw [← hx, ← hy] at HK HF
            clear hx hy
            go_wp2_with (go_at_call 17; (with_reducible refine (HK.out _).mono ?_); rintro e wa ⟨r, rfl, hba⟩; have HSa := Lib.hid (HR.out.1.next hba); have b0 := HSa.out.1.c0; have b1 := HSa.out.1.c1; have b2 := HSa.out.1.fr 0; have b3 := HSa.out.1.fr 1; have l1 := HSa.out.1.lt; clear hba c0 c1)
            exact ⟨⟨k + 1, x, y, rfl, by omega, HSa.out.put x y, HF.out⟩, by simp [intOf]; omega⟩
          · obtain rfl : q = 0 := by omega
            replace c1 : wr.cell? ⟨w.heap.size, 1, none⟩ = some (.int .u64 0) := c1
            have HF := Lib.hid (shd_end (x := numW a b) (k := k) (m := m) HR.out.2.2.1 HR.out.2.2.2 (.inr ⟨by omega, rfl, rfl⟩))
            have b2 := HR.out.1.2.1.fr 0
            have b3 := HR.out.1.2.1.fr 1
            have b0 := HR.out.1.2.1.c0
            have b1 := HR.out.1.2.1.c1
            have l1 := HR.out.1.2.1.lt
            go_wp2_with fail
            exact bodyPost_ret (ret_box2 rfl rfl rfl ((HR.out.1.2.1.set0 0).set1 0)) rfl ⟨by rw [← HF.out.1, ← HF.out.2]; rfl, (HR.out.1.2.2.setCell (Nat.le_succ _) _).setCell (Nat.le_succ _) _⟩
      · skip
        have HF := Lib.hid (shd_end (x := numW a b) (k := k) (m := m) HR.out.2.2.1 HR.out.2.2.2 (.inl (by omega)))
        have b2 := HR.out.1.2.1.fr 0
        have b3 := HR.out.1.2.1.fr 1
        have b0 := HR.out.1.2.1.c0
        have b1 := HR.out.1.2.1.c1
        have l1 := HR.out.1.2.1.lt
        go_wp2_with fail
        exact bodyPost_ret (ret_box2 rfl rfl rfl ((HR.out.1.2.1.set0 p).set1 q)) rfl ⟨by rw [← HF.out.1, ← HF.out.2]; rfl, (HR.out.1.2.2.setCell (Nat.le_succ _) _).setCell (Nat.le_succ _) _⟩
set_option maxHeartbeats 2000000 in
set_option maxRecDepth 100000 in
theorem rshift_dnB (b m : Nat) (w : World) (hb : b < 18446744073709551616) (hm : m ≤ 200) (hm1 : 0 < m) (h0 : (b : Int) ≠ 0) :
    Calls Tryd.prog 19 #[.agg #[.int .u64 0, .int .u64 (b : Int)], .int .i64 (-(m : Int))] w fun e w' => e = .returned (.tuple #[.agg #[.int .u64 (hiW (numW 0 b / 2 ^ m) : Int), .int .u64 (loW (numW 0 b / 2 ^ m) : Int)], .int .i64 0]) ∧ Below w.heap.size w w' := by
  have HS := Lib.hid (SB.start w 0 b)
  have HA : Hid (0 < 18446744073709551616 ∧ b < 18446744073709551616) := ⟨by decide, hb⟩
  have hm0 : ¬ ((0 : Int) < -(m : Int)) := by omega
  clear hb
  go_enter Tryd.func19, Tryd.ntmps19
  go_wp2_with fail
  go_loop [6] (fun i => i = .int .i64 0) (fun _ => 0)
  case atStart => rfl
  case round =>
    obtain rfl := hrel
    go_wp2_with fail
    go_loopw [9] (fun i wr => ∃ k p q : Nat, i = .int .i64 (-(k : Int)) ∧ k ≤ m ∧ ShD w wr (numW 0 b) k p q) (fun i _ => (1000 + intOf i).toNat)
    case atStart => exact ⟨0, 0, b, rfl, by omega, HS.out, HA.out.1, HA.out.2, by simp⟩
    case round =>
      obtain ⟨k, p, q, rfl, hk, hr⟩ := hrel
      have HR := Lib.hid hr
      clear hr
      have c0 := HR.out.1.1.c0
      have c1 := HR.out.1.1.c1
      have e1 : IntKind.i64.wrap (-(k : Int) - 1) = -((k + 1 : Nat) : Int) := by rw [IntWalk.i64_in _ (by omega)]; omega
      by_cases hgo : -(m : Int) < -(k : Int)
      · by_cases hp : (p : Int) ≠ 0
        · skip
          have HF := Lib.hid (hlv_step (x := numW 0 b) (k := k) HR.out.2.1 HR.out.2.2.1 HR.out.2.2.2)
          have HK := Lib.hid (fun W => hlv p q W HR.out.2.1 HR.out.2.2.1)
          obtain ⟨x, hx⟩ : ∃ x, x = hiW (numW p q / 2) := ⟨_, rfl⟩
          obtain ⟨y, hy⟩ : ∃ y, y = loW (numW p q / 2) := ⟨_, rfl⟩
          rw [← hx, ← hy] at HK HF
          clear hx hy
          go_wp2_with (go_at_call 17; (with_reducible refine (HK.out _).mono ?_); rintro e wa ⟨r, rfl, hba⟩; have HSa := Lib.hid (HR.out.1.next hba); have b0 := HSa.out.1.c0; have b1 := HSa.out.1.c1; have b2 := HSa.out.1.fr 0; have b3 := HSa.out.1.fr 1; have l1 := HSa.out.1.lt; clear hba c0 c1)
          exact ⟨⟨k + 1, x, y, rfl, by omega, HSa.out.put x y, HF.out⟩, by simp [intOf]; omega⟩
        · obtain rfl : p = 0 := by omega
          replace c0 : wr.cell? ⟨w.heap.size, 0, none⟩ = some (.int .u64 0) := c0
          by_cases hq : (q : Int) ≠ 0
          · skip
            have HF := Lib.hid (hlv_step (x := numW 0 b) (k := k) HR.out.2.1 HR.out.2.2.1 HR.out.2.2.2)
            have HK := Lib.hid (fun W => hlv0 q W HR.out.2.2.1)
            obtain ⟨x, hx⟩ : ∃ x, x = hiW (numW 0 q / 2) := ⟨_, rfl⟩
            obtain ⟨y, hy⟩ : ∃ y, y = loW (numW 0 q / 2) := ⟨_, rfl⟩
            rw [← hx, ← hy] at HK HF
            clear hx hy
            go_wp2_with (go_at_call 17; (with_reducible refine (HK.out _).mono ?_); rintro e wa ⟨r, rfl, hba⟩; have HSa := Lib.hid (HR.out.1.next hba); have b0 := HSa.out.1.c0; have b1 := HSa.out.1.c1; have b2 := HSa.out.1.fr 0; have b3 := HSa.out.1.fr 1; have l1 := HSa.out.1.lt; clear hba c0 c1)
            exact ⟨⟨k + 1, x, y, rfl, by omega, HSa.out.put x y, HF.out⟩, by simp [intOf]; omega⟩
          · obtain rfl : q = 0 := by omega
            replace c1 : wr.cell? ⟨w.heap.size, 1, none⟩ = some (.int .u64 0) := c1
            have HF := Lib.hid (shd_end (x := numW 0 b) (k := k) (m := m) HR.out.2.2.1 HR.out.2.2.2 (.inr ⟨by omega, rfl, rfl⟩))
            have b2 := HR.out.1.2.1.fr 0
            have b3 := HR.out.1.2.1.fr 1
            have b0 := HR.out.1.2.1.c0
            have b1 := HR.out.1.2.1.c1
            have l1 := HR.out.1.2.1.lt
            go_wp2_with fail
            exact bodyPost_ret (ret_box2 rfl rfl rfl ((HR.out.1.2.1.set0 0).set1 0)) rfl ⟨by rw [← HF.out.1, ← HF.out.2]; rfl, (HR.out.1.2.2.setCell (Nat.le_succ _) _).setCell (Nat.le_succ _) _⟩
      · skip
        have HF := Lib.hid (shd_end (x := numW 0 b) (k := k) (m := m) HR.out.2.2.1 HR.out.2.2.2 (.inl (by omega)))
        have b2 := HR.out.1.2.1.fr 0
        have b3 := HR.out.1.2.1.fr 1
        have b0 := HR.out.1.2.1.c0
        have b1 := HR.out.1.2.1.c1
        have l1 := HR.out.1.2.1.lt
        go_wp2_with fail
        exact bodyPost_ret (ret_box2 rfl rfl rfl ((HR.out.1.2.1.set0 p).set1 q)) rfl ⟨by rw [← HF.out.1, ← HF.out.2]; rfl, (HR.out.1.2.2.setCell (Nat.le_succ _) _).setCell (Nat.le_succ _) _⟩
set_option maxHeartbeats 2000000 in
set_option maxRecDepth 100000 in
theorem rshift_zero (n : Int) (w : World) :
    Calls Tryd.prog 19 #[.agg #[.int .u64 0, .int .u64 0], .int .i64 n] w fun e w' => e = .returned (.tuple #[.agg #[.int .u64 ((0 : Nat) : Int), .int .u64 ((0 : Nat) : Int)], .int .i64 0]) ∧ Below w.heap.size w w' := by
  have HS := Lib.hid (SB.start w 0 0)
  go_enter Tryd.func19, Tryd.ntmps19
  go_wp2_with fail
  exact bodyPost_ret (ret_box2 rfl rfl rfl (new2 w _ 0 0)) rfl ⟨rfl, bel2 w _ _⟩
end Go.Proofs.YtmhpfmhpilmfdaaDoor
