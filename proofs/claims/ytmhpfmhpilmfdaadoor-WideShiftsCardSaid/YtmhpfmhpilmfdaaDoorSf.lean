/- Proved here: what the reference package's Shift answers of n from 0 to 200. -/
import Derived.Test.YtmhpfmhpilmfdaaDoorSe
import Derived.Test.YtmhpfmhpilmfdaaDoorRl
namespace Go.Proofs.YtmhpfmhpilmfdaaDoor
open Go.RowKit

/-- Behind k doublings: what lies in the boxes. -/
def ShU (w wr : World) (x k h l : Nat) : Prop := SB w wr h l ∧ h < 18446744073709551616 ∧ l < 18446744073709551616 ∧ numW h l = x * 2 ^ k
theorem SB.put {w W : World} {a b : Nat} (h : SB w W a b) (x y : Nat) : SB w ((W.setCell ⟨w.heap.size, 0, none⟩ (.int .u64 (x : Int))).setCell ⟨w.heap.size, 1, none⟩ (.int .u64 (y : Int))) x y :=
  ⟨(h.1.set0 x).set1 y, (h.2.1.far (by simp) _).far (by simp) _, (h.2.2.setCell (Nat.le_refl _) _).setCell (Nat.le_refl _) _⟩
theorem SB.drew {w W : World} {a b : Nat} (h : SB w W a b) : SB w W.drew a b := ⟨h.1.drew, h.2.1.drew, h.2.2.drew⟩
theorem dbl_fit (h l : Nat) (W : World) (hh : h < 18446744073709551616) (hl : l < 18446744073709551616) (hf : numW h l + numW h l < 65536 ^ 8) :
    Calls Tryd.prog 9 #[.agg #[.int .u64 (h : Int), .int .u64 (l : Int)], .agg #[.int .u64 (h : Int), .int .u64 (l : Int)]] W fun e w' => e = .returned (.tuple #[.agg #[.int .u64 (hiW (numW h l + numW h l) : Int), .int .u64 (loW (numW h l + numW h l) : Int)], .int .i64 0]) ∧ Below W.heap.size W w' :=
  (radd_any h l h l W hh hl hh hl).mono fun _ _ ⟨x, y, z, he, hr, hb⟩ => by
    rcases hr with ⟨_, rfl, rfl, rfl⟩ | ⟨h1, _⟩
    · exact ⟨he, hb⟩
    · exact absurd hf h1
theorem dbl_over (h l : Nat) (W : World) (hh : h < 18446744073709551616) (hl : l < 18446744073709551616) (hf : ¬ numW h l + numW h l < 65536 ^ 8) :
    Calls Tryd.prog 9 #[.agg #[.int .u64 (h : Int), .int .u64 (l : Int)], .agg #[.int .u64 (h : Int), .int .u64 (l : Int)]] W fun e w' => e = .returned (.tuple #[.agg #[.int .u64 ((0 : Nat) : Int), .int .u64 ((0 : Nat) : Int)], .int .i64 2]) ∧ Below W.heap.size W w' :=
  (radd_any h l h l W hh hl hh hl).mono fun _ _ ⟨x, y, z, he, hr, hb⟩ => by
    rcases hr with ⟨h1, _⟩ | ⟨_, rfl, rfl, rfl⟩
    · exact absurd h1 hf
    · exact ⟨he, hb⟩
theorem dbl_step {x k p q : Nat} (h : numW p q = x * 2 ^ k) (hf : numW p q + numW p q < 65536 ^ 8) :
    hiW (numW p q + numW p q) < 18446744073709551616 ∧ loW (numW p q + numW p q) < 18446744073709551616 ∧ numW (hiW (numW p q + numW p q)) (loW (numW p q + numW p q)) = x * 2 ^ (k + 1) :=
  ⟨hw_lt (by rw [← e8b]; exact hf), lw_lt _, by rw [num_hl, h, Nat.pow_succ]; grind⟩
theorem dbl_over_end {x k m p q : Nat} (hk : k < m) (h : numW p q = x * 2 ^ k) (hf : ¬ numW p q + numW p q < 65536 ^ 8) : ¬ x * 2 ^ m < 65536 ^ 8 := by
  have h1 := Nat.mul_le_mul_left x (Nat.pow_le_pow_right (show 0 < 2 by decide) (show k + 1 ≤ m from hk))
  have h2 : x * 2 ^ (k + 1) = numW p q + numW p q := by rw [h, Nat.pow_succ]; grind
  omega
theorem shu_end {x k m p q : Nat} (hk : k = m) (h : p < 18446744073709551616 ∧ q < 18446744073709551616 ∧ numW p q = x * 2 ^ k) : FitR (x * 2 ^ m) p q 0 := by
  subst hk
  rw [← h.2.2]
  obtain ⟨h1, h2⟩ := hiW_of (h := p) h.2.1
  exact .inl ⟨by rw [e8b]; have := h.1; have := h.2.1; unfold numW; omega, h1.symm, h2.symm, rfl⟩
set_option maxHeartbeats 2000000 in
set_option maxRecDepth 100000 in
theorem rshift_upA (a b m : Nat) (w : World) (ha : a < 18446744073709551616) (hb : b < 18446744073709551616) (hm : m ≤ 200) (h0 : (a : Int) ≠ 0) :
    Calls Tryd.prog 19 #[.agg #[.int .u64 (a : Int), .int .u64 (b : Int)], .int .i64 (m : Int)] w (FitE (numW a b * 2 ^ m) w) := by
  have HS := Lib.hid (SB.start w a b)
  have HA : Hid (a < 18446744073709551616 ∧ b < 18446744073709551616) := ⟨ha, hb⟩
  have hm0 : ¬ ((0 : Int) > (m : Int)) := by omega
  clear ha hb
  go_enter Tryd.func19, Tryd.ntmps19
  go_wp2_with fail
  go_loopw [6] (fun i wr => ∃ k p q : Nat, i = .int .i64 (k : Int) ∧ k ≤ m ∧ ShU w wr (numW a b) k p q) (fun i _ => (1000 - intOf i).toNat)
  case atStart => exact ⟨0, a, b, rfl, by omega, HS.out, HA.out.1, HA.out.2, by simp⟩
  case round =>
    obtain ⟨k, p, q, rfl, hk, hr⟩ := hrel
    have HR := Lib.hid hr
    clear hr
    have c0 := HR.out.1.1.c0
    have c1 := HR.out.1.1.c1
    by_cases hgo : (k : Int) < (m : Int)
    · have e1 : IntKind.i64.wrap ((k : Int) + 1) = ((k + 1 : Nat) : Int) := by rw [IntWalk.i64_in _ (by omega)]; omega
      by_cases hf : numW p q + numW p q < 65536 ^ 8
      · have HK := Lib.hid (fun W => dbl_fit p q W HR.out.2.1 HR.out.2.2.1 hf)
        have HF := Lib.hid (dbl_step (x := numW a b) (k := k) HR.out.2.2.2 hf)
        clear hf
        obtain ⟨x, hx⟩ : ∃ x, x = hiW (numW p q + numW p q) := ⟨_, rfl⟩
        obtain ⟨y, hy⟩ : ∃ y, y = loW (numW p q + numW p q) := ⟨_, rfl⟩
        rw [← hx, ← hy] at HK HF
        clear hx hy
        go_wp2_with (go_at_call 9; (with_reducible refine (HK.out _).mono ?_); rintro e wa ⟨rfl, hba⟩; have HSa := Lib.hid ((HR.out.1.next hba).alloc (.cells #[.int .u64 (x : Int), .int .u64 (y : Int)] 24)); have HNa := Lib.hid (Box.new wa x y); have b0 := HSa.out.1.c0; have b1 := HSa.out.1.c1; have b2 := HSa.out.1.fr 0; have b3 := HSa.out.1.fr 1; have l1 := HSa.out.1.lt; have n0 := HNa.out.c0; have n1 := HNa.out.c1; have l2 := HNa.out.lt; clear hba c0 c1)
        exact ⟨⟨k + 1, x, y, rfl, by omega, HSa.out.put x y, HF.out⟩, by simp [intOf]; omega⟩
      · have HK := Lib.hid (fun W => dbl_over p q W HR.out.2.1 HR.out.2.2.1 hf)
        have HF := Lib.hid (dbl_over_end (x := numW a b) (k := k) (m := m) (by omega) HR.out.2.2.2 hf)
        clear hf
        go_wp2_with (go_at_call 9; (with_reducible refine (HK.out _).mono ?_); rintro e wa ⟨rfl, hba⟩; have HSa := Lib.hid ((HR.out.1.next hba).alloc (.cells #[.int .u64 0, .int .u64 0] 24)); have b2 := HSa.out.2.1.fr 0; have b3 := HSa.out.2.1.fr 1; have b0 := HSa.out.2.1.c0; have b1 := HSa.out.2.1.c1; have l1 := HSa.out.2.1.lt; clear hba c0 c1)
        exact bodyPost_ret (ret_box2 rfl rfl rfl ((HSa.out.2.1.set0 0).set1 0)) rfl ⟨0, 0, 2, rfl, .inr ⟨HF.out, rfl, rfl, rfl⟩, (HSa.out.2.2.setCell (Nat.le_succ _) _).setCell (Nat.le_succ _) _⟩
    · have b2 := HR.out.1.2.1.fr 0
      have b3 := HR.out.1.2.1.fr 1
      have b0 := HR.out.1.2.1.c0
      have b1 := HR.out.1.2.1.c1
      have l1 := HR.out.1.2.1.lt
      have HF := Lib.hid (shu_end (x := numW a b) (k := k) (m := m) (by omega) HR.out.2)
      go_wp2_with fail
      go_loop [9] (fun i => i = .int .i64 0) (fun _ => 0)
      case atStart => rfl
      case round =>
        obtain rfl := hrel
        go_wp2_with fail
        exact bodyPost_ret (ret_box2 rfl rfl rfl ((HR.out.1.2.1.set0 p).set1 q)) rfl ⟨p, q, 0, rfl, HF.out, (HR.out.1.2.2.setCell (Nat.le_succ _) _).setCell (Nat.le_succ _) _⟩
set_option maxHeartbeats 2000000 in
set_option maxRecDepth 100000 in
theorem rshift_upB (b m : Nat) (w : World) (hb : b < 18446744073709551616) (hm : m ≤ 200) (h0 : (b : Int) ≠ 0) :
    Calls Tryd.prog 19 #[.agg #[.int .u64 0, .int .u64 (b : Int)], .int .i64 (m : Int)] w (FitE (numW 0 b * 2 ^ m) w) := by
  have HS := Lib.hid (SB.start w 0 b)
  have HA : Hid (0 < 18446744073709551616 ∧ b < 18446744073709551616) := ⟨by decide, hb⟩
  have hm0 : ¬ ((0 : Int) > (m : Int)) := by omega
  clear hb
  go_enter Tryd.func19, Tryd.ntmps19
  go_wp2_with fail
  go_loopw [6] (fun i wr => ∃ k p q : Nat, i = .int .i64 (k : Int) ∧ k ≤ m ∧ ShU w wr (numW 0 b) k p q) (fun i _ => (1000 - intOf i).toNat)
  case atStart => exact ⟨0, 0, b, rfl, by omega, HS.out, HA.out.1, HA.out.2, by simp⟩
  case round =>
    obtain ⟨k, p, q, rfl, hk, hr⟩ := hrel
    have HR := Lib.hid hr
    clear hr
    have c0 := HR.out.1.1.c0
    have c1 := HR.out.1.1.c1
    by_cases hgo : (k : Int) < (m : Int)
    · have e1 : IntKind.i64.wrap ((k : Int) + 1) = ((k + 1 : Nat) : Int) := by rw [IntWalk.i64_in _ (by omega)]; omega
      by_cases hf : numW p q + numW p q < 65536 ^ 8
      · have HK := Lib.hid (fun W => dbl_fit p q W HR.out.2.1 HR.out.2.2.1 hf)
        have HF := Lib.hid (dbl_step (x := numW 0 b) (k := k) HR.out.2.2.2 hf)
        clear hf
        obtain ⟨x, hx⟩ : ∃ x, x = hiW (numW p q + numW p q) := ⟨_, rfl⟩
        obtain ⟨y, hy⟩ : ∃ y, y = loW (numW p q + numW p q) := ⟨_, rfl⟩
        rw [← hx, ← hy] at HK HF
        clear hx hy
        go_wp2_with (go_at_call 9; (with_reducible refine (HK.out _).mono ?_); rintro e wa ⟨rfl, hba⟩; have HSa := Lib.hid ((HR.out.1.next hba).alloc (.cells #[.int .u64 (x : Int), .int .u64 (y : Int)] 24)); have HNa := Lib.hid (Box.new wa x y); have b0 := HSa.out.1.c0; have b1 := HSa.out.1.c1; have b2 := HSa.out.1.fr 0; have b3 := HSa.out.1.fr 1; have l1 := HSa.out.1.lt; have n0 := HNa.out.c0; have n1 := HNa.out.c1; have l2 := HNa.out.lt; clear hba c0 c1)
        exact ⟨⟨k + 1, x, y, rfl, by omega, HSa.out.put x y, HF.out⟩, by simp [intOf]; omega⟩
      · have HK := Lib.hid (fun W => dbl_over p q W HR.out.2.1 HR.out.2.2.1 hf)
        have HF := Lib.hid (dbl_over_end (x := numW 0 b) (k := k) (m := m) (by omega) HR.out.2.2.2 hf)
        clear hf
        go_wp2_with (go_at_call 9; (with_reducible refine (HK.out _).mono ?_); rintro e wa ⟨rfl, hba⟩; have HSa := Lib.hid ((HR.out.1.next hba).alloc (.cells #[.int .u64 0, .int .u64 0] 24)); have b2 := HSa.out.2.1.fr 0; have b3 := HSa.out.2.1.fr 1; have b0 := HSa.out.2.1.c0; have b1 := HSa.out.2.1.c1; have l1 := HSa.out.2.1.lt; clear hba c0 c1)
        exact bodyPost_ret (ret_box2 rfl rfl rfl ((HSa.out.2.1.set0 0).set1 0)) rfl ⟨0, 0, 2, rfl, .inr ⟨HF.out, rfl, rfl, rfl⟩, (HSa.out.2.2.setCell (Nat.le_succ _) _).setCell (Nat.le_succ _) _⟩
    · have b2 := HR.out.1.2.1.fr 0
      have b3 := HR.out.1.2.1.fr 1
      have b0 := HR.out.1.2.1.c0
      have b1 := HR.out.1.2.1.c1
      have l1 := HR.out.1.2.1.lt
      have HF := Lib.hid (shu_end (x := numW 0 b) (k := k) (m := m) (by omega) HR.out.2)
      go_wp2_with fail
      go_loop [9] (fun i => i = .int .i64 0) (fun _ => 0)
      case atStart => rfl
      case round =>
        obtain rfl := hrel
        go_wp2_with fail
        exact bodyPost_ret (ret_box2 rfl rfl rfl ((HR.out.1.2.1.set0 p).set1 q)) rfl ⟨p, q, 0, rfl, HF.out, (HR.out.1.2.2.setCell (Nat.le_succ _) _).setCell (Nat.le_succ _) _⟩
end Go.Proofs.YtmhpfmhpilmfdaaDoor
