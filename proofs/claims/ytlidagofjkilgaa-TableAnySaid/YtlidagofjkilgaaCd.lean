/- Proved here: what the program's and the document's sum of a table answer. Condition: texts of up to 10^6 bytes; numbers of 32 bits. -/
import Derived.Test.YtlidagofjkilgaaOc
namespace Go.Proofs.Ytlidagofjkilgaa
open Go.RowKit

/-- What a byte at a place counts. -/
def wt (i : Nat) : Nat := 256 ^ (3 - i % 4)
/-- The sum of a table, from a place on. -/
def tb : List UInt8 → Nat → Nat → Nat
  | [], _, a => a
  | b :: l, i, a => tb l (i + 1) ((a + b.toNat * wt i) % 4294967296)
theorem tb_app : ∀ (l m : List UInt8) (i a : Nat), tb (l ++ m) i a = tb m (i + l.length) (tb l i a)
  | [], _, _, _ => rfl
  | b :: l, m, i, a => by
    simp only [List.cons_append, tb, List.length_cons]
    rw [tb_app l m]
    congr 1
    omega
theorem tb_lt : ∀ (l : List UInt8) (i : Nat) {a : Nat}, a < 4294967296 → tb l i a < 4294967296
  | [], _, _, h => h
  | _ :: l, i, _, _ => tb_lt l (i + 1) (Nat.mod_lt _ (by decide))
theorem tb_take {l : List UInt8} {k : Nat} (h : k < l.length) : tb (l.take (k + 1)) 0 0 = (tb (l.take k) 0 0 + bat l k * wt k) % 4294967296 := by
  rw [List.take_succ_eq_append_getElem h, tb_app]
  simp only [tb, List.length_take, Nat.min_eq_left (Nat.le_of_lt h), Nat.zero_add]
  simp [bat, h]
theorem tb_inj : ∀ (l : List UInt8) (i : Nat) {a b : Nat}, a < 4294967296 → b < 4294967296 → tb l i a = tb l i b → a = b
  | [], _, _, _, _, _, h => h
  | c :: l, i, a, b, ha, hb, h => by
    have h1 := tb_inj l (i + 1) (Nat.mod_lt _ (by decide)) (Nat.mod_lt _ (by decide)) h
    generalize c.toNat * wt i = x at h1
    omega
theorem wt_cases (i : Nat) : (i % 4 = 0 ∧ wt i = 16777216) ∨ (i % 4 = 1 ∧ wt i = 65536) ∨ (i % 4 = 2 ∧ wt i = 256) ∨ (i % 4 = 3 ∧ wt i = 1) := by
  unfold wt
  have : i % 4 < 4 := Nat.mod_lt _ (by decide)
  rcases (by omega : i % 4 = 0 ∨ i % 4 = 1 ∨ i % 4 = 2 ∨ i % 4 = 3) with h | h | h | h <;> rw [h] <;> simp
theorem tb_set {l m : List UInt8} {a b : UInt8} (h : tb (l ++ a :: m) 0 0 = tb (l ++ b :: m) 0 0) : a = b := by
  rw [tb_app, tb_app] at h
  have h1 := tb_inj m _ (Nat.mod_lt _ (by decide)) (Nat.mod_lt _ (by decide)) h
  have ha := UInt8.toNat_lt a
  have hb := UInt8.toNat_lt b
  apply UInt8.toNat_inj.mp
  rcases wt_cases (0 + l.length) with ⟨_, h2⟩ | ⟨_, h2⟩ | ⟨_, h2⟩ | ⟨_, h2⟩ <;> rw [h2] at h1 <;> omega
set_option maxRecDepth 100000 in
set_option maxHeartbeats 2000000 in
theorem table_any (s : ByteArray) (w : World) (hs : s.data.toList.length ≤ 1000000) : Calls Try.prog 37 #[.string s] w fun e w' => e = .returned (.int .u32 (tb s.data.toList 0 0 : Int)) ∧ w = w' := by
  obtain ⟨l, hl⟩ : ∃ l, l = s.data.toList := ⟨_, rfl⟩
  obtain ⟨n, hn⟩ : ∃ n, n = l.length := ⟨_, rfl⟩
  have hsz : s.size = n := by rw [hn, hl]; simp
  have hidx := fun (k : Nat) (hk : k < n) (W : World) => idx_run s k (by rw [← hl, ← hn]; exact hk) (k : Int) rfl W
  rw [← hl] at hidx ⊢ hs
  rw [← hn] at hs
  have HT := Lib.hid (fun k (h : k < n) => tb_take (l := l) (k := k) (by omega))
  have HL := Lib.hid (show tb (l.take n) 0 0 = tb l 0 0 by rw [hn, List.take_length])
  have HI := Lib.hid hidx
  clear hl hn hidx
  go_enter Try.func37, Try.ntmps37
  go_wp2_with fail
  go_loopw [3, 7] (fun v i wr => ∃ k : Nat, i = .int .i64 (k : Int) ∧ k ≤ n ∧ v = .int .u32 (tb (l.take k) 0 0 : Int) ∧ wr = w) (fun _ i _ => n - (intOf i).toNat)
  case atStart => exact ⟨0, rfl, by omega, by simp [tb], rfl⟩
  case round =>
    obtain ⟨k, rfl, hk, rfl, rfl⟩ := hrel
    have hcl := tb_lt (l.take k) 0 (a := 0) (by decide)
    rcases Nat.lt_or_ge k n with hkn | hkn
    · have hik := fun W => HI.out k hkn W
      have hbk := bat_lt l k
      have hstep := HT.out k hkn
      obtain ⟨c, hc⟩ : ∃ c, c = bat l k := ⟨_, rfl⟩
      obtain ⟨m, hm⟩ : ∃ m, m = tb (l.take k) 0 0 := ⟨_, rfl⟩
      rw [← hc] at hik hbk
      rw [← hm] at hcl
      rw [← hm, ← hc] at hstep
      have HS := Lib.hid hstep
      rw [← hm]
      clear hm hc hstep
      go_wp2_with fail
      refine ⟨⟨k + 1, by simp, by omega, ?_, by trivial⟩, by simp [intOf]; omega⟩
      rw [HS.out]
      congr 1
      rcases wt_cases k with ⟨hk4, hwt⟩ | ⟨hk4, hwt⟩ | ⟨hk4, hwt⟩ | ⟨hk4, hwt⟩ <;> rw [hk4, hwt] <;> simp <;> omega
    · have hkn : k = n := by omega
      subst hkn
      rw [HL.out] at hcl ⊢
      go_wp2_with fail
      go_ret
      exact ⟨rfl, rfl⟩
set_option maxRecDepth 100000 in
set_option maxHeartbeats 2000000 in
theorem rtable_any (s : ByteArray) (w : World) (hs : s.data.toList.length ≤ 1000000) : Calls Try.prog 42 #[.string s] w fun e w' => e = .returned (.int .u32 (tb s.data.toList 0 0 : Int)) ∧ w = w' := by
  obtain ⟨l, hl⟩ : ∃ l, l = s.data.toList := ⟨_, rfl⟩
  obtain ⟨n, hn⟩ : ∃ n, n = l.length := ⟨_, rfl⟩
  have hsz : s.size = n := by rw [hn, hl]; simp
  have hidx := fun (k : Nat) (hk : k < n) (W : World) => idx_run s k (by rw [← hl, ← hn]; exact hk) (k : Int) rfl W
  rw [← hl] at hidx ⊢ hs
  rw [← hn] at hs
  have HT := Lib.hid (fun k (h : k < n) => tb_take (l := l) (k := k) (by omega))
  have HL := Lib.hid (show tb (l.take n) 0 0 = tb l 0 0 by rw [hn, List.take_length])
  have HI := Lib.hid hidx
  clear hl hn hidx
  go_enter Try.func42, Try.ntmps42
  go_wp2_with fail
  go_loopw [3, 4] (fun v i wr => ∃ k : Nat, i = .int .i64 (k : Int) ∧ k ≤ n ∧ v = .int .u32 (tb (l.take k) 0 0 : Int) ∧ wr = w) (fun _ i _ => n - (intOf i).toNat)
  case atStart => exact ⟨0, rfl, by omega, by simp [tb], rfl⟩
  case round =>
    obtain ⟨k, rfl, hk, rfl, rfl⟩ := hrel
    have hcl := tb_lt (l.take k) 0 (a := 0) (by decide)
    rcases Nat.lt_or_ge k n with hkn | hkn
    · have hik := fun W => HI.out k hkn W
      have hbk := bat_lt l k
      have hstep := HT.out k hkn
      obtain ⟨c, hc⟩ : ∃ c, c = bat l k := ⟨_, rfl⟩
      obtain ⟨m, hm⟩ : ∃ m, m = tb (l.take k) 0 0 := ⟨_, rfl⟩
      rw [← hc] at hik hbk
      rw [← hm] at hcl
      rw [← hm, ← hc] at hstep
      rw [← hm]
      clear hm hc
      have hX : c * wt k < 4294967296 := by rcases wt_cases k with ⟨_, hwt⟩ | ⟨_, hwt⟩ | ⟨_, hwt⟩ | ⟨_, hwt⟩ <;> rw [hwt] <;> omega
      have hX0 := Lib.hid (show c * 256 ^ (3 - k % 4) = c * wt k from rfl)
      obtain ⟨X, hX1⟩ : ∃ X, X = c * wt k := ⟨_, rfl⟩
      rw [← hX1] at hstep hX hX0
      have HS := Lib.hid hstep
      clear hstep hX1
      go_wp2_with fail
      go_loopw [5, 6] (fun v i wi => ∃ j y : Nat, i = .int .i64 (j : Int) ∧ j ≤ 3 ∧ v = .int .u32 (y : Int) ∧ y * 256 ^ (3 - j) = X ∧ wi = wr) (fun _ i _ => 3 - (intOf i).toNat)
      case atStart => exact ⟨k % 4, c, by simp, by omega, rfl, hX0.out, rfl⟩
      case round =>
        obtain ⟨j, y, rfl, hj, rfl, hy, rfl⟩ := hrel
        have HY := Lib.hid hy
        rcases Nat.lt_or_ge j 3 with hj3 | hj3
        · have h1 : y * 256 * 256 ^ (3 - (j + 1)) = X := by
            rw [← hy, Nat.mul_assoc, ← Nat.pow_succ', show (3 - (j + 1)).succ = 3 - j by omega]
          have h2 : y * 256 < 4294967296 := by
            have h3 := Nat.le_mul_of_pos_right (y * 256) (Nat.two_pow_pos (8 * (3 - (j + 1))))
            rw [Nat.pow_mul, show 2 ^ 8 = 256 from rfl, h1] at h3
            omega
          have H1 := Lib.hid h1
          clear h1 hy
          go_wp2_with fail
          exact ⟨⟨j + 1, y * 256, by simp, by omega, by simp; try omega, H1.out, by trivial⟩, by simp [intOf]; omega⟩
        · have hj3 : j = 3 := by omega
          subst hj3
          have h1 : y = X := by simpa using hy
          subst h1
          clear hy
          go_wp2_with fail
          exact ⟨⟨k + 1, by simp, by omega, by rw [HS.out]; simp, by trivial⟩, by simp [intOf]; omega⟩
    · have hkn : k = n := by omega
      subst hkn
      rw [HL.out] at hcl ⊢
      go_wp2_with fail
      go_ret
      exact ⟨rfl, rfl⟩
end Go.Proofs.Ytlidagofjkilgaa
