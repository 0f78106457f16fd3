/- Proved here: what the program's and the document's sum of a table answer, and Join. Condition: texts of up to 10^6 bytes; numbers of 32 bits. -/
import Derived.Test.YtfniickepoolkaaCc
namespace Go.Proofs.Ytfniickepoolkaa
open Go.RowKit

/-- What a byte at a place counts. -/
def wt (i : Nat) : Nat := 256 ^ (3 - i % 4)
/-- The sum of a table, from a place on. -/
def tb : List UInt8 → Nat → Nat → Nat
  | [], _, a => a
  | b :: l, i, a => tb l (i + 1) ((a + b.toNat * wt i) % 4294967296)
theorem tb_app : ∀ (l m : List UInt8) (i a : Nat), tb (l ++ m) i a = tb m (i + l.length) (tb l i a)
  | [], _, _, _ => rfl
  | b :: l, m, i, a => by
    simp only [List.cons_append, tb, List.length_cons]
    rw [tb_app l m]
    congr 1
    omega
theorem tb_lt : ∀ (l : List UInt8) (i : Nat) {a : Nat}, a < 4294967296 → tb l i a < 4294967296
  | [], _, _, h => h
  | _ :: l, i, _, _ => tb_lt l (i + 1) (Nat.mod_lt _ (by decide))
theorem tb_take {l : List UInt8} {k : Nat} (h : k < l.length) : tb (l.take (k + 1)) 0 0 = (tb (l.take k) 0 0 + bat l k * wt k) % 4294967296 := by
  rw [List.take_succ_eq_append_getElem h, tb_app]
  simp only [tb, List.length_take, Nat.min_eq_left (Nat.le_of_lt h), Nat.zero_add]
  simp [bat, h]
theorem tb_inj : ∀ (l : List UInt8) (i : Nat) {a b : Nat}, a < 4294967296 → b < 4294967296 → tb l i a = tb l i b → a = b
  | [], _, _, _, _, _, h => h
  | c :: l, i, a, b, ha, hb, h => by
    have h1 := tb_inj l (i + 1) (Nat.mod_lt _ (by decide)) (Nat.mod_lt _ (by decide)) h
    generalize c.toNat * wt i = x at h1
    omega
theorem wt_cases (i : Nat) : (i % 4 = 0 ∧ wt i = 16777216) ∨ (i % 4 = 1 ∧ wt i = 65536) ∨ (i % 4 = 2 ∧ wt i = 256) ∨ (i % 4 = 3 ∧ wt i = 1) := by
  unfold wt
  have : i % 4 < 4 := Nat.mod_lt _ (by decide)
  rcases (by omega : i % 4 = 0 ∨ i % 4 = 1 ∨ i % 4 = 2 ∨ i % 4 = 3) with h | h | h | h <;> rw [h] <;> simp
theorem tb_set {l m : List UInt8} {a b : UInt8} (h : tb (l ++ a :: m) 0 0 = tb (l ++ b :: m) 0 0) : a = b := by
  rw [tb_app, tb_app] at h
  have h1 := tb_inj m _ (Nat.mod_lt _ (by decide)) (Nat.mod_lt _ (by decide)) h
  have ha := UInt8.toNat_lt a
  have hb := UInt8.toNat_lt b
  apply UInt8.toNat_inj.mp
  rcases wt_cases (0 + l.length) with ⟨_, h2⟩ | ⟨_, h2⟩ | ⟨_, h2⟩ | ⟨_, h2⟩ <;> rw [h2] at h1 <;> omega
set_option maxRecDepth 100000 in
set_option maxHeartbeats 2000000 in
theorem table_any (s : ByteArray) (w : World) (hs : s.data.toList.length ≤ 1000000) : Calls Try.prog 9 #[.string s] w fun e w' => e = .returned (.int .u32 (tb s.data.toList 0 0 : Int)) ∧ w = w' := by
  obtain ⟨l, hl⟩ : ∃ l, l = s.data.toList := ⟨_, rfl⟩
  obtain ⟨n, hn⟩ : ∃ n, n = l.length := ⟨_, rfl⟩
  have hsz : s.size = n := by rw [hn, hl]; simp
  have hidx := fun (k : Nat) (hk : k < n) (W : World) => idx_run s k (by rw [← hl, ← hn]; exact hk) (k : Int) rfl W
  rw [← hl] at hidx ⊢ hs
  rw [← hn] at hs
  have HT := Lib.hid (fun k (h : k < n) => tb_take (l := l) (k := k) (by omega))
  have HL := Lib.hid (show tb (l.take n) 0 0 = tb l 0 0 by rw [hn, List.take_length])
  have HI := Lib.hid hidx
  clear hl hn hidx
  go_enter Try.func9, Try.ntmps9
  go_wp2_with fail
  go_loopw [3, 7] (fun v i wr => ∃ k : Nat, i = .int .i64 (k : Int) ∧ k ≤ n ∧ v = .int .u32 (tb (l.take k) 0 0 : Int) ∧ wr = w) (fun _ i _ => n - (intOf i).toNat)
  case atStart => exact ⟨0, rfl, by omega, by simp [tb], rfl⟩
  case round =>
    obtain ⟨k, rfl, hk, rfl, rfl⟩ := hrel
    have hcl := tb_lt (l.take k) 0 (a := 0) (by decide)
    rcases Nat.lt_or_ge k n with hkn | hkn
    · have hik := fun W => HI.out k hkn W
      have hbk := bat_lt l k
      have hstep := HT.out k hkn
      obtain ⟨c, hc⟩ : ∃ c, c = bat l k := ⟨_, rfl⟩
      obtain ⟨m, hm⟩ : ∃ m, m = tb (l.take k) 0 0 := ⟨_, rfl⟩
      rw [← hc] at hik hbk
      rw [← hm] at hcl
      rw [← hm, ← hc] at hstep
      have HS := Lib.hid hstep
      rw [← hm]
      clear hm hc hstep
      go_wp2_with fail
      refine ⟨⟨k + 1, by simp, by omega, ?_, by trivial⟩, by simp [intOf]; omega⟩
      rw [HS.out]
      congr 1
      rcases wt_cases k with ⟨hk4, hwt⟩ | ⟨hk4, hwt⟩ | ⟨hk4, hwt⟩ | ⟨hk4, hwt⟩ <;> rw [hk4, hwt] <;> simp <;> omega
    · have hkn : k = n := by omega
      subst hkn
      rw [HL.out] at hcl ⊢
      go_wp2_with fail
      go_ret
      exact ⟨rfl, rfl⟩
set_option maxRecDepth 100000 in
set_option maxHeartbeats 2000000 in
theorem rtable_any (s : ByteArray) (w : World) (hs : s.data.toList.length ≤ 1000000) : Calls Try.prog 10 #[.string s] w fun e w' => e = .returned (.int .u32 (tb s.data.toList 0 0 : Int)) ∧ w = w' := by
  obtain ⟨l, hl⟩ : ∃ l, l = s.data.toList := ⟨_, rfl⟩
  obtain ⟨n, hn⟩ : ∃ n, n = l.length := ⟨_, rfl⟩
  have hsz : s.size = n := by rw [hn, hl]; simp
  have hidx := fun (k : Nat) (hk : k < n) (W : World) => idx_run s k (by rw [← hl, ← hn]; exact hk) (k : Int) rfl W
  rw [← hl] at hidx ⊢ hs
  rw [← hn] at hs
  have HT := Lib.hid (fun k (h : k < n) => tb_take (l := l) (k := k) (by omega))
  have HL := Lib.hid (show tb (l.take n) 0 0 = tb l 0 0 by rw [hn, List.take_length])
  have HI := Lib.hid hidx
  clear hl hn hidx
  go_enter Try.func10, Try.ntmps10
  go_wp2_with fail
  go_loopw [3, 4] (fun v i wr => ∃ k : Nat, i = .int .i64 (k : Int) ∧ k ≤ n ∧ v = .int .u32 (tb (l.take k) 0 0 : Int) ∧ wr = w) (fun _ i _ => n - (intOf i).toNat)
  case atStart => exact ⟨0, rfl, by omega, by simp [tb], rfl⟩
  case round =>
    obtain ⟨k, rfl, hk, rfl, rfl⟩ := hrel
    have hcl := tb_lt (l.take k) 0 (a := 0) (by decide)
    rcases Nat.lt_or_ge k n with hkn | hkn
    · have hik := fun W => HI.out k hkn W
      have hbk := bat_lt l k
      have hstep := HT.out k hkn
      obtain ⟨c, hc⟩ : ∃ c, c = bat l k := ⟨_, rfl⟩
      obtain ⟨m, hm⟩ : ∃ m, m = tb (l.take k) 0 0 := ⟨_, rfl⟩
      rw [← hc] at hik hbk
      rw [← hm] at hcl
      rw [← hm, ← hc] at hstep
      rw [← hm]
      clear hm hc
      have hX : c * wt k < 4294967296 := by rcases wt_cases k with ⟨_, hwt⟩ | ⟨_, hwt⟩ | ⟨_, hwt⟩ | ⟨_, hwt⟩ <;> rw [hwt] <;> omega
      have hX0 := Lib.hid (show c * 256 ^ (3 - k % 4) = c * wt k from rfl)
      obtain ⟨X, hX1⟩ : ∃ X, X = c * wt k := ⟨_, rfl⟩
      rw [← hX1] at hstep hX hX0
      have HS := Lib.hid hstep
      clear hstep hX1
      go_wp2_with fail
      go_loopw [5, 6] (fun v i wi => ∃ j y : Nat, i = .int .i64 (j : Int) ∧ j ≤ 3 ∧ v = .int .u32 (y : Int) ∧ y * 256 ^ (3 - j) = X ∧ wi = wr) (fun _ i _ => 3 - (intOf i).toNat)
      case atStart => exact ⟨k % 4, c, by simp, by omega, rfl, hX0.out, rfl⟩
      case round =>
        obtain ⟨j, y, rfl, hj, rfl, hy, rfl⟩ := hrel
        have HY := Lib.hid hy
        rcases Nat.lt_or_ge j 3 with hj3 | hj3
        · have h1 : y * 256 * 256 ^ (3 - (j + 1)) = X := by
            rw [← hy, Nat.mul_assoc, ← Nat.pow_succ', show (3 - (j + 1)).succ = 3 - j by omega]
          have h2 : y * 256 < 4294967296 := by
            have h3 := Nat.le_mul_of_pos_right (y * 256) (Nat.two_pow_pos (8 * (3 - (j + 1))))
            rw [Nat.pow_mul, show 2 ^ 8 = 256 from rfl, h1] at h3
            omega
          have H1 := Lib.hid h1
          clear h1 hy
          go_wp2_with fail
          exact ⟨⟨j + 1, y * 256, by simp, by omega, by simp; try omega, H1.out, by trivial⟩, by simp [intOf]; omega⟩
        · have hj3 : j = 3 := by omega
          subst hj3
          have h1 : y = X := by simpa using hy
          subst h1
          clear hy
          go_wp2_with fail
          exact ⟨⟨k + 1, by simp, by omega, by rw [HS.out]; simp, by trivial⟩, by simp [intOf]; omega⟩
    · have hkn : k = n := by omega
      subst hkn
      rw [HL.out] at hcl ⊢
      go_wp2_with fail
      go_ret
      exact ⟨rfl, rfl⟩
set_option maxRecDepth 100000 in
set_option maxHeartbeats 2000000 in
theorem join_out (a b : Nat) (n : Int) (w : World) (h : n < 0 ∨ 1048576 < n) : Calls Try.prog 11 #[.int .u32 (a : Int), .int .u32 (b : Int), .int .i64 n] w fun e w' => e = .returned (.int .u32 (a : Int)) ∧ w = w' := by
  rcases h with h | h
  · go_enter Try.func11, Try.ntmps11
    go_wp2_with fail
    go_ret
    exact ⟨rfl, rfl⟩
  · have h0 : decide (n < 0) = false := decide_eq_false (by omega)
    have h1 : decide (1048576 < n) = true := decide_eq_true h
    clear h
    go_enter Try.func11, Try.ntmps11
    go_wp2_with fail
    go_ret
    exact ⟨rfl, rfl⟩
theorem i64_and1 (n : Int) : bits .and .i64 n 1 = n % 2 := by
  have h1 : (BitVec.ofInt 64 1).toNat = 2 ^ 1 - 1 := by decide
  have key : (BitVec.ofInt 64 n &&& BitVec.ofInt 64 1).toNat = (n % ((2 ^ 64 : Nat) : Int)).toNat % 2 ^ 1 := by
    rw [BitVec.toNat_and, BitVec.toNat_ofInt, h1, Nat.and_two_pow_sub_one_eq_mod]
  show IntKind.i64.wrap ((BitVec.ofInt 64 n &&& BitVec.ofInt 64 1).toNat : Nat) = n % 2
  rw [key, IntKind.wrap_i64]
  omega
/-- What is left to do when the bits below a place are done. -/
theorem join_step {n : Nat} (x : Nat) (p : Nat) : mvn (8 * ((n / 2 ^ p) % 2 * 2 ^ p)) (mvn (8 * (n % 2 ^ p)) x) = mvn (8 * (n % 2 ^ (p + 1))) x := by
  rw [← mvn_add, xor_step]
  congr 1
  rw [Nat.mul_add]
set_option maxRecDepth 100000 in
set_option maxHeartbeats 2000000 in
theorem join_any (a b n : Nat) (w : World) (ha : a < 4294967296) (hb : b < 4294967296) (hn : n ≤ 1048576) : Calls Try.prog 11 #[.int .u32 (a : Int), .int .u32 (b : Int), .int .i64 (n : Int)] w fun e w' => e = .returned (.int .u32 ((mvn (8 * n) a ^^^ b : Nat) : Int)) ∧ w = w' := by
  have h0 : decide ((n : Int) < 0) = false := decide_eq_false (by omega)
  have h1 : decide (1048576 < (n : Int)) = false := decide_eq_false (by omega)
  go_enter Try.func11, Try.ntmps11
  go_wp2_with fail
  go_loopw [0, 2, 7] (fun x i y wr => ∃ p : Nat, i = .int .i64 ((n / 2 ^ p : Nat) : Int) ∧ x = .int .u32 (mvn (8 * (n % 2 ^ p)) a : Int) ∧ y = .int .u32 (pw (2 ^ p) : Int) ∧ wr = w) (fun _ i _ _ => (intOf i).toNat)
  case atStart => exact ⟨0, by simp, by simp [Nat.mod_one, mvn], by rw [Nat.pow_zero, pw_one]; rfl, rfl⟩
  case round =>
    obtain ⟨p, rfl, rfl, rfl, rfl⟩ := hrel
    have hml := mvn_lt (8 * (n % 2 ^ p)) ha
    have hst := join_step (n := n) a p
    have hpl := pw_lt (2 ^ p)
    have hsq := pw_sq (2 ^ p)
    have htm := fun {x} (hx : x < 4294967296) => tm_pw hx (2 ^ p)
    have hdd : n / 2 ^ p / 2 = n / 2 ^ (p + 1) := by rw [Nat.div_div_eq_div_mul, Nat.pow_succ]
    have hend : n / 2 ^ p = 0 → n % 2 ^ p = n := fun h => Nat.mod_eq_of_lt (by rcases Nat.div_eq_zero_iff.mp h with h | h; exact absurd h (Nat.pos_iff_ne_zero.mp (Nat.two_pow_pos p)); exact h)
    have hle : n / 2 ^ p ≤ n := Nat.div_le_self _ _
    rw [show 2 ^ p + 2 ^ p = 2 ^ (p + 1) by rw [Nat.pow_succ]; omega] at hsq
    obtain ⟨m, hm⟩ : ∃ m, m = n / 2 ^ p := ⟨_, rfl⟩
    obtain ⟨y, hy⟩ : ∃ y, y = pw (2 ^ p) := ⟨_, rfl⟩
    rw [← hm] at hst hdd hend hle ⊢
    rw [← hy] at hpl hsq htm ⊢
    rcases Nat.eq_zero_or_pos m with h | h
    · subst h
      rw [hend rfl] at hml ⊢
      have hx : bits .xor .u32 (mvn (8 * n) a : Int) (b : Int) = ((mvn (8 * n) a ^^^ b : Nat) : Int) := u32_xor_nat _ _ hml hb
      clear hst hsq htm hdd hend hm hy
      go_wp2_with fail
      go_ret
      exact ⟨rfl, rfl⟩
    · obtain ⟨x, hx⟩ : ∃ x, x = mvn (8 * (n % 2 ^ p)) a := ⟨_, rfl⟩
      rw [← hx] at hml hst ⊢
      have HY := Lib.hid (fun W => times_any y y W hpl hpl)
      have HX := Lib.hid (fun W => times_any x y W hml hpl)
      rw [hsq] at HY
      rw [htm hml] at HX
      have HD := Lib.hid hdd
      have hand : bits .and .i64 (m : Int) 1 = ((m % 2 : Nat) : Int) := by rw [i64_and1]; simp
      have hpos : decide (0 < (m : Int)) = true := decide_eq_true (by omega)
      rcases Nat.mod_two_eq_zero_or_one m with h2 | h2
      · rw [h2] at hand hst
        have HS := Lib.hid hst
        clear hst hsq htm hdd hend hm hy hx h2
        go_wp2_with (first
          | (go_at_call 14; (with_reducible refine (HY.out _).mono ?_); rintro e w' ⟨rfl, rfl⟩)
          | (go_at_call 14; (with_reducible refine (HX.out _).mono ?_); rintro e w' ⟨rfl, rfl⟩))
        exact ⟨⟨p + 1, by rw [← HD.out]; simp, by rw [← HS.out]; simp [mvn], rfl, by trivial⟩, by simp [intOf]; omega⟩
      · rw [h2] at hand hst
        have HS := Lib.hid hst
        clear hst hsq htm hdd hend hm hy hx h2
        go_wp2_with (first
          | (go_at_call 14; (with_reducible refine (HY.out _).mono ?_); rintro e w' ⟨rfl, rfl⟩)
          | (go_at_call 14; (with_reducible refine (HX.out _).mono ?_); rintro e w' ⟨rfl, rfl⟩))
        exact ⟨⟨p + 1, by rw [← HD.out]; simp, by rw [← HS.out]; simp, rfl, by trivial⟩, by simp [intOf]; omega⟩
end Go.Proofs.Ytfniickepoolkaa
