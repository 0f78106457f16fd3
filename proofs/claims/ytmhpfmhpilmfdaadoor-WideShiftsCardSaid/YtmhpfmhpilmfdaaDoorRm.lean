/- Proved here: what the reference package's Text answers. Condition: numbers of 64 bits as halves. -/
import Derived.Test.YtmhpfmhpilmfdaaDoorRl
import Derived.Test.YtmhpfmhpilmfdaaDoorWf
namespace Go.Proofs.YtmhpfmhpilmfdaaDoor
open Go.RowKit Go.Lib

/-- The two pieces of a number in base ten. -/
def tq (x : Nat) : Nat := x / 10
def tr (x : Nat) : Nat := x % 10
theorem rdiv_ten (hi lo : Nat) (w : World) (hl : lo < 18446744073709551616) (hh : hi < 18446744073709551616) :
    Calls Tryd.prog 17 #[.agg #[.int .u64 (hi : Int), .int .u64 (lo : Int)], .int .u64 10] w fun e w' => e = .returned (.tuple #[.agg #[.int .u64 (hiW (tq (numW hi lo)) : Int), .int .u64 (loW (tq (numW hi lo)) : Int)], .int .u64 (tr (numW hi lo) : Int), .int .i64 0]) ∧ Below w.heap.size w w' :=
  (rdiv_any hi lo 10 w hl hh (by decide)).mono fun _ _ ⟨h, l, r, c, he, hd, hb⟩ => by
    rcases hd with ⟨h0, _⟩ | ⟨_, rfl, rfl, rfl, rfl⟩
    · exact absurd h0 (by decide)
    · exact ⟨he, hb⟩
/-- The last digit's text. -/
def digS (x : Nat) : ByteArray := ⟨#[UInt8.ofNat (48 + x % 10)]⟩
theorem rtext_big {x : Nat} (h : 10 ≤ x) : decS (tq x) ++ digS x = decS x := by
  unfold decS digS tq
  rw [dec_big h]
  ext1
  simp
theorem rtext_small {x : Nat} (h : x < 10) : digS x = decS x := by
  unfold decS digS
  rw [decDigits_one h, Nat.mod_eq_of_lt h]
/-- A digit's letter. -/
def dgB (r : Nat) : UInt8 := UInt8.ofNat (48 + r)
theorem conv_dig (r : Nat) (hr : r < 10) (w1 : World) (o : Obj) : (convert 66 9 (.slice (some ⟨w1.heap.size + 1, 0, none⟩) 1 1)).run Tryd.prog ((w1.alloc o).alloc (.cells #[.int .u8 (48 + (r : Int))] 5)) =
    .ok (.string ⟨#[dgB r]⟩) ((w1.alloc o).alloc (.cells #[.int .u8 (48 + (r : Int))] 5)) := by
  have hn : (dgB r).toNat = 48 + r := by unfold dgB; rw [UInt8.toNat_ofNat']; omega
  exact run_convert_bytes_back (P := Tryd.prog) ((w1.alloc o).alloc (.cells #[.int .u8 (48 + (r : Int))] 5)) 66 9 5 ⟨w1.heap.size + 1, 0, none⟩ 1 [dgB r] Tryd.underlying66 Tryd.underlying5 Tryd.underlying9 (fun j hj => by
    obtain rfl : j = 0 := by simpa using hj
    have h := cell_one_new (w1.alloc o) (.int .u8 (48 + (r : Int))) 5 0 _ rfl
    rw [show (w1.alloc o).heap.size = w1.heap.size + 1 by simp] at h
    rw [h]
    simp only [List.getElem_cons_zero, hn]
    simp)
/-- The text of a number of one digit. -/
def TextE (x : Nat) (w : World) (e : Ending) (w' : World) : Prop := e = .returned (.string (decS x)) ∧ Below w.heap.size w w'
set_option maxHeartbeats 2000000 in
set_option maxRecDepth 100000 in
theorem rtext_one (hi lo r : Nat) (w : World) (hr : r < 10) (hd : ∀ W, Calls Tryd.prog 17 #[.agg #[.int .u64 (hi : Int), .int .u64 (lo : Int)], .int .u64 10] W fun e w' => e = .returned (.tuple #[.agg #[.int .u64 0, .int .u64 0], .int .u64 (r : Int), .int .i64 0]) ∧ Below W.heap.size W w') :
    Calls Tryd.prog 26 #[.agg #[.int .u64 (hi : Int), .int .u64 (lo : Int)]] w fun e w' => e = .returned (.string ⟨#[dgB r]⟩) ∧ Below w.heap.size w w' := by
  have HD := Lib.hid hd
  have hcv := fun w1 o => conv_dig r hr w1 o
  clear hd
  go_enter Tryd.func26, Tryd.ntmps26
  go_wp2_with (first
    | (go_at_call 17; (with_reducible refine (HD.out _).mono ?_); rintro e w1 ⟨rfl, hb1⟩; have HB1 := Lib.hid (bel1 hb1); clear hb1))
  go_ret
  exact ⟨rfl, (HB1.out.alloc HB1.out.size _).alloc (Nat.le_trans HB1.out.size (by simp)) _⟩
set_option maxHeartbeats 2000000 in
set_option maxRecDepth 100000 in
theorem rtext_hi (hi lo r qh ql : Nat) (S : ByteArray) (w : World) (hr : r < 10) (hq : 0 < qh) (hS : S.size ≤ 100) (hd : ∀ W, Calls Tryd.prog 17 #[.agg #[.int .u64 (hi : Int), .int .u64 (lo : Int)], .int .u64 10] W fun e w' => e = .returned (.tuple #[.agg #[.int .u64 (qh : Int), .int .u64 (ql : Int)], .int .u64 (r : Int), .int .i64 0]) ∧ Below W.heap.size W w')
    (hrec : ∀ W, Calls Tryd.prog 26 #[.agg #[.int .u64 (qh : Int), .int .u64 (ql : Int)]] W fun e w' => e = .returned (.string S) ∧ Below W.heap.size W w') :
    Calls Tryd.prog 26 #[.agg #[.int .u64 (hi : Int), .int .u64 (lo : Int)]] w fun e w' => e = .returned (.string (S ++ ⟨#[dgB r]⟩)) ∧ Below w.heap.size w w' := by
  have HD := Lib.hid hd
  have HREC := Lib.hid hrec
  have hcv := fun w1 o => conv_dig r hr w1 o
  have h0 : ¬ qh = 0 := by omega
  clear hd hrec
  go_enter Tryd.func26, Tryd.ntmps26
  go_wp2_with (first
    | (go_at_call 17; (with_reducible refine (HD.out _).mono ?_); rintro e w1 ⟨rfl, hb1⟩; have HB1 := Lib.hid (bel1 hb1); clear hb1)
    | (go_at_call 26; (with_reducible refine (HREC.out _).mono ?_); rintro e w2 ⟨rfl, hb2⟩; have HB2 := Lib.hid hb2; clear hb2))
  all_goals
    go_ret
    exact ⟨rfl, ((HB1.out.alloc HB1.out.size _).alloc (Nat.le_trans HB1.out.size (by simp)) _).trans (HB2.out.mono (Nat.le_trans HB1.out.size (by simp; omega)))⟩
set_option maxHeartbeats 2000000 in
set_option maxRecDepth 100000 in
theorem rtext_mid (hi lo r ql : Nat) (S : ByteArray) (w : World) (hr : r < 10) (hq : 0 < ql) (hS : S.size ≤ 100) (hd : ∀ W, Calls Tryd.prog 17 #[.agg #[.int .u64 (hi : Int), .int .u64 (lo : Int)], .int .u64 10] W fun e w' => e = .returned (.tuple #[.agg #[.int .u64 0, .int .u64 (ql : Int)], .int .u64 (r : Int), .int .i64 0]) ∧ Below W.heap.size W w')
    (hrec : ∀ W, Calls Tryd.prog 26 #[.agg #[.int .u64 0, .int .u64 (ql : Int)]] W fun e w' => e = .returned (.string S) ∧ Below W.heap.size W w') :
    Calls Tryd.prog 26 #[.agg #[.int .u64 (hi : Int), .int .u64 (lo : Int)]] w fun e w' => e = .returned (.string (S ++ ⟨#[dgB r]⟩)) ∧ Below w.heap.size w w' := by
  have HD := Lib.hid hd
  have HREC := Lib.hid hrec
  have hcv := fun w1 o => conv_dig r hr w1 o
  have h0 : ¬ ql = 0 := by omega
  clear hd hrec
  go_enter Tryd.func26, Tryd.ntmps26
  go_wp2_with (first
    | (go_at_call 17; (with_reducible refine (HD.out _).mono ?_); rintro e w1 ⟨rfl, hb1⟩; have HB1 := Lib.hid (bel1 hb1); clear hb1)
    | (go_at_call 26; (with_reducible refine (HREC.out _).mono ?_); rintro e w2 ⟨rfl, hb2⟩; have HB2 := Lib.hid hb2; clear hb2))
  all_goals
    go_ret
    exact ⟨rfl, ((HB1.out.alloc HB1.out.size _).alloc (Nat.le_trans HB1.out.size (by simp)) _).trans (HB2.out.mono (Nat.le_trans HB1.out.size (by simp; omega)))⟩
theorem rtext_any (k : Nat) : ∀ (hi lo : Nat) (w : World), numW hi lo ≤ k → hi < 18446744073709551616 → lo < 18446744073709551616 →
    Calls Tryd.prog 26 #[.agg #[.int .u64 (hi : Int), .int .u64 (lo : Int)]] w fun e w' => e = .returned (.string (decS (numW hi lo))) ∧ Below w.heap.size w w' := by
  induction k with
  | zero =>
    intro hi lo w hk hh hl
    have h0 : numW hi lo = 0 := by omega
    have hd := fun W => rdiv_ten hi lo W hl hh
    rw [h0] at hd
    have := rtext_one hi lo 0 w (by decide) hd
    rw [h0, ← rtext_small (by decide)]
    exact this
  | succ k ih =>
    intro hi lo w hk hh hl
    have hd := fun W => rdiv_ten hi lo W hl hh
    have hlt := numW_lt hh hl
    have hr : tr (numW hi lo) < 10 := Nat.mod_lt _ (by decide)
    generalize hx : numW hi lo = x at *
    rcases Nat.lt_or_ge x 10 with h | h
    · have e1 : tq x = 0 := Nat.div_eq_of_lt h
      rw [e1] at hd
      have := rtext_one hi lo (tr x) w hr hd
      rw [← rtext_small h]
      exact this
    · have hqlt : tq x < 65536 ^ 8 := Nat.lt_of_le_of_lt (Nat.div_le_self _ _) hlt
      have hq0 : 0 < tq x := Nat.div_pos h (by decide)
      have hrec := fun W => ih (hiW (tq x)) (loW (tq x)) W (by rw [numW_hl]; unfold tq; omega) (hiW_lt hqlt) (loW_lt _)
      rw [numW_hl] at hrec
      rw [← rtext_big h]
      rcases Nat.eq_zero_or_pos (hiW (tq x)) with h1 | h1
      · have h2 : 0 < loW (tq x) := by
          have := numW_hl (tq x)
          rw [h1] at this
          unfold numW at this
          omega
        rw [h1] at hd hrec
        exact rtext_mid hi lo (tr x) (loW (tq x)) _ w hr h2 (dec_size_le hqlt) hd hrec
      · exact rtext_hi hi lo (tr x) (hiW (tq x)) (loW (tq x)) _ w hr h1 (dec_size_le hqlt) hd hrec
end Go.Proofs.YtmhpfmhpilmfdaaDoor
