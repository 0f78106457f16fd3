/- Proved here: what package wide's sum, product and comparison answer. Condition: halves of 64 bits. -/
import Derived.Test.YtmbpehhbfbmacaaWRi
import Derived.Test.YtmbpehhbfbmacaaSh
import Derived.Laws.Externs
import Derived.Lib.AppendIntMem
namespace Go.Proofs.Ytmbpehhbfbmacaa
open Go.RowKit Go.Sort Go.Lib

theorem add64_run (x y c : Nat) (w : World) (hc : c ≤ 1) :
    (callFunc 47 #[.int .u64 (x : Int), .int .u64 (y : Int), .int .u64 (c : Int)]).run Try.prog w =
      .ok (.value (.tuple #[.int .u64 (((x + y + c) % 18446744073709551616 : Nat) : Int), .int .u64 (((x + y + c) / 18446744073709551616 : Nat) : Int)])) w := by
  rw [run_callFunc_extern Try.func47 (by kernel_rfl) (by kernel_rfl) (by kernel_rfl) (e := add64Entry) (by kernel_rfl), run_add64 x y c (by omega) (by omega) (by omega) (by omega)]
  simp only [Result.andThen]
  congr 5 <;> omega
/-- The low half and the carry of a sum; of a difference. -/
def sLo (x y c : Nat) : Nat := (x + y + c) % 18446744073709551616
def sCa (x y c : Nat) : Nat := (x + y + c) / 18446744073709551616
namespace N4
set_option maxHeartbeats 400000 in
theorem of_any (n : Nat) (w : World) :
    Calls Try.prog 17 #[.int .u64 (n : Int)] w fun e w' => e = .returned (.agg #[.int .u64 ((0 : Nat) : Int), .int .u64 (n : Int)]) ∧ Below w.heap.size w w' := by
  go_enter Try.func17, Try.ntmps17
  go_wp2
  exact bodyPost_ret (ret_box1 rfl rfl (Box.new w 0 n)) rfl ⟨rfl, (Below.refl _ _).alloc (Nat.le_refl _) _⟩
end N4
/-- The halves of a product. -/
def pHi (x y : Nat) : Nat := x * y / 18446744073709551616
def pLo (x y : Nat) : Nat := x * y % 18446744073709551616
theorem mul64_any (x y : Nat) (hx : x < 18446744073709551616) (hy : y < 18446744073709551616) (w : World) :
    Calls Try.prog 35 #[.int .u64 (x : Int), .int .u64 (y : Int)] w fun e w' => e = .returned (.tuple #[.int .u64 (pHi x y : Int), .int .u64 (pLo x y : Int)]) ∧ w = w' :=
  (Try.bits_Mul64 x y hx hy w).mono fun _ _ h => ⟨h.1, h.2.symm⟩
set_option maxHeartbeats 400000 in
theorem mul_any (x y : Nat) (w : World) (hx : x < 18446744073709551616) (hy : y < 18446744073709551616) :
    Calls Try.prog 20 #[.int .u64 (x : Int), .int .u64 (y : Int)] w fun e w' => e = .returned (.agg #[.int .u64 (pHi x y : Int), .int .u64 (pLo x y : Int)]) ∧ Below w.heap.size w w' := by
  have HA := Lib.hid (And.intro hx hy)
  clear hx hy
  go_enter Try.func20, Try.ntmps20
  go_wp2_with (go_at_call 35; (with_reducible refine (mul64_any x y HA.out.1 HA.out.2 _).mono ?_); rintro e w' ⟨rfl, rfl⟩)
  exact bodyPost_ret (ret_box1 rfl rfl (Box.new w _ _)) rfl ⟨rfl, (Below.refl _ _).alloc (Nat.le_refl _) _⟩
theorem new3 (w : World) (o p : Obj) (e f : Nat) : Box (((w.alloc o).alloc p).alloc (.cells #[.int .u64 (e : Int), .int .u64 (f : Int)] 37)) (w.heap.size + 1 + 1) e f := by simpa using Box.new ((w.alloc o).alloc p) e f
theorem bel2 (w : World) (o p : Obj) : Below w.heap.size w ((w.alloc o).alloc p) := ((Below.refl _ w).alloc (Nat.le_refl _) _).alloc (by simp) _
theorem bel3 (w : World) (o p q : Obj) : Below w.heap.size w (((w.alloc o).alloc p).alloc q) := (bel2 w o p).alloc (by simp; omega) _
theorem e8 : (65536 ^ 8 : Nat) = 340282366920938463463374607431768211456 := by decide
theorem sCa_le {x y c : Nat} (hx : x < 18446744073709551616) (hy : y < 18446744073709551616) (hc : c ≤ 1) : sCa x y c ≤ 1 := by unfold sCa; omega
theorem add_fits {a b c d : Nat} (ha : a < 18446744073709551616) (hb : b < 18446744073709551616) (hc : c < 18446744073709551616) (hd : d < 18446744073709551616) :
    (sCa a c (sCa b d 0) = 0 → FitR (numW a b + numW c d) (sLo a c (sCa b d 0)) (sLo b d 0) 0) ∧ (sCa a c (sCa b d 0) ≠ 0 → FitR (numW a b + numW c d) 0 0 2) := by
  unfold FitR numW hiW loW sCa sLo
  rw [e8]
  constructor
  · intro h
    refine .inl ⟨?_, ?_, ?_, rfl⟩ <;> omega
  · intro h
    refine .inr ⟨?_, rfl, rfl, rfl⟩
    omega
set_option maxHeartbeats 400000 in
theorem add_any (a b c d : Nat) (w : World) (ha : a < 18446744073709551616) (hb : b < 18446744073709551616) (hc : c < 18446744073709551616) (hd : d < 18446744073709551616) :
    Calls Try.prog 40 #[.agg #[.int .u64 (a : Int), .int .u64 (b : Int)], .agg #[.int .u64 (c : Int), .int .u64 (d : Int)]] w (FitE (numW a b + numW c d) w) := by
  have r1 : (callFunc 47 #[.int .u64 (b : Int), .int .u64 (d : Int), .int .u64 0]).run Try.prog = fun W => .ok (.value (.tuple #[.int .u64 (sLo b d 0 : Int), .int .u64 (sCa b d 0 : Int)])) W := funext fun W => add64_run b d 0 W (by decide)
  have r2 : (callFunc 47 #[.int .u64 (a : Int), .int .u64 (c : Int), .int .u64 (sCa b d 0 : Int)]).run Try.prog = fun W => .ok (.value (.tuple #[.int .u64 (sLo a c (sCa b d 0) : Int), .int .u64 (sCa a c (sCa b d 0) : Int)])) W := funext fun W => add64_run a c (sCa b d 0) W (sCa_le hb hd (by decide))
  have HF := Lib.hid (add_fits ha hb hc hd)
  clear ha hb hc hd
  by_cases hq : sCa a c (sCa b d 0) = 0
  · have hq1 : (((sCa a c (sCa b d 0) : Nat) : Int) != 0) = false := by simp [hq]
    have HQ := Lib.hid hq
    clear hq
    go_enter Try.func40, Try.ntmps40
    go_wp2
    exact bodyPost_ret (ret_box2 rfl rfl rfl (new3 w _ _ _ _)) rfl ⟨_, _, _, rfl, HF.out.1 HQ.out, bel3 w _ _ _⟩
  · have hq1 : (((sCa a c (sCa b d 0) : Nat) : Int) != 0) = true := by simp [hq]
    have HQ := Lib.hid hq
    clear hq
    go_enter Try.func40, Try.ntmps40
    go_wp2
    exact bodyPost_ret (ret_box2 rfl rfl rfl (BX.start w a b c d).2.2.1) rfl ⟨0, 0, _, rfl, HF.out.2 HQ.out, (BX.start w a b c d).2.2.2⟩
theorem cmp_num {a b c d : Nat} (hb : b < 18446744073709551616) (hd : d < 18446744073709551616) : cmpI (numW a b) (numW c d) = if a = c ∧ b = d then 0 else if a < c ∨ a = c ∧ b < d then -1 else 1 := by
  unfold cmpI numW
  repeat' split
  all_goals omega
set_option maxHeartbeats 400000 in
theorem cmp_any (a b c d : Nat) (w : World) (hb : b < 18446744073709551616) (hd : d < 18446744073709551616) :
    Calls Try.prog 41 #[.agg #[.int .u64 (a : Int), .int .u64 (b : Int)], .agg #[.int .u64 (c : Int), .int .u64 (d : Int)]] w fun e w' => e = .returned (.int .i64 (cmpI (numW a b) (numW c d))) ∧ Below w.heap.size w w' := by
  have HE := Lib.hid (cmp_num (a := a) (c := c) hb hd)
  clear hb hd
  go_enter Try.func41, Try.ntmps41
  go_wp2
  all_goals
    go_ret
    refine ⟨ret_int ?_, ((Below.refl _ _).alloc (Nat.le_refl _) _).alloc (by simp) _⟩
    rw [HE.out]
    repeat' split
    all_goals omega
end Go.Proofs.Ytmbpehhbfbmacaa
