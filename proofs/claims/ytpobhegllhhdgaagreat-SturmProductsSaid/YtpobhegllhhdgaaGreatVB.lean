/- Proved here: what the reference package's digit functions answer and leave in memory. Condition: digits below 65536, as lists that lie in memory. · what the reference package's Less, Minus and Digits answer and leave in memory. Condition: digits below 65536, as lists that lie in memory. · what the reference package's Digits, Value and fit answer and leave in memory. Condition: digits below 65536, as lists that lie in memory. · what the reference package's fit, Add and Sub answer and leave in memory. Condition: numbers of 64 bits as halves. · what package wide's sums, products and comparisons answer, and a numeral's text. Condition: halves of 64 bits. · plain facts on the division of a number of 128 bits by one of 64 bits, as math/bits does it. No condition beyond those named. · what math/bits.Div64 and wide.Div answer. Condition: numbers of 64 bits, the high one below the divisor. · what math/bits.Div64 and wide.Div answer. Condition: numbers of 64 bits, of Div64 the high one below the divisor. -/
import Derived.Test.YtpobhegllhhdgaaGreatRows
import Derived.Test.YtpobhegllhhdgaaGreatSh
import Derived.WalkKit
import Derived.WalkSpells
import Derived.WalkLawsBesides
import Derived.Deep.DeepFit
import Derived.Deep.QuietTactic
import Derived.BigQuiet
import Derived.Lib.Hide
import Derived.StillTailTactics
import Derived.Deep.RegionHeld3
import Derived.ChangeAlike
import Derived.RegionTactic
import Derived.Laws.Externs
import Derived.Shelf.Spec.BitsCarry
import Derived.Lib.AppendIntMem
import Derived.Deep.CutBlock
import Derived.Deep.DeepCutAuto
import Derived.Deep.CutRange
namespace Go.Proofs.YtpobhegllhhdgaaGreat.O
open Go.RowKit

theorem ret_int {k : IntKind} {a b : Int} (h : a = b) : Ending.returned (.int k a) = .returned (.int k b) := by rw [h]
end Go.Proofs.YtpobhegllhhdgaaGreat.O
namespace Go.Proofs.YtpobhegllhhdgaaGreat.O
open Go.RowKit

/-- -1, 0, 1: the first number is less, the same, greater. -/
def cmpI (a b : Nat) : Int := if a < b then -1 else if b < a then 1 else 0
end Go.Proofs.YtpobhegllhhdgaaGreat.O
namespace Go.Proofs.YtpobhegllhhdgaaGreat.O
open Go.RowKit

/-- A number of 128 bits as it lies in a block of its own. -/
def Box (w : World) (g : Nat) (a b : Nat) : Prop := w.heap[g]? = some (.cells #[.int .u64 (a : Int), .int .u64 (b : Int)] 153 (0, 0))
section
variable {w w' : World} {g a b : Nat}
theorem Box.lt (h : Box w g a b) : g < w.heap.size := by
  rcases Nat.lt_or_ge g w.heap.size with hl | hl
  · exact hl
  · unfold Box at h; rw [Array.getElem?_eq_none hl] at h; cases h
theorem Box.c0 (h : Box w g a b) : w.cell? ⟨g, 0, none⟩ = some (.int .u64 (a : Int)) := cell_of_row w g 0 _ 153 (0, 0) h
theorem Box.c1 (h : Box w g a b) : w.cell? ⟨g, 1, none⟩ = some (.int .u64 (b : Int)) := cell_of_row w g 1 _ 153 (0, 0) h
theorem Box.fr (h : Box w g a b) (j : Nat) : w.frozen? ⟨g, j, none⟩ = false := by
  unfold Box at h
  simp [World.frozen?, h]
theorem Box.below {B : Nat} (h : Box w g a b) (hb : Below B w w') (hg : g < B) : Box w' g a b := (hb.block g hg).trans h
theorem Box.new (w : World) (a b : Nat) : Box (w.alloc (.cells #[.int .u64 (a : Int), .int .u64 (b : Int)] 153)) w.heap.size a b := heap_alloc_new w _
theorem Box.alloc (h : Box w g a b) (o : Obj) : Box (w.alloc o) g a b := h.below ((Below.refl _ _).alloc (Nat.le_refl _) o) h.lt
theorem Box.drew (h : Box w g a b) : Box w.drew g a b := h
theorem Box.set0 (h : Box w g a b) (x : Nat) : Box (w.setCell ⟨g, 0, none⟩ (.int .u64 (x : Int))) g x b := by
  unfold Box at h ⊢
  simp [World.setCell, Array.getElem?_modify, h]
theorem Box.set1 (h : Box w g a b) (x : Nat) : Box (w.setCell ⟨g, 1, none⟩ (.int .u64 (x : Int))) g a x := by
  unfold Box at h ⊢
  simp [World.setCell, Array.getElem?_modify, h]
theorem Box.far (h : Box w g a b) {p : Addr} (hp : g ≠ p.block) (u : Value) : Box (w.setCell p u) g a b := (Below.heap_setCell w p u g hp).trans h
end
/-- The two halves of a number of 128 bits. -/
def hiW (n : Nat) : Nat := n / 18446744073709551616
def loW (n : Nat) : Nat := n % 18446744073709551616
end Go.Proofs.YtpobhegllhhdgaaGreat.O
namespace Go.Proofs.YtpobhegllhhdgaaGreat.O
open Go.RowKit

/-- The number of two halves. -/
def numW (hi lo : Nat) : Nat := hi * 18446744073709551616 + lo
theorem ret_box1 {fn : Func} {p : Tmp} {tmps : Array Value} {W : World} {g a b : Nat} (h : fn.results = #[.cell p 153]) (hp : tmps.getD p undef = .pointer (some ⟨g, 0, none⟩)) (hb : Box W g a b) :
    (results fn tmps).run Tryz.prog W = .ok (.agg #[.int .u64 (a : Int), .int .u64 (b : Int)]) W := by
  have hc0 := hb.c0
  have hc1 := hb.c1
  rw [Array.getD_eq_getD_getElem?] at hp
  simp [results, h, hp, go_sem, hc0, hc1]
theorem ret_box2 {fn : Func} {p u : Tmp} {tmps : Array Value} {W : World} {g a b : Nat} {v : Value} (h : fn.results = #[.cell p 153, .tmp u]) (hp : tmps.getD p undef = .pointer (some ⟨g, 0, none⟩)) (hv : tmps.getD u undef = v) (hb : Box W g a b) :
    (results fn tmps).run Tryz.prog W = .ok (.tuple #[.agg #[.int .u64 (a : Int), .int .u64 (b : Int)], v]) W := by
  have hc0 := hb.c0
  have hc1 := hb.c1
  rw [Array.getD_eq_getD_getElem?] at hp hv
  simp [results, h, hp, hv, go_sem, hc0, hc1]
theorem ret_box3 {fn : Func} {p u t : Tmp} {tmps : Array Value} {W : World} {g a b : Nat} {v x : Value} (h : fn.results = #[.cell p 153, .tmp u, .tmp t]) (hp : tmps.getD p undef = .pointer (some ⟨g, 0, none⟩)) (hv : tmps.getD u undef = v) (hx : tmps.getD t undef = x) (hb : Box W g a b) :
    (results fn tmps).run Tryz.prog W = .ok (.tuple #[.agg #[.int .u64 (a : Int), .int .u64 (b : Int)], v, x]) W := by
  have hc0 := hb.c0
  have hc1 := hb.c1
  rw [Array.getD_eq_getD_getElem?] at hp hv hx
  simp [results, h, hp, hv, hx, go_sem, hc0, hc1]
/-- What is answered of a number: its halves and 0, or 0 and 2 where it is too great. -/
def FitR (n : Nat) (h l : Nat) (c : Int) : Prop := (n < 65536 ^ 8 ∧ h = hiW n ∧ l = loW n ∧ c = 0) ∨ (¬ n < 65536 ^ 8 ∧ h = 0 ∧ l = 0 ∧ c = 2)
theorem FitR.same {n h l h' l' : Nat} {c c' : Int} (a : FitR n h l c) (b : FitR n h' l' c') : h = h' ∧ l = l' ∧ c = c' := by
  rcases a with ⟨a1, a2, a3, a4⟩ | ⟨a1, a2, a3, a4⟩ <;> rcases b with ⟨b1, b2, b3, b4⟩ | ⟨b1, b2, b3, b4⟩
  · exact ⟨by rw [a2, b2], by rw [a3, b3], by rw [a4, b4]⟩
  · exact absurd a1 b1
  · exact absurd b1 a1
  · exact ⟨by rw [a2, b2], by rw [a3, b3], by rw [a4, b4]⟩
def FitE (n : Nat) (w : World) (e : Ending) (w' : World) : Prop := ∃ (h l : Nat) (c : Int), e = .returned (.tuple #[.agg #[.int .u64 (h : Int), .int .u64 (l : Int)], .int .i64 c]) ∧ FitR n h l c ∧ Below w.heap.size w w'
/-- Two numbers in boxes, and one for the answer. -/
def BX (w W : World) (a b c d : Nat) : Prop := Box W w.heap.size a b ∧ Box W (w.heap.size + 1) c d ∧ Box W (w.heap.size + 2) 0 0 ∧ Below w.heap.size w W
theorem BX.start (w : World) (a b c d : Nat) : BX w (((w.alloc (.cells #[.int .u64 (a : Int), .int .u64 (b : Int)] 153)).alloc (.cells #[.int .u64 (c : Int), .int .u64 (d : Int)] 153)).alloc (.cells #[.int .u64 0, .int .u64 0] 153)) a b c d := by
  refine ⟨((Box.new w a b).alloc _).alloc _, ?_, ?_, (((Below.refl _ w).alloc (Nat.le_refl _) _).alloc (by simp) _).alloc (by simp; omega) _⟩
  · have := (Box.new (w.alloc (.cells #[.int .u64 (a : Int), .int .u64 (b : Int)] 153)) c d).alloc (.cells #[.int .u64 0, .int .u64 0] 153)
    simpa using this
  · have := Box.new ((w.alloc (.cells #[.int .u64 (a : Int), .int .u64 (b : Int)] 153)).alloc (.cells #[.int .u64 (c : Int), .int .u64 (d : Int)] 153)) 0 0
    simpa using this
theorem BX.drew {w W : World} {a b c d : Nat} (h : BX w W a b c d) : BX w W.drew a b c d := ⟨h.1, h.2.1, h.2.2.1, h.2.2.2.drew⟩
theorem BX.next {w W W' : World} {a b c d : Nat} (h : BX w W a b c d) (hb : Below W.heap.size W W') : BX w W' a b c d :=
  ⟨h.1.below hb h.1.lt, h.2.1.below hb h.2.1.lt, h.2.2.1.below hb h.2.2.1.lt, h.2.2.2.trans (hb.mono h.2.2.2.size)⟩
/-- What the walk wants of them. -/
def BXF (w W : World) (a b c d : Nat) : Prop :=
  W.cell? ⟨w.heap.size, 0, none⟩ = some (.int .u64 (a : Int)) ∧ W.cell? ⟨w.heap.size, 1, none⟩ = some (.int .u64 (b : Int)) ∧ W.cell? ⟨w.heap.size + 1, 0, none⟩ = some (.int .u64 (c : Int)) ∧ W.cell? ⟨w.heap.size + 1, 1, none⟩ = some (.int .u64 (d : Int)) ∧
  W.cell? ⟨w.heap.size + 2, 0, none⟩ = some (.int .u64 0) ∧ W.cell? ⟨w.heap.size + 2, 1, none⟩ = some (.int .u64 0) ∧ W.frozen? ⟨w.heap.size + 2, 0, none⟩ = false ∧ W.frozen? ⟨w.heap.size + 2, 1, none⟩ = false
theorem BX.facts {w W : World} {a b c d : Nat} (h : BX w W a b c d) : BXF w W a b c d := ⟨h.1.c0, h.1.c1, h.2.1.c0, h.2.1.c1, h.2.2.1.c0, h.2.2.1.c1, h.2.2.1.fr 0, h.2.2.1.fr 1⟩
end Go.Proofs.YtpobhegllhhdgaaGreat.O
namespace Go.Proofs.YtpobhegllhhdgaaGreat.O
open Go.RowKit Go.Sort Go.Lib

theorem add64_run (x y c : Nat) (w : World) (hc : c ≤ 1) :
    (callFunc 138 #[.int .u64 (x : Int), .int .u64 (y : Int), .int .u64 (c : Int)]).run Tryz.prog w =
      .ok (.value (.tuple #[.int .u64 (((x + y + c) % 18446744073709551616 : Nat) : Int), .int .u64 (((x + y + c) / 18446744073709551616 : Nat) : Int)])) w := by
  rw [run_callFunc_extern Tryz.func138 (by kernel_rfl) (by kernel_rfl) (by kernel_rfl) (e := add64Entry) (by kernel_rfl), run_add64 x y c (by omega) (by omega) (by omega) (by omega)]
  simp only [Result.andThen]
  congr 5 <;> omega
theorem sub64_run (x y b : Nat) (w : World) (hb : b ≤ 1) :
    (callFunc 139 #[.int .u64 (x : Int), .int .u64 (y : Int), .int .u64 (b : Int)]).run Tryz.prog w =
      .ok (.value (.tuple #[.int .u64 (((x + 18446744073709551616 - y - b) % 18446744073709551616 : Nat) : Int), .int .u64 ((if x < y + b then 1 else 0 : Nat) : Int)])) w := by
  rw [run_callFunc_extern Tryz.func139 (by kernel_rfl) (by kernel_rfl) (by kernel_rfl) (e := sub64Entry) (by kernel_rfl), run_sub64 x y b hb]
  rfl
/-- The low half and the carry of a sum; of a difference. -/
def sLo (x y c : Nat) : Nat := (x + y + c) % 18446744073709551616
def sCa (x y c : Nat) : Nat := (x + y + c) / 18446744073709551616
def dLo (x y c : Nat) : Nat := (x + 18446744073709551616 - y - c) % 18446744073709551616
def dCa (x y c : Nat) : Nat := if x < y + c then 1 else 0

set_option maxHeartbeats 400000 in
theorem of_any (n : Nat) (w : World) :
    Calls Tryz.prog 136 #[.int .u64 (n : Int)] w fun e w' => e = .returned (.agg #[.int .u64 ((0 : Nat) : Int), .int .u64 (n : Int)]) ∧ Below w.heap.size w w' := by
  go_enter Tryz.func136, Tryz.ntmps136
  go_wp2
  exact bodyPost_ret (ret_box1 rfl rfl (Box.new w 0 n)) rfl ⟨rfl, (Below.refl _ _).alloc (Nat.le_refl _) _⟩
/-- The halves of a product. -/
def pHi (x y : Nat) : Nat := x * y / 18446744073709551616
def pLo (x y : Nat) : Nat := x * y % 18446744073709551616
theorem mul64_any (x y : Nat) (hx : x < 18446744073709551616) (hy : y < 18446744073709551616) (w : World) :
    Calls Tryz.prog 128 #[.int .u64 (x : Int), .int .u64 (y : Int)] w fun e w' => e = .returned (.tuple #[.int .u64 (pHi x y : Int), .int .u64 (pLo x y : Int)]) ∧ w = w' :=
  (Tryz.bits_Mul64 x y hx hy w).mono fun _ _ h => ⟨h.1, h.2.symm⟩
set_option maxHeartbeats 400000 in
theorem mul_any (x y : Nat) (w : World) (hx : x < 18446744073709551616) (hy : y < 18446744073709551616) :
    Calls Tryz.prog 120 #[.int .u64 (x : Int), .int .u64 (y : Int)] w fun e w' => e = .returned (.agg #[.int .u64 (pHi x y : Int), .int .u64 (pLo x y : Int)]) ∧ Below w.heap.size w w' := by
  have HA := Lib.hid (And.intro hx hy)
  clear hx hy
  go_enter Tryz.func120, Tryz.ntmps120
  go_wp2_with (go_at_call 128; (with_reducible refine (mul64_any x y HA.out.1 HA.out.2 _).mono ?_); rintro e w' ⟨rfl, rfl⟩)
  exact bodyPost_ret (ret_box1 rfl rfl (Box.new w _ _)) rfl ⟨rfl, (Below.refl _ _).alloc (Nat.le_refl _) _⟩
theorem new2 (w : World) (o : Obj) (e f : Nat) : Box ((w.alloc o).alloc (.cells #[.int .u64 (e : Int), .int .u64 (f : Int)] 153)) (w.heap.size + 1) e f := by simpa using Box.new (w.alloc o) e f
theorem new3 (w : World) (o p : Obj) (e f : Nat) : Box (((w.alloc o).alloc p).alloc (.cells #[.int .u64 (e : Int), .int .u64 (f : Int)] 153)) (w.heap.size + 1 + 1) e f := by simpa using Box.new ((w.alloc o).alloc p) e f
theorem bel2 (w : World) (o p : Obj) : Below w.heap.size w ((w.alloc o).alloc p) := ((Below.refl _ w).alloc (Nat.le_refl _) _).alloc (by simp) _
theorem bel3 (w : World) (o p q : Obj) : Below w.heap.size w (((w.alloc o).alloc p).alloc q) := (bel2 w o p).alloc (by simp; omega) _
theorem e8 : (65536 ^ 8 : Nat) = 340282366920938463463374607431768211456 := by decide
theorem sCa_le {x y c : Nat} (hx : x < 18446744073709551616) (hy : y < 18446744073709551616) (hc : c ≤ 1) : sCa x y c ≤ 1 := by unfold sCa; omega
theorem dCa_le (x y c : Nat) : dCa x y c ≤ 1 := by unfold dCa; split <;> omega
theorem add_fits {a b c d : Nat} (ha : a < 18446744073709551616) (hb : b < 18446744073709551616) (hc : c < 18446744073709551616) (hd : d < 18446744073709551616) :
    (sCa a c (sCa b d 0) = 0 → FitR (numW a b + numW c d) (sLo a c (sCa b d 0)) (sLo b d 0) 0) ∧ (sCa a c (sCa b d 0) ≠ 0 → FitR (numW a b + numW c d) 0 0 2) := by
  unfold FitR numW hiW loW sCa sLo
  rw [e8]
  constructor
  · intro h
    refine .inl ⟨?_, ?_, ?_, rfl⟩ <;> omega
  · intro h
    refine .inr ⟨?_, rfl, rfl, rfl⟩
    omega
set_option maxHeartbeats 400000 in
theorem add_any (a b c d : Nat) (w : World) (ha : a < 18446744073709551616) (hb : b < 18446744073709551616) (hc : c < 18446744073709551616) (hd : d < 18446744073709551616) :
    Calls Tryz.prog 134 #[.agg #[.int .u64 (a : Int), .int .u64 (b : Int)], .agg #[.int .u64 (c : Int), .int .u64 (d : Int)]] w (FitE (numW a b + numW c d) w) := by
  have r1 : (callFunc 138 #[.int .u64 (b : Int), .int .u64 (d : Int), .int .u64 0]).run Tryz.prog = fun W => .ok (.value (.tuple #[.int .u64 (sLo b d 0 : Int), .int .u64 (sCa b d 0 : Int)])) W := funext fun W => add64_run b d 0 W (by decide)
  have r2 : (callFunc 138 #[.int .u64 (a : Int), .int .u64 (c : Int), .int .u64 (sCa b d 0 : Int)]).run Tryz.prog = fun W => .ok (.value (.tuple #[.int .u64 (sLo a c (sCa b d 0) : Int), .int .u64 (sCa a c (sCa b d 0) : Int)])) W := funext fun W => add64_run a c (sCa b d 0) W (sCa_le hb hd (by decide))
  have HF := Lib.hid (add_fits ha hb hc hd)
  clear ha hb hc hd
  by_cases hq : sCa a c (sCa b d 0) = 0
  · have hq1 : (((sCa a c (sCa b d 0) : Nat) : Int) != 0) = false := by simp [hq]
    have HQ := Lib.hid hq
    clear hq
    go_enter Tryz.func134, Tryz.ntmps134
    go_wp2
    exact bodyPost_ret (ret_box2 rfl rfl rfl (new3 w _ _ _ _)) rfl ⟨_, _, _, rfl, HF.out.1 HQ.out, bel3 w _ _ _⟩
  · have hq1 : (((sCa a c (sCa b d 0) : Nat) : Int) != 0) = true := by simp [hq]
    have HQ := Lib.hid hq
    clear hq
    go_enter Tryz.func134, Tryz.ntmps134
    go_wp2
    exact bodyPost_ret (ret_box2 rfl rfl rfl (BX.start w a b c d).2.2.1) rfl ⟨0, 0, _, rfl, HF.out.2 HQ.out, (BX.start w a b c d).2.2.2⟩
/-- What is answered of a difference: its halves and 0, or 0 and 2 where it is below 0. -/
def SubR (x y h l : Nat) (c : Int) : Prop := (y ≤ x ∧ h = hiW (x - y) ∧ l = loW (x - y) ∧ c = 0) ∨ (x < y ∧ h = 0 ∧ l = 0 ∧ c = 2)
def SubE (x y : Nat) (w : World) (e : Ending) (w' : World) : Prop := ∃ (h l : Nat) (c : Int), e = .returned (.tuple #[.agg #[.int .u64 (h : Int), .int .u64 (l : Int)], .int .i64 c]) ∧ SubR x y h l c ∧ Below w.heap.size w w'
theorem SubR.same {x y h l h' l' : Nat} {c c' : Int} (a : SubR x y h l c) (b : SubR x y h' l' c') : h = h' ∧ l = l' ∧ c = c' := by
  rcases a with ⟨a1, a2, a3, a4⟩ | ⟨a1, a2, a3, a4⟩ <;> rcases b with ⟨b1, b2, b3, b4⟩ | ⟨b1, b2, b3, b4⟩
  · exact ⟨by rw [a2, b2], by rw [a3, b3], by rw [a4, b4]⟩
  · omega
  · omega
  · exact ⟨by rw [a2, b2], by rw [a3, b3], by rw [a4, b4]⟩
theorem sub_fits {a b c d : Nat} (ha : a < 18446744073709551616) (hb : b < 18446744073709551616) (hc : c < 18446744073709551616) (hd : d < 18446744073709551616) :
    (dCa a c (dCa b d 0) = 0 → SubR (numW a b) (numW c d) (dLo a c (dCa b d 0)) (dLo b d 0) 0) ∧ (dCa a c (dCa b d 0) ≠ 0 → SubR (numW a b) (numW c d) 0 0 2) := by
  unfold SubR numW hiW loW dCa dLo
  constructor
  · intro h
    refine .inl ⟨?_, ?_, ?_, rfl⟩ <;> (split at h <;> split at h <;> (try split) <;> omega)
  · intro h
    refine .inr ⟨?_, rfl, rfl, rfl⟩
    split at h <;> split at h <;> omega
set_option maxHeartbeats 400000 in
theorem sub_any (a b c d : Nat) (w : World) (ha : a < 18446744073709551616) (hb : b < 18446744073709551616) (hc : c < 18446744073709551616) (hd : d < 18446744073709551616) :
    Calls Tryz.prog 135 #[.agg #[.int .u64 (a : Int), .int .u64 (b : Int)], .agg #[.int .u64 (c : Int), .int .u64 (d : Int)]] w (SubE (numW a b) (numW c d) w) := by
  have r1 : (callFunc 139 #[.int .u64 (b : Int), .int .u64 (d : Int), .int .u64 0]).run Tryz.prog = fun W => .ok (.value (.tuple #[.int .u64 (dLo b d 0 : Int), .int .u64 (dCa b d 0 : Int)])) W := funext fun W => sub64_run b d 0 W (by decide)
  have r2 : (callFunc 139 #[.int .u64 (a : Int), .int .u64 (c : Int), .int .u64 (dCa b d 0 : Int)]).run Tryz.prog = fun W => .ok (.value (.tuple #[.int .u64 (dLo a c (dCa b d 0) : Int), .int .u64 (dCa a c (dCa b d 0) : Int)])) W := funext fun W => sub64_run a c (dCa b d 0) W (dCa_le _ _ _)
  have HF := Lib.hid (sub_fits ha hb hc hd)
  clear ha hb hc hd
  by_cases hq : dCa a c (dCa b d 0) = 0
  · have hq1 : (((dCa a c (dCa b d 0) : Nat) : Int) != 0) = false := by simp [hq]
    have HQ := Lib.hid hq
    clear hq
    go_enter Tryz.func135, Tryz.ntmps135
    go_wp2
    exact bodyPost_ret (ret_box2 rfl rfl rfl (new3 w _ _ _ _)) rfl ⟨_, _, _, rfl, HF.out.1 HQ.out, bel3 w _ _ _⟩
  · have hq1 : (((dCa a c (dCa b d 0) : Nat) : Int) != 0) = true := by simp [hq]
    have HQ := Lib.hid hq
    clear hq
    go_enter Tryz.func135, Tryz.ntmps135
    go_wp2
    exact bodyPost_ret (ret_box2 rfl rfl rfl (BX.start w a b c d).2.2.1) rfl ⟨0, 0, _, rfl, HF.out.2 HQ.out, (BX.start w a b c d).2.2.2⟩
theorem cmp_num {a b c d : Nat} (hb : b < 18446744073709551616) (hd : d < 18446744073709551616) : cmpI (numW a b) (numW c d) = if a = c ∧ b = d then 0 else if a < c ∨ a = c ∧ b < d then -1 else 1 := by
  unfold cmpI numW
  repeat' split
  all_goals omega
set_option maxHeartbeats 400000 in
theorem cmp_any (a b c d : Nat) (w : World) (hb : b < 18446744073709551616) (hd : d < 18446744073709551616) :
    Calls Tryz.prog 121 #[.agg #[.int .u64 (a : Int), .int .u64 (b : Int)], .agg #[.int .u64 (c : Int), .int .u64 (d : Int)]] w fun e w' => e = .returned (.int .i64 (cmpI (numW a b) (numW c d))) ∧ Below w.heap.size w w' := by
  have HE := Lib.hid (cmp_num (a := a) (c := c) hb hd)
  clear hb hd
  go_enter Tryz.func121, Tryz.ntmps121
  go_wp2
  all_goals
    go_ret
    refine ⟨ret_int ?_, ((Below.refl _ _).alloc (Nat.le_refl _) _).alloc (by simp) _⟩
    rw [HE.out]
    repeat' split
    all_goals omega
end Go.Proofs.YtpobhegllhhdgaaGreat.O
namespace Go.Proofs.YtpobhegllhhdgaaGreat.O

/-- One digit of the division: q isn't less than the true one, and what is left over is known. -/
structure KnuthR (u y1 y0 d q r : Nat) : Prop where
  ge : (u * 4294967296 + d) / (y1 * 4294967296 + y0) ≤ q
  eq : q * y1 + r = u
  le : q ≤ 4294967297
  rl : r < 4294967296
theorem knuth_start {u y1 y0 d : Nat} (h1 : 2147483648 ≤ y1) (h1' : y1 < 4294967296) (h0 : y0 < 4294967296) (hd : d < 4294967296) (hu : u < y1 * 4294967296 + y0) :
    KnuthR u y1 y0 d (u / y1) (u % y1) := by
  have hm := Nat.div_add_mod u y1
  have hr := Nat.mod_lt u (show 0 < y1 by omega)
  refine ⟨?_, Nat.div_add_mod' u y1, ?_, Nat.lt_trans hr h1'⟩
  · rw [Nat.le_div_iff_mul_le (by omega)]
    have h2 := Nat.div_mul_le_self (u * 4294967296 + d) (y1 * 4294967296 + y0)
    generalize (u * 4294967296 + d) / (y1 * 4294967296 + y0) = Q at *
    have h3 : Q * (y1 * 4294967296 + y0) = Q * y1 * 4294967296 + Q * y0 := by grind
    rw [h3] at h2
    have h5 : Q * y1 * 4294967296 ≤ u * 4294967296 + d := Nat.le_trans (Nat.le_add_right _ _) h2
    generalize Q * y1 = T at h5 ⊢
    clear h2 h3
    omega
  · have : u / y1 < 4294967298 := by
      rw [Nat.div_lt_iff_lt_mul (by omega)]
      omega
    omega
/-- The true digit is below 2^32. -/
theorem knuth_small {u y d : Nat} (hd : d < 4294967296) (hu : u < y) : (u * 4294967296 + d) / y < 4294967296 := by
  rw [Nat.div_lt_iff_lt_mul (by omega)]
  omega
/-- The digit that is too great is lowered. -/
theorem knuth_step {u y1 y0 d q r : Nat} (hd : d < 4294967296) (hu : u < y1 * 4294967296 + y0) (h : KnuthR u y1 y0 d q r) (hc : 4294967296 ≤ q ∨ 4294967296 * r + d < q * y0) :
    1 ≤ q ∧ (u * 4294967296 + d) / (y1 * 4294967296 + y0) ≤ q - 1 ∧ (q - 1) * y1 + (r + y1) = u ∧ q - 1 ≤ 4294967296 := by
  obtain ⟨h1, h2, h3, h4⟩ := h
  have hs := knuth_small hd hu
  have hq : 1 ≤ q := by
    rcases hc with hc | hc
    · omega
    · rcases Nat.eq_zero_or_pos q with h0 | h0
      · subst h0; omega
      · exact h0
  obtain ⟨p, rfl⟩ : ∃ p, q = p + 1 := ⟨q - 1, by omega⟩
  refine ⟨hq, ?_, ?_, by omega⟩
  · show _ ≤ p
    rcases hc with hc | hc
    · omega
    · have h5 : (u * 4294967296 + d) / (y1 * 4294967296 + y0) < p + 1 := by
        rw [Nat.div_lt_iff_lt_mul (by omega)]
        have h6 : (p + 1) * (y1 * 4294967296 + y0) = (p + 1) * y1 * 4294967296 + (p + 1) * y0 := by grind
        rw [h6]
        omega
      omega
  · have h6 : (p + 1) * y1 = p * y1 + y1 := by grind
    show p * y1 + (r + y1) = u
    omega
/-- A digit that isn't too great is the true one. -/
theorem knuth_end {u y1 y0 d q r : Nat} (hy : 0 < y1) (h1 : (u * 4294967296 + d) / (y1 * 4294967296 + y0) ≤ q) (h2 : q * y1 + r = u) (hc : q * y0 ≤ 4294967296 * r + d) :
    q = (u * 4294967296 + d) / (y1 * 4294967296 + y0) := by
  refine Nat.le_antisymm ?_ h1
  rw [Nat.le_div_iff_mul_le (by omega)]
  have h6 : q * (y1 * 4294967296 + y0) = q * y1 * 4294967296 + q * y0 := by grind
  rw [h6]
  omega
/-- What is left over is so great that the digit isn't too great. -/
theorem knuth_break {y0 d q r : Nat} (h0 : y0 < 4294967296) (hq : q ≤ 4294967296) (hr : 4294967296 ≤ r) : q * y0 ≤ 4294967296 * r + d := by
  have h1 := Nat.mul_le_mul hq (show y0 ≤ 4294967295 by omega)
  omega
theorem knuth_one {A y d0 : Nat} (hy : 0 < y) :
    (A * 4294967296 + d0) / y = A / y * 4294967296 + (A % y * 4294967296 + d0) / y ∧ (A * 4294967296 + d0) % y = (A % y * 4294967296 + d0) % y := by
  have hA := Nat.div_add_mod A y
  have e2 : A * 4294967296 + d0 = A % y * 4294967296 + d0 + y * (A / y * 4294967296) := by
    generalize A / y = Q at *
    generalize A % y = R at *
    subst hA
    grind
  constructor
  · have h := Nat.add_mul_div_left (A % y * 4294967296 + d0) (A / y * 4294967296) hy
    rw [← e2] at h
    rw [h, Nat.add_comm]
  · have h := Nat.add_mul_mod_self_left (A % y * 4294967296 + d0) y (A / y * 4294967296)
    rw [← e2] at h
    exact h
/-- Two digits make the quotient. -/
theorem knuth_two {u y d1 d0 : Nat} (hy : 0 < y) :
    (u * 18446744073709551616 + (d1 * 4294967296 + d0)) / y = (u * 4294967296 + d1) / y * 4294967296 + ((u * 4294967296 + d1) % y * 4294967296 + d0) / y ∧
    (u * 18446744073709551616 + (d1 * 4294967296 + d0)) % y = ((u * 4294967296 + d1) % y * 4294967296 + d0) % y := by
  have e : u * 18446744073709551616 + (d1 * 4294967296 + d0) = (u * 4294967296 + d1) * 4294967296 + d0 := by omega
  rw [e]
  exact knuth_one hy
/-- What is left over, reckoned in 64 bits that go round. -/
theorem knuth_rest {u y d q : Nat} (hy : 0 < y) (hy' : y < 18446744073709551616) (hq : q = (u * 4294967296 + d) / y) :
    (((u : Int) * 4294967296 + d - q * y) % 18446744073709551616) = (((u * 4294967296 + d) % y : Nat) : Int) := by
  have h := Nat.div_add_mod (u * 4294967296 + d) y
  have hlt := Nat.mod_lt (u * 4294967296 + d) hy
  rw [← hq] at h
  have e : (u : Int) * 4294967296 + d - q * y = (((u * 4294967296 + d) % y : Nat) : Int) := by
    have h' : ((y * q + (u * 4294967296 + d) % y : Nat) : Int) = ((u * 4294967296 + d : Nat) : Int) := by rw [h]
    simp only [Int.natCast_add, Int.natCast_mul] at h'
    have hc : (q : Int) * y = y * q := Int.mul_comm _ _
    rw [hc]
    have h4 : ((4294967296 : Nat) : Int) = 4294967296 := rfl
    omega
  rw [e]
  omega
end Go.Proofs.YtpobhegllhhdgaaGreat.O
namespace Go.Proofs.YtpobhegllhhdgaaGreat.O
open Go.RowKit

theorem lz_any (y s : Nat) (w : World) (hy : y < 18446744073709551616) (hs : s = 64 - Lib.bitLen y) (hb : Lib.bitLen y ≤ 64) :
    Calls Tryz.prog 137 #[.int .u64 (y : Int)] w fun e w' => e = .returned (.int .i64 (s : Int)) ∧ w = w' :=
  (Tryz.bits_LeadingZeros64 (y : Int) w (by omega) (by omega)).mono fun _ _ h => ⟨by rw [h.1, hs]; simp; omega, h.2.symm⟩
set_option maxHeartbeats 400000 in
theorem div64_small (lo y : Nat) (w : World) (hl : lo < 18446744073709551616) (hy : 0 < y) (hy' : y < 18446744073709551616) :
    Calls Tryz.prog 133 #[.int .u64 0, .int .u64 (lo : Int), .int .u64 (y : Int)] w fun e w' => e = .returned (.tuple #[.int .u64 ((lo / y : Nat) : Int), .int .u64 ((lo % y : Nat) : Int)]) ∧ Below w.heap.size w w' := by
  have h1 : ((y : Int) == 0) = false := by simp; omega
  have h2 : ¬ y ≤ 0 := by omega
  go_enter Tryz.func133, Tryz.ntmps133
  go_wp2_with fail
  go_quiet (fail)
  go_wp2_with fail
  have e : IntKind.u64.wrap ((lo : Int) / (y : Int)) = ((lo / y : Nat) : Int) := by
    have h4 : lo / y ≤ lo := Nat.div_le_self _ _
    have h5 : (lo : Int) / (y : Int) = ((lo / y : Nat) : Int) := by simp
    rw [h5]
    exact IntWalk.u64_in _ ⟨Int.natCast_nonneg _, by omega⟩
  go_ret2
  exact ⟨by rw [e]; simp, below_drewN (Below.refl _ _) _⟩
/-- What a product of 64 bits is where it doesn't go round. -/
theorem wrapN {x : Int} {n : Nat} (h : x = (n : Int)) (hn : n < 18446744073709551616) : IntKind.u64.wrap x = (n : Int) := by
  rw [h]
  exact IntWalk.u64_in _ ⟨Int.natCast_nonneg _, by omega⟩
/-- What holds at each round's head of a digit's search. -/
def KR (u y1 y0 d : Nat) (q r : Value) : Prop := ∃ qn rn : Nat, q = .int .u64 (qn : Int) ∧ r = .int .u64 (rn : Int) ∧ KnuthR u y1 y0 d qn rn
set_option maxHeartbeats 2000000 in
set_option maxRecDepth 100000 in
theorem div64_core (hi lo y s Y y1 y0 u v d1 d0 q1 r1 Q1 R1 q0 r0 Q0 R0 : Nat) (w : World) (hh : 0 < hi) (hyy : hi < y) (hs' : s ≤ 63)
    (hlz : Calls Tryz.prog 137 #[.int .u64 (y : Int)] w fun e w' => e = .returned (.int .i64 (s : Int)) ∧ w = w')
    (E1 : IntKind.u64.wrap ((y : Int) * 2 ^ s) = (Y : Int)) (E2 : (Y : Int) / 4294967296 = (y1 : Int)) (hy1 : 2147483648 ≤ y1) (hy1' : y1 < 4294967296) (hy0 : y0 < 4294967296)
    (E3 : bits .and .u64 (Y : Int) 4294967295 = (y0 : Int)) (E4 : bits .or .u64 (IntKind.u64.wrap ((hi : Int) * 2 ^ s)) ((lo : Int) / 2 ^ (64 - s)) = (u : Int))
    (E5 : IntKind.u64.wrap ((lo : Int) * 2 ^ s) = (v : Int)) (E6 : (v : Int) / 4294967296 = (d1 : Int)) (E7 : bits .and .u64 (v : Int) 4294967295 = (d0 : Int)) (hd1 : d1 < 4294967296) (hd0 : d0 < 4294967296)
    (E8 : IntKind.u64.wrap ((u : Int) / (y1 : Int)) = (q1 : Int)) (E9 : IntKind.u64.wrap ((u : Int) - IntKind.u64.wrap ((q1 : Int) * (y1 : Int))) = (r1 : Int)) (K1 : KnuthR u y1 y0 d1 q1 r1)
    (hu : u < y1 * 4294967296 + y0) (hQ1 : Q1 = (u * 4294967296 + d1) / (y1 * 4294967296 + y0))
    (E10 : IntKind.u64.wrap (IntKind.u64.wrap (IntKind.u64.wrap ((u : Int) * 4294967296) + (d1 : Int)) - IntKind.u64.wrap ((Q1 : Int) * (Y : Int))) = (R1 : Int))
    (E11 : IntKind.u64.wrap ((R1 : Int) / (y1 : Int)) = (q0 : Int)) (E12 : IntKind.u64.wrap ((R1 : Int) - IntKind.u64.wrap ((q0 : Int) * (y1 : Int))) = (r0 : Int)) (K0 : KnuthR R1 y1 y0 d0 q0 r0)
    (hR1 : R1 < y1 * 4294967296 + y0) (hQ0 : Q0 = (R1 * 4294967296 + d0) / (y1 * 4294967296 + y0))
    (E13 : IntKind.u64.wrap (IntKind.u64.wrap (IntKind.u64.wrap ((R1 : Int) * 4294967296) + (d0 : Int)) - IntKind.u64.wrap ((Q0 : Int) * (Y : Int))) = (R0 : Int)) :
    Calls Tryz.prog 133 #[.int .u64 (hi : Int), .int .u64 (lo : Int), .int .u64 (y : Int)] w fun e w' => e = .returned (.tuple #[.int .u64 (IntKind.u64.wrap (IntKind.u64.wrap ((Q1 : Int) * 4294967296) + (Q0 : Int))), .int .u64 ((R0 : Int) / 2 ^ s)]) ∧ w = w' := by
  have h1 : ((y : Int) == 0) = false := by simp; omega
  have h2 : ¬ y ≤ hi := by omega
  have h3 : ((hi : Int) == 0) = false := by simp; omega
  have HQ1 := Lib.hid hQ1
  have HQ0 := Lib.hid hQ0
  have HK1 := Lib.hid K1
  have HK0 := Lib.hid K0
  have HU := Lib.hid hu
  have HR := Lib.hid hR1
  have HZ := Lib.hid hlz
  clear hQ1 hQ0 K1 K0 hu hR1 hlz
  go_enter Tryz.func133, Tryz.ntmps133
  go_upto_block 0 with (go_at_call 137; (with_reducible refine HZ.out.mono ?_); rintro e w' ⟨rfl, rfl⟩)
  go_cut [15, 16] from 67 to 85 (fun q r wx => q = .int .u64 (Q1 : Int) ∧ w = wx)
  case first =>
    go_wp2_with fail
    clear E1 E2 E3 E4 E5 E6 E7 E8 E9 E10 E11 E12 E13
    go_loop [15, 16] (fun q r => KR u y1 y0 d1 q r) (fun q _ => (intOf q).toNat)
    case atStart => exact ⟨_, _, rfl, rfl, HK1.out⟩
    case round =>
      obtain ⟨q, r, rfl, rfl, hk⟩ := hrel
      have hql : (q : Int) ≤ 4294967297 := by have := hk.le; omega
      have hrl : (r : Int) < 4294967296 := by have := hk.rl; omega
      have hdl : (d1 : Int) < 4294967296 := by omega
      have P1 : Hid (q * y0 < 18446744073709551616) := by
        have := Nat.mul_le_mul hk.le (show y0 ≤ 4294967295 by omega)
        exact Nat.lt_of_le_of_lt this (by decide)
      obtain ⟨P, hP⟩ : ∃ P, P = q * y0 := ⟨_, rfl⟩
      have F1 : IntKind.u64.wrap ((q : Int) * (y0 : Int)) = (P : Int) := wrapN (by rw [hP]; simp) (by rw [hP]; exact P1.out)
      have HP := Lib.hid hP
      have HKq := Lib.hid hk
      have hyl : (2147483648 : Int) ≤ (y1 : Int) := by omega
      have hyu : (y1 : Int) < 4294967296 := by omega
      have HY := Lib.hid (And.intro hy0 (And.intro hd1 hy1))
      clear hP hk hy1 hy1' hy0 hd1 hd0
      by_cases hc3 : ¬ 4294967296 ≤ (q : Int) ∧ ¬ 4294967296 * (r : Int) + (d1 : Int) < (P : Int)
      · obtain ⟨hc, hc2⟩ := hc3
        go_wp2_with fail
        go_meet
        refine ⟨?_, rfl⟩
        have := knuth_end (d := d1) (y0 := y0) (by omega) HKq.out.ge HKq.out.eq (by have := HP.out; omega)
        rw [HQ1.out, ← this]
      · have hst := knuth_step HY.out.2.1 HU.out HKq.out (by rw [← HP.out]; omega)
        have hq1 : (1 : Int) ≤ (q : Int) := by have := hst.1; omega
        have HT := Lib.hid hst
        clear hst
        have hrel' : r + y1 < 4294967296 → KR u y1 y0 d1 (.int .u64 ((q : Int) - 1)) (.int .u64 ((r : Int) + (y1 : Int))) := fun h =>
          ⟨q - 1, r + y1, by congr 1; omega, by congr 1, ⟨HT.out.2.1, HT.out.2.2.1, by have := HT.out.2.2.2; omega, h⟩⟩
        have hfin : 4294967296 ≤ r + y1 → Value.int .u64 ((q : Int) - 1) = .int .u64 (Q1 : Int) := fun h => by
          have := knuth_end (d := d1) (y0 := y0) (by omega) HT.out.2.1 HT.out.2.2.1 (knuth_break HY.out.1 HT.out.2.2.2 h)
          rw [HQ1.out, ← this]
          congr 1
          omega
        have HREL := Lib.hid hrel'
        have HFIN := Lib.hid hfin
        clear hrel' hfin
        by_cases hb : ¬ 4294967296 ≤ (r : Int) + (y1 : Int)
        · by_cases hc : 4294967296 ≤ (q : Int)
          · clear hyl hyu F1 hdl
            go_wp2_with fail
            case roundEnd => exact ⟨HREL.out (by omega), by simp [intOf]; omega⟩
          · have hx : 4294967296 * (r : Int) + (d1 : Int) < (P : Int) := by omega
            go_wp2_with fail
            case roundEnd => exact ⟨HREL.out (by omega), by simp [intOf]; omega⟩
        · have hb2 : 4294967296 ≤ (r : Int) + (y1 : Int) := by omega
          clear hb
          by_cases hc : 4294967296 ≤ (q : Int)
          · clear hyl F1 hdl
            go_wp2_with fail
            go_meet
            exact ⟨HFIN.out (by omega), rfl⟩
          · have hx : 4294967296 * (r : Int) + (d1 : Int) < (P : Int) := by omega
            go_wp2_with fail
            go_meet
            exact ⟨HFIN.out (by omega), rfl⟩
  case rest =>
    obtain ⟨rfl, rfl⟩ := hcut
    go_upto_block 2 with fail
    go_cut [16, 18] from 102 to 120 (fun r q wx => q = .int .u64 (Q0 : Int) ∧ w = wx)
    case first =>
      go_wp2_with fail
      clear E1 E2 E3 E4 E5 E6 E7 E8 E9 E10 E11 E12 E13
      go_loop [16, 18] (fun r q => KR R1 y1 y0 d0 q r) (fun _ q => (intOf q).toNat)
      case atStart => exact ⟨_, _, rfl, rfl, HK0.out⟩
      case round =>
        obtain ⟨q, r, rfl, rfl, hk⟩ := hrel
        have hql : (q : Int) ≤ 4294967297 := by have := hk.le; omega
        have hrl : (r : Int) < 4294967296 := by have := hk.rl; omega
        have hdl : (d0 : Int) < 4294967296 := by omega
        have P1 : Hid (q * y0 < 18446744073709551616) := by
          have := Nat.mul_le_mul hk.le (show y0 ≤ 4294967295 by omega)
          exact Nat.lt_of_le_of_lt this (by decide)
        obtain ⟨P, hP⟩ : ∃ P, P = q * y0 := ⟨_, rfl⟩
        have F1 : IntKind.u64.wrap ((q : Int) * (y0 : Int)) = (P : Int) := wrapN (by rw [hP]; simp) (by rw [hP]; exact P1.out)
        have HP := Lib.hid hP
        have HKq := Lib.hid hk
        have hyl : (2147483648 : Int) ≤ (y1 : Int) := by omega
        have hyu : (y1 : Int) < 4294967296 := by omega
        have HY := Lib.hid (And.intro hy0 (And.intro hd0 hy1))
        clear hP hk hy1 hy1' hy0 hd1 hd0
        by_cases hc3 : ¬ 4294967296 ≤ (q : Int) ∧ ¬ 4294967296 * (r : Int) + (d0 : Int) < (P : Int)
        · obtain ⟨hc, hc2⟩ := hc3
          go_wp2_with fail
          go_meet
          refine ⟨?_, rfl⟩
          have := knuth_end (d := d0) (y0 := y0) (by omega) HKq.out.ge HKq.out.eq (by have := HP.out; omega)
          rw [HQ0.out, ← this]
        · have hst := knuth_step HY.out.2.1 HR.out HKq.out (by rw [← HP.out]; omega)
          have hq1 : (1 : Int) ≤ (q : Int) := by have := hst.1; omega
          have HT := Lib.hid hst
          clear hst
          have hrel' : r + y1 < 4294967296 → KR R1 y1 y0 d0 (.int .u64 ((q : Int) - 1)) (.int .u64 ((r : Int) + (y1 : Int))) := fun h =>
            ⟨q - 1, r + y1, by congr 1; omega, by congr 1, ⟨HT.out.2.1, HT.out.2.2.1, by have := HT.out.2.2.2; omega, h⟩⟩
          have hfin : 4294967296 ≤ r + y1 → Value.int .u64 ((q : Int) - 1) = .int .u64 (Q0 : Int) := fun h => by
            have := knuth_end (d := d0) (y0 := y0) (by omega) HT.out.2.1 HT.out.2.2.1 (knuth_break HY.out.1 HT.out.2.2.2 h)
            rw [HQ0.out, ← this]
            congr 1
            omega
          have HREL := Lib.hid hrel'
          have HFIN := Lib.hid hfin
          clear hrel' hfin
          by_cases hb : ¬ 4294967296 ≤ (r : Int) + (y1 : Int)
          · by_cases hc : 4294967296 ≤ (q : Int)
            · clear hyl hyu F1 hdl
              go_wp2_with fail
              case roundEnd => exact ⟨HREL.out (by omega), by simp [intOf]; omega⟩
            · have hx : 4294967296 * (r : Int) + (d0 : Int) < (P : Int) := by omega
              go_wp2_with fail
              case roundEnd => exact ⟨HREL.out (by omega), by simp [intOf]; omega⟩
          · have hb2 : 4294967296 ≤ (r : Int) + (y1 : Int) := by omega
            clear hb
            by_cases hc : 4294967296 ≤ (q : Int)
            · clear hyl F1 hdl
              go_wp2_with fail
              go_meet
              exact ⟨HFIN.out (by omega), rfl⟩
            · have hx : 4294967296 * (r : Int) + (d0 : Int) < (P : Int) := by omega
              go_wp2_with fail
              go_meet
              exact ⟨HFIN.out (by omega), rfl⟩
    case rest =>
      obtain ⟨rfl, rfl⟩ := hcut
      go_wp2_with fail
      go_ret2
      exact ⟨rfl, rfl⟩
end Go.Proofs.YtpobhegllhhdgaaGreat.O
namespace Go.Proofs.YtpobhegllhhdgaaGreat.O
open Go.RowKit

theorem Box.drewN {w : World} {g a b : Nat} (h : Box w g a b) (n : Nat) : Box (w.drewN n) g a b := h
theorem bl_spec : ∀ (y : Nat), 0 < y → y < 2 ^ 64 → 2 ^ (Lib.bitLen y - 1) ≤ y ∧ y < 2 ^ Lib.bitLen y ∧ 1 ≤ Lib.bitLen y ∧ Lib.bitLen y ≤ 64 := by
  intro y
  induction y using Nat.strongRecOn with
  | _ y ih =>
    intro h0 h
    have hh := Lib.bitLen_half y (by omega) h
    have hle := Lib.bitLen_le y 64 (by decide) h
    rcases Nat.lt_or_ge y 2 with h2 | h2
    · obtain rfl : y = 1 := by omega
      have e : Lib.bitLen 1 = 1 := by decide
      rw [e]
      decide
    · obtain ⟨i1, i2, i3, i4⟩ := ih (y / 2) (by omega) (by omega) (by omega)
      rw [hh] at hle ⊢
      refine ⟨?_, ?_, by omega, hle⟩
      · have e : 2 ^ (1 + Lib.bitLen (y / 2) - 1) = 2 ^ (Lib.bitLen (y / 2) - 1) * 2 := by
          rw [← Nat.pow_succ]
          congr 1
          omega
        rw [e]
        omega
      · rw [Nat.add_comm, Nat.pow_succ]
        omega
theorem wrap_u64m (x : Int) : IntKind.u64.wrap x = x % 18446744073709551616 := IntKind.wrap_u64 x
theorem rest_wrap {u d Q Y R : Nat} (h : ((u : Int) * 4294967296 + d - Q * Y) % 18446744073709551616 = (R : Int)) :
    IntKind.u64.wrap (IntKind.u64.wrap (IntKind.u64.wrap ((u : Int) * 4294967296) + (d : Int)) - IntKind.u64.wrap ((Q : Int) * (Y : Int))) = (R : Int) := by
  rw [wrap_u64m, wrap_u64m, wrap_u64m, wrap_u64m]
  generalize (Q : Int) * (Y : Int) = T at *
  omega
theorem quo_wrap {u y : Nat} (hu : u < 18446744073709551616) : IntKind.u64.wrap ((u : Int) / (y : Int)) = ((u / y : Nat) : Int) :=
  wrapN (by simp) (Nat.lt_of_le_of_lt (Nat.div_le_self _ _) hu)
theorem rem_wrap {u y : Nat} (hu : u < 18446744073709551616) : IntKind.u64.wrap ((u : Int) - IntKind.u64.wrap (((u / y : Nat) : Int) * (y : Int))) = ((u % y : Nat) : Int) := by
  have h := Nat.div_add_mod' u y
  have e : ((u / y : Nat) : Int) * (y : Int) = ((u / y * y : Nat) : Int) := by simp
  rw [e, wrapN rfl (by omega)]
  exact wrapN (by omega) (by omega)
theorem and32 {x : Nat} (h : x < 18446744073709551616) : bits .and .u64 (x : Int) 4294967295 = ((x % 4294967296 : Nat) : Int) := by
  rw [and_low32 _ (by omega) (by omega)]
  simp
theorem quo2 {A C Q : Nat} (h : Q = A * 4294967296 + C) (hq : Q < 18446744073709551616) : IntKind.u64.wrap (IntKind.u64.wrap ((A : Int) * 4294967296) + (C : Int)) = (Q : Int) := by
  rw [wrapN (x := (A : Int) * 4294967296) (n := A * 4294967296) (by simp) (by omega)]
  exact wrapN (n := Q) (by omega) hq
set_option maxRecDepth 100000 in
theorem div64_any (hi lo y : Nat) (w : World) (hy : hi < y) (hl : lo < 18446744073709551616) (hy' : y < 18446744073709551616) :
    Calls Tryz.prog 133 #[.int .u64 (hi : Int), .int .u64 (lo : Int), .int .u64 (y : Int)] w fun e w' => e = .returned (.tuple #[.int .u64 (((hi * 18446744073709551616 + lo) / y : Nat) : Int), .int .u64 (((hi * 18446744073709551616 + lo) % y : Nat) : Int)]) ∧ Below w.heap.size w w' := by
  rcases Nat.eq_zero_or_pos hi with h0 | h0
  · subst h0
    have := div64_small lo y w hl hy hy'
    simpa using this
  · obtain ⟨b1, b2, b3, b4⟩ := bl_spec y (by omega) (by simpa using hy')
    obtain ⟨L, hL⟩ : ∃ L, L = Lib.bitLen y := ⟨_, rfl⟩
    rw [← hL] at b1 b2 b3 b4
    obtain ⟨s, hs⟩ : ∃ s, s = 64 - L := ⟨_, rfl⟩
    have hlz := fun w : World => lz_any y s w hy' (by rw [hs, hL]) (by omega)
    have hp : 0 < 2 ^ s := Nat.two_pow_pos s
    have e64 : (2 ^ 64 : Nat) = 18446744073709551616 := by decide
    have eLs : 2 ^ L * 2 ^ s = 18446744073709551616 := by rw [← Nat.pow_add, ← e64]; congr 1; omega
    have eLs1 : 2 ^ (L - 1) * 2 ^ s = 9223372036854775808 := by
      rw [← Nat.pow_add, show (9223372036854775808 : Nat) = 2 ^ 63 by decide]; congr 1; omega
    have e64s : 2 ^ (64 - s) * 2 ^ s = 18446744073709551616 := by rw [← Nat.pow_add, ← e64]; congr 1; omega
    have hYu : y * 2 ^ s < 18446744073709551616 := by rw [← eLs]; exact Nat.mul_lt_mul_of_pos_right b2 hp
    have hYl : 9223372036854775808 ≤ y * 2 ^ s := by rw [← eLs1]; exact Nat.mul_le_mul_right _ b1
    have hhi : hi * 2 ^ s + 2 ^ s ≤ y * 2 ^ s := by rw [← Nat.succ_mul]; exact Nat.mul_le_mul_right _ hy
    have hlo2 : lo / 2 ^ (64 - s) < 2 ^ s := by
      rw [Nat.div_lt_iff_lt_mul (Nat.two_pow_pos _), Nat.mul_comm, e64s]
      exact hl
    obtain ⟨Y, hY⟩ : ∃ Y, Y = y * 2 ^ s := ⟨_, rfl⟩
    obtain ⟨u, hu⟩ : ∃ u, u = hi * 2 ^ s + lo / 2 ^ (64 - s) := ⟨_, rfl⟩
    obtain ⟨v, hv⟩ : ∃ v, v = lo * 2 ^ s % 18446744073709551616 := ⟨_, rfl⟩
    have hdm := Nat.div_add_mod (lo * 2 ^ s) 18446744073709551616
    have hq2 : lo * 2 ^ s / 18446744073709551616 = lo / 2 ^ (64 - s) := by rw [← e64s, Nat.mul_div_mul_right _ _ hp]
    rw [hq2] at hdm
    have hfull : u * 18446744073709551616 + v = (hi * 18446744073709551616 + lo) * 2 ^ s := by
      rw [hu, hv]
      have e : (hi * 18446744073709551616 + lo) * 2 ^ s = hi * 2 ^ s * 18446744073709551616 + lo * 2 ^ s := by grind
      rw [e, ← hdm]
      generalize lo / 2 ^ (64 - s) = A at *
      generalize hi * 2 ^ s = Bq at *
      generalize lo * 2 ^ s % 18446744073709551616 = C at *
      omega
    have huY : u < Y := by rw [hu, hY]; omega
    have hvl : v < 18446744073709551616 := by rw [hv]; exact Nat.mod_lt _ (by decide)
    have hYY : Y = Y / 4294967296 * 4294967296 + Y % 4294967296 := by omega
    have huYY : u < Y / 4294967296 * 4294967296 + Y % 4294967296 := by omega
    have hvv : v = v / 4294967296 * 4294967296 + v % 4294967296 := by omega
    have hY0 : 0 < Y := by omega
    have hR1 : (u * 4294967296 + v / 4294967296) % Y < Y := Nat.mod_lt _ hY0
    obtain ⟨R1, hR1e⟩ : ∃ R1, R1 = (u * 4294967296 + v / 4294967296) % Y := ⟨_, rfl⟩
    have two := knuth_two (u := u) (y := Y) (d1 := v / 4294967296) (d0 := v % 4294967296) hY0
    rw [← hvv, hfull, ← hR1e] at two
    rw [← hR1e] at hR1
    have E4 : bits .or .u64 (IntKind.u64.wrap ((hi : Int) * 2 ^ s)) ((lo : Int) / 2 ^ (64 - s)) = (u : Int) := by
      rw [wrapN (n := hi * 2 ^ s) (by simp) (by omega)]
      have e : (lo : Int) / 2 ^ (64 - s) = ((lo / 2 ^ (64 - s) : Nat) : Int) := by simp
      rw [e, bits_or_u64_nat _ _ (by omega) (by omega), hu, Nat.mul_comm hi, ← Nat.two_pow_add_eq_or_of_lt hlo2]
    have core := div64_core hi lo y s Y (Y / 4294967296) (Y % 4294967296) u v (v / 4294967296) (v % 4294967296) (u / (Y / 4294967296)) (u % (Y / 4294967296)) ((u * 4294967296 + v / 4294967296) / Y) R1
      (R1 / (Y / 4294967296)) (R1 % (Y / 4294967296)) ((R1 * 4294967296 + v % 4294967296) / Y) ((R1 * 4294967296 + v % 4294967296) % Y) w h0 hy (by omega) (hlz w)
      (wrapN (by rw [hY]; simp) (by omega)) (by simp) (by omega) (by omega) (by omega) (and32 (by omega)) E4
      (by rw [wrap_u64m, hv]; simp) (by simp) (and32 hvl) (by omega) (by omega) (quo_wrap (by omega)) (rem_wrap (by omega)) (knuth_start (by omega) (by omega) (by omega) (by omega) huYY) huYY (by rw [← hYY])
      (rest_wrap (by rw [hR1e]; exact knuth_rest hY0 (by omega) rfl)) (quo_wrap (by omega)) (rem_wrap (by omega)) (knuth_start (by omega) (by omega) (by omega) (by omega) (by omega)) (by omega) (by rw [← hYY])
      (rest_wrap (knuth_rest hY0 (by omega) rfl))
    refine core.mono fun e w' ⟨he, hw⟩ => ⟨?_, hw ▸ Below.refl _ _⟩
    have hQ : (hi * 18446744073709551616 + lo) * 2 ^ s / Y = (hi * 18446744073709551616 + lo) / y := by rw [hY, Nat.mul_div_mul_right _ _ hp]
    have hM : (hi * 18446744073709551616 + lo) * 2 ^ s % Y = (hi * 18446744073709551616 + lo) % y * 2 ^ s := by rw [hY, Nat.mul_mod_mul_right]
    have hQl : (hi * 18446744073709551616 + lo) / y < 18446744073709551616 := by
      rw [Nat.div_lt_iff_lt_mul (by omega)]
      have := Nat.mul_le_mul_left 18446744073709551616 hy
      omega
    rw [hQ] at two
    rw [hM] at two
    rw [he]
    have q1 : IntKind.u64.wrap (IntKind.u64.wrap ((((u * 4294967296 + v / 4294967296) / Y : Nat) : Int) * 4294967296) + (((R1 * 4294967296 + v % 4294967296) / Y : Nat) : Int)) = (((hi * 18446744073709551616 + lo) / y : Nat) : Int) := by
      exact quo2 two.1 hQl
    have q2 : (((R1 * 4294967296 + v % 4294967296) % Y : Nat) : Int) / 2 ^ s = (((hi * 18446744073709551616 + lo) % y : Nat) : Int) := by
      rw [← two.2]
      have : (((hi * 18446744073709551616 + lo) % y * 2 ^ s : Nat) : Int) / 2 ^ s = (((hi * 18446744073709551616 + lo) % y * 2 ^ s / 2 ^ s : Nat) : Int) := by simp
      rw [this, Nat.mul_div_cancel _ hp]
    rw [q1, q2]
theorem div_two {hi lo n : Nat} (hn : 0 < n) (hl : lo < 18446744073709551616) :
    hi / n = hiW (numW hi lo / n) ∧ (hi % n * 18446744073709551616 + lo) / n = loW (numW hi lo / n) ∧ (hi % n * 18446744073709551616 + lo) % n = numW hi lo % n := by
  unfold numW hiW loW
  have hdm := Nat.div_add_mod hi n
  have hr := Nat.mod_lt hi hn
  have hql : (hi % n * 18446744073709551616 + lo) / n < 18446744073709551616 := by
    rw [Nat.div_lt_iff_lt_mul hn]
    have := Nat.mul_le_mul_left 18446744073709551616 hr
    omega
  have e : hi * 18446744073709551616 + lo = hi % n * 18446744073709551616 + lo + n * (hi / n * 18446744073709551616) := by
    have h2 : n * (hi / n * 18446744073709551616) = n * (hi / n) * 18446744073709551616 := by grind
    rw [h2]
    generalize n * (hi / n) = T at *
    generalize hi % n = R at *
    omega
  rw [e, Nat.add_mul_div_left _ _ hn, Nat.add_mul_mod_self_left]
  generalize (hi % n * 18446744073709551616 + lo) / n = C at *
  refine ⟨by omega, by omega, rfl⟩
/-- What is answered of a division. -/
def DivE (x n : Nat) (w : World) (e : Ending) (w' : World) : Prop :=
  ∃ (h l r : Nat) (c : Int), e = .returned (.tuple #[.agg #[.int .u64 (h : Int), .int .u64 (l : Int)], .int .u64 (r : Int), .int .i64 c]) ∧ ((n = 0 ∧ h = 0 ∧ l = 0 ∧ r = 0 ∧ c = 13) ∨ (0 < n ∧ h = hiW (x / n) ∧ l = loW (x / n) ∧ r = x % n ∧ c = 0)) ∧ Below w.heap.size w w'
set_option maxHeartbeats 1000000 in
set_option maxRecDepth 100000 in
theorem div_any (hi lo n : Nat) (w : World) (hl : lo < 18446744073709551616) (hh : hi < 18446744073709551616) (hn' : n < 18446744073709551616) :
    Calls Tryz.prog 131 #[.agg #[.int .u64 (hi : Int), .int .u64 (lo : Int)], .int .u64 (n : Int)] w (DivE (numW hi lo) n w) := by
  rcases Nat.eq_zero_or_pos n with h0 | h0
  · subst h0
    clear hl hh hn'
    go_enter Tryz.func131, Tryz.ntmps131
    go_wp2_with fail
    exact bodyPost_ret (ret_box3 rfl rfl rfl rfl (new2 w _ 0 0)) rfl ⟨0, 0, 0, 13, rfl, .inl ⟨rfl, rfl, rfl, rfl, rfl⟩, bel2 w _ _⟩
  · have h1 : ((n : Int) == 0) = false := by simp; omega
    have HD := Lib.hid (div_two (hi := hi) h0 hl)
    have HC := Lib.hid (fun W : World => div64_any (hi % n) lo n W (Nat.mod_lt _ h0) hl hn')
    have e1 : IntKind.u64.wrap ((hi : Int) / (n : Int)) = ((hi / n : Nat) : Int) := quo_wrap hh
    have e2 : (hi : Int) % (n : Int) = ((hi % n : Nat) : Int) := by simp
    obtain ⟨hq, hq'⟩ : ∃ q, q = hi / n := ⟨_, rfl⟩
    obtain ⟨hr, hr'⟩ : ∃ q, q = hi % n := ⟨_, rfl⟩
    rw [← hr'] at HC e2 HD
    rw [← hq'] at e1 HD
    obtain ⟨A, hA⟩ : ∃ A, A = (hr * 18446744073709551616 + lo) / n := ⟨_, rfl⟩
    obtain ⟨C, hC⟩ : ∃ C, C = (hr * 18446744073709551616 + lo) % n := ⟨_, rfl⟩
    rw [← hA, ← hC] at HC HD
    clear hl hh hn' hq' hr' hA hC
    go_enter Tryz.func131, Tryz.ntmps131
    go_wp2_with fail
    go_quiet (fail)
    go_wp2_with (go_at_call 133; (with_reducible refine (HC.out _).mono ?_); rintro e w1 ⟨rfl, hb⟩; have HB := Lib.hid hb; have hbx := ((new2 w (.cells #[.int .u64 (hi : Int), .int .u64 (lo : Int)] 153) 0 0).drewN nq).below hb (by simp); obtain ⟨f1, f2, f3, f4⟩ := And.intro hbx.c0 (And.intro hbx.c1 (And.intro (hbx.fr 0) (hbx.fr 1))); have hlt := hbx.lt; have HBX := Lib.hid hbx; clear hb hbx)
    exact bodyPost_ret (ret_box3 rfl rfl rfl rfl ((HBX.out.set0 hq).set1 A)) rfl ⟨_, _, _, _, rfl, .inr ⟨h0, HD.out.1, HD.out.2.1, HD.out.2.2, rfl⟩, (((below_drewN (bel2 w _ _) nq).trans (HB.out.mono (by simp; omega))).setCell (by simp) _).setCell (by simp) _⟩
end Go.Proofs.YtpobhegllhhdgaaGreat.O
