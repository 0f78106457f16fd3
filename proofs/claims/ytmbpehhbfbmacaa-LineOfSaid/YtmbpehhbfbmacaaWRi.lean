/- Proved here: what the reference package's fit, Add and Sub answer and leave in memory. Condition: numbers of 64 bits as halves. -/
import Derived.Test.YtmbpehhbfbmacaaWRh
import Derived.Deep.RegionHeld3
import Derived.ChangeAlike
import Derived.RegionTactic
namespace Go.Proofs.Ytmbpehhbfbmacaa
open Go.RowKit

theorem ret_box1 {fn : Func} {p : Tmp} {tmps : Array Value} {W : World} {g a b : Nat} (h : fn.results = #[.cell p 37]) (hp : tmps.getD p undef = .pointer (some ⟨g, 0, none⟩)) (hb : Box W g a b) :
    (results fn tmps).run Try.prog W = .ok (.agg #[.int .u64 (a : Int), .int .u64 (b : Int)]) W := by
  have hc0 := hb.c0
  have hc1 := hb.c1
  rw [Array.getD_eq_getD_getElem?] at hp
  simp [results, h, hp, go_sem, hc0, hc1]
theorem ret_box2 {fn : Func} {p u : Tmp} {tmps : Array Value} {W : World} {g a b : Nat} {v : Value} (h : fn.results = #[.cell p 37, .tmp u]) (hp : tmps.getD p undef = .pointer (some ⟨g, 0, none⟩)) (hv : tmps.getD u undef = v) (hb : Box W g a b) :
    (results fn tmps).run Try.prog W = .ok (.tuple #[.agg #[.int .u64 (a : Int), .int .u64 (b : Int)], v]) W := by
  have hc0 := hb.c0
  have hc1 := hb.c1
  rw [Array.getD_eq_getD_getElem?] at hp hv
  simp [results, h, hp, hv, go_sem, hc0, hc1]
/-- What is answered of a number: its halves and 0, or 0 and 2 where it is too great. -/
def FitR (n : Nat) (h l : Nat) (c : Int) : Prop := (n < 65536 ^ 8 ∧ h = hiW n ∧ l = loW n ∧ c = 0) ∨ (¬ n < 65536 ^ 8 ∧ h = 0 ∧ l = 0 ∧ c = 2)
def FitE (n : Nat) (w : World) (e : Ending) (w' : World) : Prop := ∃ (h l : Nat) (c : Int), e = .returned (.tuple #[.agg #[.int .u64 (h : Int), .int .u64 (l : Int)], .int .i64 c]) ∧ FitR n h l c ∧ Below w.heap.size w w'
theorem Box.alloc {w : World} {g a b : Nat} (h : Box w g a b) (o : Obj) : Box (w.alloc o) g a b := h.below ((Below.refl _ _).alloc (Nat.le_refl _) o) h.lt
/-- Two numbers in boxes, and one for the answer. -/
def BX (w W : World) (a b c d : Nat) : Prop := Box W w.heap.size a b ∧ Box W (w.heap.size + 1) c d ∧ Box W (w.heap.size + 2) 0 0 ∧ Below w.heap.size w W
theorem BX.start (w : World) (a b c d : Nat) : BX w (((w.alloc (.cells #[.int .u64 (a : Int), .int .u64 (b : Int)] 37)).alloc (.cells #[.int .u64 (c : Int), .int .u64 (d : Int)] 37)).alloc (.cells #[.int .u64 0, .int .u64 0] 37)) a b c d := by
  refine ⟨((Box.new w a b).alloc _).alloc _, ?_, ?_, (((Below.refl _ w).alloc (Nat.le_refl _) _).alloc (by simp) _).alloc (by simp; omega) _⟩
  · have := (Box.new (w.alloc (.cells #[.int .u64 (a : Int), .int .u64 (b : Int)] 37)) c d).alloc (.cells #[.int .u64 0, .int .u64 0] 37)
    simpa using this
  · have := Box.new ((w.alloc (.cells #[.int .u64 (a : Int), .int .u64 (b : Int)] 37)).alloc (.cells #[.int .u64 (c : Int), .int .u64 (d : Int)] 37)) 0 0
    simpa using this
end Go.Proofs.Ytmbpehhbfbmacaa
