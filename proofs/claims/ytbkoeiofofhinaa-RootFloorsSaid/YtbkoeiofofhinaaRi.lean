/- Proved here: what the reference package's fit, Add and Sub answer and leave in memory. Condition: numbers of 64 bits as halves. -/
import Derived.Test.YtbkoeiofofhinaaRh
import Derived.Deep.RegionHeld3
import Derived.ChangeAlike
import Derived.RegionTactic
namespace Go.Proofs.Ytbkoeiofofhinaa
open Go.RowKit

/-- The number of two halves. -/
def numW (hi lo : Nat) : Nat := hi * 18446744073709551616 + lo
/-- The slice z reads as l digits of the value n. -/
def Num (w : World) (z : Value) (n l : Nat) : Prop := ∃ xs, Row w z xs ∧ Dg xs ∧ dv xs = n ∧ xs.length = l
theorem Num.below {w w' : World} {z : Value} {n l B : Nat} (h : Num w z n l) (hb : Below B w w') (hB : w.heap.size ≤ B) : Num w' z n l := by
  obtain ⟨xs, h1, h2, h3, h4⟩ := h
  exact ⟨xs, h1.below hb hB, h2, h3, h4⟩
theorem Num.drew {w : World} {z : Value} {n l : Nat} (h : Num w z n l) : Num w.drew z n l := h
theorem dv_digs4 {x : Nat} (h : x < 18446744073709551616) : dv (digs x 4) = x := by
  simp only [digs, List.range_succ, List.range_zero, List.nil_append, List.map_cons, List.map_nil, List.cons_append, dv]
  simp
  omega
theorem dg_digs (x k : Nat) : Dg (digs x k) := by
  induction k with
  | zero => exact dg_nil
  | succ k ih => rw [digs_succ]; exact dg_snoc ih (Nat.mod_lt _ (by decide))
theorem dg_append {l m : List Nat} (h : Dg l) (h' : Dg m) : Dg (l ++ m) := fun j => by
  simp only [List.getD_eq_getElem?_getD, List.getElem?_append]
  split
  · exact h j
  · exact h' _
theorem dv_append (l m : List Nat) : dv (l ++ m) = dv l + 65536 ^ l.length * dv m := by
  have := dv_split (l ++ m) l.length
  simpa using this
theorem digits_num (hi lo : Nat) (w : World) (hh : hi < 18446744073709551616) (hl : lo < 18446744073709551616) :
    Calls Try.prog 20 #[.agg #[.int .u64 (hi : Int), .int .u64 (lo : Int)]] w fun e w' => ∃ z, e = .returned z ∧ Num w' z (numW hi lo) 8 ∧ Below w.heap.size w w' :=
  (digits_any hi lo w hh hl).mono fun _ _ ⟨z, he, hr, hb⟩ => ⟨z, he, ⟨_, hr, dg_append (dg_digs _ _) (dg_digs _ _), by rw [dv_append, dv_digs4 hh, dv_digs4 hl, digs_len, p4, numW]; omega, by simp [digs_len]⟩, hb⟩
theorem less_num (v u : Value) (x y lx ly : Nat) (w : World) (hv : Num w v x lx) (hu : Num w u y ly) (hxl : lx ≤ 1000) (hyl : ly ≤ 1000) :
    Calls Try.prog 18 #[v, u] w fun e w' => e = .returned (.int .i64 (cmpI x y)) ∧ w = w' := by
  obtain ⟨xs, h1, h2, rfl, rfl⟩ := hv
  obtain ⟨ys, h5, h6, rfl, rfl⟩ := hu
  exact less_any v u xs ys w h1 h5 h2 h6 hxl hyl
theorem ret_box1 {fn : Func} {p : Tmp} {tmps : Array Value} {W : World} {g a b : Nat} (h : fn.results = #[.cell p 24]) (hp : tmps.getD p undef = .pointer (some ⟨g, 0, none⟩)) (hb : Box W g a b) :
    (results fn tmps).run Try.prog W = .ok (.agg #[.int .u64 (a : Int), .int .u64 (b : Int)]) W := by
  have hc0 := hb.c0
  have hc1 := hb.c1
  rw [Array.getD_eq_getD_getElem?] at hp
  simp [results, h, hp, go_sem, hc0, hc1]
theorem ret_box2 {fn : Func} {p u : Tmp} {tmps : Array Value} {W : World} {g a b : Nat} {v : Value} (h : fn.results = #[.cell p 24, .tmp u]) (hp : tmps.getD p undef = .pointer (some ⟨g, 0, none⟩)) (hv : tmps.getD u undef = v) (hb : Box W g a b) :
    (results fn tmps).run Try.prog W = .ok (.tuple #[.agg #[.int .u64 (a : Int), .int .u64 (b : Int)], v]) W := by
  have hc0 := hb.c0
  have hc1 := hb.c1
  rw [Array.getD_eq_getD_getElem?] at hp hv
  simp [results, h, hp, hv, go_sem, hc0, hc1]
theorem ret_box3 {fn : Func} {p u t : Tmp} {tmps : Array Value} {W : World} {g a b : Nat} {v x : Value} (h : fn.results = #[.cell p 24, .tmp u, .tmp t]) (hp : tmps.getD p undef = .pointer (some ⟨g, 0, none⟩)) (hv : tmps.getD u undef = v) (hx : tmps.getD t undef = x) (hb : Box W g a b) :
    (results fn tmps).run Try.prog W = .ok (.tuple #[.agg #[.int .u64 (a : Int), .int .u64 (b : Int)], v, x]) W := by
  have hc0 := hb.c0
  have hc1 := hb.c1
  rw [Array.getD_eq_getD_getElem?] at hp hv hx
  simp [results, h, hp, hv, hx, go_sem, hc0, hc1]
/-- What is answered of a number: its halves and 0, or 0 and 2 where it is too great. -/
def FitR (n : Nat) (h l : Nat) (c : Int) : Prop := (n < 65536 ^ 8 ∧ h = hiW n ∧ l = loW n ∧ c = 0) ∨ (¬ n < 65536 ^ 8 ∧ h = 0 ∧ l = 0 ∧ c = 2)
theorem FitR.same {n h l h' l' : Nat} {c c' : Int} (a : FitR n h l c) (b : FitR n h' l' c') : h = h' ∧ l = l' ∧ c = c' := by
  rcases a with ⟨a1, a2, a3, a4⟩ | ⟨a1, a2, a3, a4⟩ <;> rcases b with ⟨b1, b2, b3, b4⟩ | ⟨b1, b2, b3, b4⟩
  · exact ⟨by rw [a2, b2], by rw [a3, b3], by rw [a4, b4]⟩
  · exact absurd a1 b1
  · exact absurd b1 a1
  · exact ⟨by rw [a2, b2], by rw [a3, b3], by rw [a4, b4]⟩
def FitE (n : Nat) (w : World) (e : Ending) (w' : World) : Prop := ∃ (h l : Nat) (c : Int), e = .returned (.tuple #[.agg #[.int .u64 (h : Int), .int .u64 (l : Int)], .int .i64 c]) ∧ FitR n h l c ∧ Below w.heap.size w w'
theorem bel1 {w w1 : World} {o : Obj} (hb : Below (w.alloc o).heap.size (w.alloc o) w1) : Below w.heap.size w w1 := ((Below.refl _ w).alloc (Nat.le_refl _) o).trans (hb.mono (by simp))
theorem Box.alloc {w : World} {g a b : Nat} (h : Box w g a b) (o : Obj) : Box (w.alloc o) g a b := h.below ((Below.refl _ _).alloc (Nat.le_refl _) o) h.lt
theorem bel_set2 {w w1 : World} (h : Below w.heap.size w w1) (x y : Value) : Below w.heap.size w ((w1.setCell ⟨w.heap.size, 0, none⟩ x).setCell ⟨w.heap.size, 1, none⟩ y) := (h.setCell (Nat.le_refl _) x).setCell (Nat.le_refl _) y
theorem bel_fin {w w1 : World} (h : Below w.heap.size w w1) (x y : Value) (o : Obj) : Below w.heap.size w (((w1.setCell ⟨w.heap.size, 0, none⟩ x).setCell ⟨w.heap.size, 1, none⟩ y).alloc o) := (bel_set2 h x y).alloc (bel_set2 h x y).size o
/-- Two numbers in boxes, and one for the answer. -/
def BX (w W : World) (a b c d : Nat) : Prop := Box W w.heap.size a b ∧ Box W (w.heap.size + 1) c d ∧ Box W (w.heap.size + 2) 0 0 ∧ Below w.heap.size w W
theorem BX.start (w : World) (a b c d : Nat) : BX w (((w.alloc (.cells #[.int .u64 (a : Int), .int .u64 (b : Int)] 24)).alloc (.cells #[.int .u64 (c : Int), .int .u64 (d : Int)] 24)).alloc (.cells #[.int .u64 0, .int .u64 0] 24)) a b c d := by
  refine ⟨((Box.new w a b).alloc _).alloc _, ?_, ?_, (((Below.refl _ w).alloc (Nat.le_refl _) _).alloc (by simp) _).alloc (by simp; omega) _⟩
  · have := (Box.new (w.alloc (.cells #[.int .u64 (a : Int), .int .u64 (b : Int)] 24)) c d).alloc (.cells #[.int .u64 0, .int .u64 0] 24)
    simpa using this
  · have := Box.new ((w.alloc (.cells #[.int .u64 (a : Int), .int .u64 (b : Int)] 24)).alloc (.cells #[.int .u64 (c : Int), .int .u64 (d : Int)] 24)) 0 0
    simpa using this
theorem BX.drew {w W : World} {a b c d : Nat} (h : BX w W a b c d) : BX w W.drew a b c d := ⟨h.1, h.2.1, h.2.2.1, h.2.2.2.drew⟩
theorem BX.next {w W W' : World} {a b c d : Nat} (h : BX w W a b c d) (hb : Below W.heap.size W W') : BX w W' a b c d :=
  ⟨h.1.below hb h.1.lt, h.2.1.below hb h.2.1.lt, h.2.2.1.below hb h.2.2.1.lt, h.2.2.2.trans (hb.mono h.2.2.2.size)⟩
/-- What the walk wants of them. -/
def BXF (w W : World) (a b c d : Nat) : Prop :=
  W.cell? ⟨w.heap.size, 0, none⟩ = some (.int .u64 (a : Int)) ∧ W.cell? ⟨w.heap.size, 1, none⟩ = some (.int .u64 (b : Int)) ∧ W.cell? ⟨w.heap.size + 1, 0, none⟩ = some (.int .u64 (c : Int)) ∧ W.cell? ⟨w.heap.size + 1, 1, none⟩ = some (.int .u64 (d : Int)) ∧
  W.cell? ⟨w.heap.size + 2, 0, none⟩ = some (.int .u64 0) ∧ W.cell? ⟨w.heap.size + 2, 1, none⟩ = some (.int .u64 0) ∧ W.frozen? ⟨w.heap.size + 2, 0, none⟩ = false ∧ W.frozen? ⟨w.heap.size + 2, 1, none⟩ = false
theorem BX.facts {w W : World} {a b c d : Nat} (h : BX w W a b c d) : BXF w W a b c d := ⟨h.1.c0, h.1.c1, h.2.1.c0, h.2.1.c1, h.2.2.1.c0, h.2.2.1.c1, h.2.2.1.fr 0, h.2.2.1.fr 1⟩
theorem bx_fin {w W : World} {a b c d h l : Nat} (hx : BX w W a b c d) : Box ((W.setCell ⟨w.heap.size + 2, 0, none⟩ (.int .u64 (h : Int))).setCell ⟨w.heap.size + 2, 1, none⟩ (.int .u64 (l : Int))) (w.heap.size + 2) h l := (hx.2.2.1.set0 h).set1 l
theorem bx_bel {w W : World} {a b c d : Nat} (hx : BX w W a b c d) (x y : Value) : Below w.heap.size w ((W.setCell ⟨w.heap.size + 2, 0, none⟩ x).setCell ⟨w.heap.size + 2, 1, none⟩ y) := (hx.2.2.2.setCell (by simp) x).setCell (by simp) y
end Go.Proofs.Ytbkoeiofofhinaa
