/- Proved here: what the reference package's fit, Add and Sub answer and leave in memory. Condition: numbers of 64 bits as halves. -/
import Derived.Test.YtmbpehhbfbmacaaLDRh
import Derived.Deep.RegionHeld3
import Derived.ChangeAlike
import Derived.RegionTactic
namespace Go.Proofs.Ytmbpehhbfbmacaa
open Go.RowKit

/-- The number of two halves. -/
def numW (hi lo : Nat) : Nat := hi * 18446744073709551616 + lo
/-- The slice z reads as l digits of the value n. -/
def Num (w : World) (z : Value) (n l : Nat) : Prop := ∃ xs, Row w z xs ∧ Dg xs ∧ dv xs = n ∧ xs.length = l
theorem Num.below {w w' : World} {z : Value} {n l B : Nat} (h : Num w z n l) (hb : Below B w w') (hB : w.heap.size ≤ B) : Num w' z n l := by
  obtain ⟨xs, h1, h2, h3, h4⟩ := h
  exact ⟨xs, h1.below hb hB, h2, h3, h4⟩
theorem dv_digs4 {x : Nat} (h : x < 18446744073709551616) : dv (digs x 4) = x := by
  simp only [digs, List.range_succ, List.range_zero, List.nil_append, List.map_cons, List.map_nil, List.cons_append, dv]
  simp
  omega
theorem dg_digs (x k : Nat) : Dg (digs x k) := by
  induction k with
  | zero => exact dg_nil
  | succ k ih => rw [digs_succ]; exact dg_snoc ih (Nat.mod_lt _ (by decide))
theorem dg_append {l m : List Nat} (h : Dg l) (h' : Dg m) : Dg (l ++ m) := fun j => by
  simp only [List.getD_eq_getElem?_getD, List.getElem?_append]
  split
  · exact h j
  · exact h' _
theorem dv_append (l m : List Nat) : dv (l ++ m) = dv l + 65536 ^ l.length * dv m := by
  have := dv_split (l ++ m) l.length
  simpa using this
theorem digits_num (hi lo : Nat) (w : World) (hh : hi < 18446744073709551616) (hl : lo < 18446744073709551616) :
    Calls Try.prog 31 #[.agg #[.int .u64 (hi : Int), .int .u64 (lo : Int)]] w fun e w' => ∃ z, e = .returned z ∧ Num w' z (numW hi lo) 8 ∧ Below w.heap.size w w' :=
  (digits_any hi lo w hh hl).mono fun _ _ ⟨z, he, hr, hb⟩ => ⟨z, he, ⟨_, hr, dg_append (dg_digs _ _) (dg_digs _ _), by rw [dv_append, dv_digs4 hh, dv_digs4 hl, digs_len, p4, numW]; omega, by simp [digs_len]⟩, hb⟩
theorem less_num (v u : Value) (x y lx ly : Nat) (w : World) (hv : Num w v x lx) (hu : Num w u y ly) (hxl : lx ≤ 1000) (hyl : ly ≤ 1000) :
    Calls Try.prog 45 #[v, u] w fun e w' => e = .returned (.int .i64 (cmpI x y)) ∧ w = w' := by
  obtain ⟨xs, h1, h2, rfl, rfl⟩ := hv
  obtain ⟨ys, h5, h6, rfl, rfl⟩ := hu
  exact less_any v u xs ys w h1 h5 h2 h6 hxl hyl
end Go.Proofs.Ytmbpehhbfbmacaa
