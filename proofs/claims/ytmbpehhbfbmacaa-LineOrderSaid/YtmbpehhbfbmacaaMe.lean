/- Proved here: the search of line's Of: the least number of steps that a distance does not hold. Condition: words of 64 bits; at most 255 steps. -/
import Derived.Test.YtmbpehhbfbmacaaMd
namespace Go.Proofs.Ytmbpehhbfbmacaa
open Go.RowKit

/-- Is the bound U below what k + 1 steps want? -/
def Pas (U B r k : Nat) : Prop := U < B * ((k + 1) * r * ((k + 1) * r))
instance (U B r k : Nat) : Decidable (Pas U B r k) := inferInstanceAs (Decidable (_ < _))
theorem pas_mono {U B r i j : Nat} (h : Pas U B r i) (hij : i ≤ j) : Pas U B r j := by
  unfold Pas at h ⊢
  have h1 : (i + 1) * r ≤ (j + 1) * r := Nat.mul_le_mul_right r (by omega)
  exact Nat.lt_of_lt_of_le h (Nat.mul_le_mul_left B (Nat.mul_le_mul h1 h1))
theorem pas_lev {s b r n k : Nat} (hk : k ≤ n) (h1 : ∀ j, j < k → ¬ Pas (s * (n * n)) b r j) (h2 : k < n → Pas (s * (n * n)) b r k) : lev s b r n = k := by
  have hp : ∀ j, Pas (s * (n * n)) b r j ↔ ¬ Hol s b r n (j + 1) := fun j => by
    unfold Pas Hol
    rw [Nat.not_le, Nat.mul_comm s (n * n), Nat.mul_comm b]
  refine Nat.le_antisymm (Nat.le_of_not_lt fun hl => ?_) (le_lev.2 ⟨hk, ?_⟩)
  · have hn : lev s b r n ≤ n := (lev_hol s b r n).2.1
    exact (hp k).1 (h2 (by omega)) (le_lev.1 (show k + 1 ≤ lev s b r n from hl)).2
  · match k, h1 with
    | 0, _ => exact hol_zero s b r n
    | j + 1, h1 =>
      have := h1 j (by omega)
      rw [hp] at this
      exact Decidable.byContradiction this
set_option maxHeartbeats 4000000 in
set_option maxRecDepth 100000 in
theorem search_any (gr gb gu r bh bl x y z m : Nat) (w : World) (h : QuS w gr gb gu r bh bl x y z) (hr : r ≤ 1048576) (hm : m ≤ 255) (h3 : bh < 18446744073709551616) (h4 : bl < 18446744073709551616) (hy : y < 18446744073709551616) (hz : z < 18446744073709551616) :
    Calls Try.prog 28 #[.int .i64 (m : Int), .func (.func 29) #[] #[.pointer (some ⟨gr, 0, none⟩), .pointer (some ⟨gb, 0, none⟩), .pointer (some ⟨gu, 0, none⟩)]] w fun e w' => ∃ n : Nat, e = .returned (.int .i64 (n : Int)) ∧ n ≤ m ∧ (∀ k, k < n → ¬ Pas (num3 x y z) (numW bh bl) r k) ∧ (n < m → Pas (num3 x y z) (numW bh bl) r n) ∧ Below w.heap.size w w' := by
  have HC := Lib.hid (fun (k : Nat) (W : World) (hW : QuS W gr gb gu r bh bl x y z) (hk : k < 255) => ask_any gr gb gu r bh bl x y z k W hW hr hk h3 h4 hy hz)
  have HS := Lib.hid h
  obtain ⟨U, hU⟩ : ∃ U, U = num3 x y z := ⟨_, rfl⟩
  obtain ⟨B, hB⟩ : ∃ B, B = numW bh bl := ⟨_, rfl⟩
  rw [← hU, ← hB] at HC
  rw [← hU, ← hB]
  clear h hr h3 h4 hy hz hU hB
  go_enter Try.func28, Try.ntmps28
  go_wp2_with fail
  go_loopw [5, 6] (fun a c wr => ∃ i j : Nat, a = .int .i64 (i : Int) ∧ c = .int .i64 (j : Int) ∧ i ≤ j ∧ j ≤ m ∧ (∀ k, k < i → ¬ Pas U B r k) ∧ (j < m → Pas U B r j) ∧ Below w.heap.size w wr) (fun a c _ => (intOf c).toNat - (intOf a).toNat)
  case atStart => exact ⟨0, m, rfl, rfl, Nat.zero_le _, Nat.le_refl _, fun k hk => by omega, fun h => by omega, Below.refl _ _⟩
  case round =>
    obtain ⟨i, j, rfl, rfl, hij, hj, h1, h2, hb⟩ := hrel
    have HB := Lib.hid hb
    have H1 := Lib.hid h1
    have H2 := Lib.hid h2
    clear hb h1 h2
    by_cases hgo : i < j
    · obtain ⟨s, hs⟩ : ∃ s, s = i + j := ⟨_, rfl⟩
      obtain ⟨q, hq⟩ : ∃ q, q = s / 2 := ⟨_, rfl⟩
      have e1 : IntKind.i64.wrap ((i : Int) + (j : Int)) = (s : Int) := by rw [i64_in _ (by omega)]; omega
      have e2 : IntKind.u64.wrap (s : Int) = (s : Int) := by rw [IntKind.wrap_u64]; omega
      have e3 : (s : Int) / 2 = (q : Int) := by omega
      have e4 : IntKind.i64.wrap (q : Int) = (q : Int) := i64_in _ (by omega)
      have hqi : i ≤ q ∧ q < j := by omega
      have HQ := Lib.hid hqi
      have HX := Lib.hid (fun W (hW : QuS W gr gb gu r bh bl x y z) => HC.out q W hW (by omega))
      have hqb := hqi.1
      have hqm : q < m := by omega
      clear hs hq hqi
      by_cases ht : Pas U B r q
      · rw [show decide (U < B * ((q + 1) * r * ((q + 1) * r))) = true from decide_eq_true ht] at HX
        have HT := Lib.hid ht
        clear ht
        go_wp2_with ((go_at_call 29; (with_reducible refine (HX.out _ (HS.out.bel HB.out)).mono ?_); rintro e w1 ⟨rfl, hb⟩; have HB1 := Lib.hid (HB.out.trans (hb.mono HB.out.size)); clear hb))
        exact ⟨⟨i, q, rfl, rfl, by omega, by omega, H1.out, fun _ => HT.out, HB1.out⟩, by have := HQ.out; simp [intOf]; omega⟩
      · rw [show decide (U < B * ((q + 1) * r * ((q + 1) * r))) = false from decide_eq_false ht] at HX
        have HT := Lib.hid ht
        clear ht
        go_wp2_with ((go_at_call 29; (with_reducible refine (HX.out _ (HS.out.bel HB.out)).mono ?_); rintro e w1 ⟨rfl, hb⟩; have HB1 := Lib.hid (HB.out.trans (hb.mono HB.out.size)); clear hb))
        exact ⟨⟨q + 1, j, by simp, rfl, by have := HQ.out; omega, hj, fun k hk hp => HT.out (pas_mono hp (by omega)), H2.out, HB1.out⟩, by have := HQ.out; simp [intOf]; omega⟩
    · obtain rfl : i = j := by omega
      go_wp2_with fail
      go_ret
      exact ⟨i, rfl, hj, H1.out, H2.out, HB.out⟩
/-- Of's words in boxes: the square, the divisor, the reach. -/
structure OgS (w W : World) (sh sl : Nat) (BH BL r : Int) : Prop where
  bel : Below w.heap.size w W
  b0 : Box W w.heap.size sh sl
  b1 : W.heap[w.heap.size + 1]? = some (.cells #[.int .u64 BH, .int .u64 BL] 37 (0, 0))
  b2 : W.heap[w.heap.size + 1 + 1]? = some (.cells #[.int .i64 r] 3 (0, 0))
section
variable {w W W' : World} {sh sl : Nat} {BH BL r : Int}
theorem OgS.next (h : OgS w W sh sl BH BL r) (hb : Below W.heap.size W W') : OgS w W' sh sl BH BL r := ⟨h.bel.trans (hb.mono h.bel.size), h.b0.below hb h.b0.lt, (hb.block _ (heap_lt h.b1)).trans h.b1, (hb.block _ (heap_lt h.b2)).trans h.b2⟩
theorem OgS.cells (h : OgS w W sh sl BH BL r) : W.cell? ⟨w.heap.size, 0, none⟩ = some (.int .u64 (sh : Int)) ∧ W.cell? ⟨w.heap.size, 1, none⟩ = some (.int .u64 (sl : Int)) ∧ W.cell? ⟨w.heap.size + 1, 0, none⟩ = some (.int .u64 BH) ∧ W.cell? ⟨w.heap.size + 1, 1, none⟩ = some (.int .u64 BL) ∧ W.cell? ⟨w.heap.size + 1 + 1, 0, none⟩ = some (.int .i64 r) :=
  ⟨h.b0.c0, h.b0.c1, cell_of_row W _ 0 _ 37 (0, 0) h.b1, cell_of_row W _ 1 _ 37 (0, 0) h.b1, cell_of_row W _ 0 _ 3 (0, 0) h.b2⟩
end
theorem OgS.new (w : World) (sh sl : Nat) (BH BL r : Int) : OgS w (((w.alloc (.cells #[.int .u64 (sh : Int), .int .u64 (sl : Int)] 37)).alloc (.cells #[.int .u64 BH, .int .u64 BL] 37)).alloc (.cells #[.int .i64 r] 3)) sh sl BH BL r := by
  have a1 : Below w.heap.size w (w.alloc (.cells #[.int .u64 (sh : Int), .int .u64 (sl : Int)] 37)) := (Below.refl _ _).alloc (Nat.le_refl _) _
  have s1 : (w.alloc (.cells #[.int .u64 (sh : Int), .int .u64 (sl : Int)] 37)).heap.size = w.heap.size + 1 := by simp
  have g0 : Box (w.alloc (.cells #[.int .u64 (sh : Int), .int .u64 (sl : Int)] 37)) w.heap.size sh sl := Box.new w sh sl
  generalize (w.alloc (.cells #[.int .u64 (sh : Int), .int .u64 (sl : Int)] 37)) = w1 at *
  have a2 : Below w1.heap.size w1 (w1.alloc (.cells #[.int .u64 BH, .int .u64 BL] 37)) := (Below.refl _ _).alloc (Nat.le_refl _) _
  have s2 : (w1.alloc (.cells #[.int .u64 BH, .int .u64 BL] 37)).heap.size = w.heap.size + 1 + 1 := by simp [s1]
  have g1 : (w1.alloc (.cells #[.int .u64 BH, .int .u64 BL] 37)).heap[w.heap.size + 1]? = some (.cells #[.int .u64 BH, .int .u64 BL] 37 (0, 0)) := by rw [← s1]; exact heap_alloc_new w1 _
  have g2 := g0.below a2 g0.lt
  generalize (w1.alloc (.cells #[.int .u64 BH, .int .u64 BL] 37)) = w2 at *
  have a3 : Below w2.heap.size w2 (w2.alloc (.cells #[.int .i64 r] 3)) := (Below.refl _ _).alloc (Nat.le_refl _) _
  have b2 := a1.trans (a2.mono (by omega))
  refine ⟨b2.trans (a3.mono (by omega)), g2.below a3 g2.lt, (a3.block _ (heap_lt g1)).trans g1, ?_⟩
  rw [← s2]
  exact heap_alloc_new w2 _
/-- What the question of Of's search holds, the divisor's halves as letters. -/
structure QuI (W : World) (gr gb gu : Nat) (r : Nat) (BH BL : Int) (x y z : Nat) : Prop where
  xr : W.heap[gr]? = some (.cells #[.int .i64 (r : Int)] 3 (0, 0))
  xb : W.heap[gb]? = some (.cells #[.int .u64 BH, .int .u64 BL] 37 (0, 0))
  xu : B3 W gu x y z
theorem que_new {w W : World} {sh sl r : Nat} {BH BL : Int} (h : OgS w W sh sl BH BL r) (x y z : Nat) : QuI (W.alloc (.cells #[.int .u64 (x : Int), .int .u64 (y : Int), .int .u64 (z : Int)] 59)) (w.heap.size + 1 + 1) (w.heap.size + 1) W.heap.size r BH BL x y z := by
  have a1 : Below W.heap.size W (W.alloc (.cells #[.int .u64 (x : Int), .int .u64 (y : Int), .int .u64 (z : Int)] 59)) := (Below.refl _ _).alloc (Nat.le_refl _) _
  exact ⟨(a1.block _ (heap_lt h.b2)).trans h.b2, (a1.block _ (heap_lt h.b1)).trans h.b1, heap_alloc_new W _⟩
end Go.Proofs.Ytmbpehhbfbmacaa
