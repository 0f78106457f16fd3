/- Proved here: what line's times answers (a product of 192 bits). Condition: halves of 64 bits. -/
import Derived.Test.YtmbpehhbfbmacaaWWa
namespace Go.Proofs.Ytmbpehhbfbmacaa
open Go.RowKit

section
variable {w w' : World} {g a b : Nat}
theorem bx_fr (h : Box w g a b) (j : Nat) : w.frozen? ⟨g, j, none⟩ = false := by
  unfold Box at h; simp [World.frozen?, h]
theorem bx_set0 (h : Box w g a b) (x : Nat) : Box (w.setCell ⟨g, 0, none⟩ (.int .u64 (x : Int))) g x b := by
  unfold Box at h ⊢; simp [World.setCell, Array.getElem?_modify, h]
theorem bx_set1 (h : Box w g a b) (x : Nat) : Box (w.setCell ⟨g, 1, none⟩ (.int .u64 (x : Int))) g a x := by
  unfold Box at h ⊢; simp [World.setCell, Array.getElem?_modify, h]
theorem bx_far (h : Box w g a b) {k j : Nat} {u : Value} (hk : g ≠ k) : Box (w.setCell ⟨k, j, none⟩ u) g a b := (Below.heap_setCell w ⟨k, j, none⟩ u g hk).trans h
end
/-- A number of 192 bits in a box. -/
def B3 (w : World) (g : Nat) (x y z : Nat) : Prop := w.heap[g]? = some (.cells #[.int .u64 (x : Int), .int .u64 (y : Int), .int .u64 (z : Int)] 59 (0, 0))
section
variable {w w' : World} {g : Nat} {x y z : Nat}
theorem B3.lt (h : B3 w g x y z) : g < w.heap.size := heap_lt h
theorem B3.bel (h : B3 w g x y z) (hb : Below w.heap.size w w') : B3 w' g x y z := (hb.block g h.lt).trans h
theorem B3.cells (h : B3 w g x y z) : w.cell? ⟨g, 0, none⟩ = some (.int .u64 (x : Int)) ∧ w.cell? ⟨g, 1, none⟩ = some (.int .u64 (y : Int)) ∧ w.cell? ⟨g, 2, none⟩ = some (.int .u64 (z : Int)) :=
  ⟨cell_of_row w g 0 _ 59 (0, 0) h, cell_of_row w g 1 _ 59 (0, 0) h, cell_of_row w g 2 _ 59 (0, 0) h⟩
theorem B3.frs (h : B3 w g x y z) : w.frozen? ⟨g, 0, none⟩ = false ∧ w.frozen? ⟨g, 1, none⟩ = false ∧ w.frozen? ⟨g, 2, none⟩ = false := by
  unfold B3 at h; exact ⟨by simp [World.frozen?, h], by simp [World.frozen?, h], by simp [World.frozen?, h]⟩
theorem B3.set0 (h : B3 w g x y z) (u : Nat) : B3 (w.setCell ⟨g, 0, none⟩ (.int .u64 (u : Int))) g u y z := by
  unfold B3 at h ⊢; simp [World.setCell, Array.getElem?_modify, h]
theorem B3.set1 (h : B3 w g x y z) (u : Nat) : B3 (w.setCell ⟨g, 1, none⟩ (.int .u64 (u : Int))) g x u z := by
  unfold B3 at h ⊢; simp [World.setCell, Array.getElem?_modify, h]
theorem B3.set2 (h : B3 w g x y z) (u : Nat) : B3 (w.setCell ⟨g, 2, none⟩ (.int .u64 (u : Int))) g x y u := by
  unfold B3 at h ⊢; simp [World.setCell, Array.getElem?_modify, h]
theorem B3.far (h : B3 w g x y z) {k j : Nat} {u : Value} (hk : g ≠ k) : B3 (w.setCell ⟨k, j, none⟩ u) g x y z := (Below.heap_setCell w ⟨k, j, none⟩ u g hk).trans h
end
theorem ret_b3 {fn : Func} {p : Tmp} {tmps : Array Value} {W : World} {g : Nat} {x y z : Nat} (h : fn.results = #[.cell p 59]) (hp : tmps.getD p undef = .pointer (some ⟨g, 0, none⟩)) (hb : B3 W g x y z) :
    (results fn tmps).run Try.prog W = .ok (.agg #[.int .u64 (x : Int), .int .u64 (y : Int), .int .u64 (z : Int)]) W := by
  obtain ⟨hc0, hc1, hc2⟩ := hb.cells
  rw [Array.getD_eq_getD_getElem?] at hp
  simp [results, h, hp, go_sem, hc0, hc1, hc2]
/-- While a product is made: the number, the result's box, the low product, and boxes that are yet empty. -/
structure TmS (w W : World) (g a b c d : Nat) (L : List Nat) : Prop where
  bel : Below w.heap.size w W
  b0 : Box W w.heap.size a b
  b1 : B3 W (w.heap.size + 1) 0 0 0
  b2 : Box W g c d
  gt : w.heap.size + 1 < g
  bx : ∀ q ∈ L, Box W q 0 0 ∧ g < q
section
variable {w W W' : World} {g a b c d : Nat} {L : List Nat}
theorem TmS.next (h : TmS w W g a b c d L) (hb : Below W.heap.size W W') : TmS w W' g a b c d L :=
  ⟨h.bel.trans (hb.mono h.bel.size), h.b0.below hb h.b0.lt, h.b1.bel hb, h.b2.below hb h.b2.lt, h.gt, fun q hq => ⟨(h.bx q hq).1.below hb (h.bx q hq).1.lt, (h.bx q hq).2⟩⟩
theorem TmS.drew (h : TmS w W g a b c d L) : TmS w W.drew g a b c d L := h.next (Below.drew (Below.refl _ _))
theorem TmS.alloc (h : TmS w W g a b c d L) : TmS w (W.alloc (.cells #[.int .u64 0, .int .u64 0] 37)) g a b c d (W.heap.size :: L) := by
  have hb : Below W.heap.size W (W.alloc (.cells #[.int .u64 0, .int .u64 0] 37)) := (Below.refl _ _).alloc (Nat.le_refl _) _
  have hn := h.next hb
  refine ⟨hn.bel, hn.b0, hn.b1, hn.b2, hn.gt, fun q hq => ?_⟩
  rcases List.mem_cons.1 hq with rfl | hq
  · exact ⟨Box.new W 0 0, h.b2.lt⟩
  · exact hn.bx q hq
theorem TmS.two (h : TmS w W g a b c d L) : W.cell? ⟨w.heap.size, 0, none⟩ = some (.int .u64 (a : Int)) ∧ W.cell? ⟨g, 0, none⟩ = some (.int .u64 (c : Int)) := ⟨h.b0.c0, h.b2.c0⟩
theorem TmS.facts (h : TmS w W g a b c d L) : W.cell? ⟨w.heap.size, 0, none⟩ = some (.int .u64 (a : Int)) ∧ W.cell? ⟨g, 0, none⟩ = some (.int .u64 (c : Int)) ∧ W.cell? ⟨g, 1, none⟩ = some (.int .u64 (d : Int)) ∧
  W.cell? ⟨w.heap.size + 1, 0, none⟩ = some (.int .u64 0) ∧ W.cell? ⟨w.heap.size + 1, 1, none⟩ = some (.int .u64 0) ∧ W.cell? ⟨w.heap.size + 1, 2, none⟩ = some (.int .u64 0) ∧
  W.frozen? ⟨w.heap.size + 1, 0, none⟩ = false ∧ W.frozen? ⟨w.heap.size + 1, 1, none⟩ = false ∧ W.frozen? ⟨w.heap.size + 1, 2, none⟩ = false ∧ w.heap.size + 1 < g ∧ g < W.heap.size :=
  ⟨h.b0.c0, h.b2.c0, h.b2.c1, h.b1.cells.1, h.b1.cells.2.1, h.b1.cells.2.2, h.b1.frs.1, h.b1.frs.2.1, h.b1.frs.2.2, h.gt, h.b2.lt⟩
theorem TmS.bxs (h : TmS w W g a b c d L) : ∀ q ∈ L, W.cell? ⟨q, 0, none⟩ = some (.int .u64 0) ∧ W.cell? ⟨q, 1, none⟩ = some (.int .u64 0) ∧ W.frozen? ⟨q, 0, none⟩ = false ∧ W.frozen? ⟨q, 1, none⟩ = false ∧ g < q ∧ q < W.heap.size := fun q hq =>
  ⟨(h.bx q hq).1.c0, (h.bx q hq).1.c1, bx_fr (h.bx q hq).1 0, bx_fr (h.bx q hq).1 1, (h.bx q hq).2, (h.bx q hq).1.lt⟩
end
theorem size_a (w : World) (o : Obj) : (w.alloc o).heap.size = w.heap.size + 1 := by simp
set_option maxRecDepth 100000 in
theorem of_pt (n : Nat) (W : World) : Calls Try.prog 17 #[.int .u64 (n : Int)] W fun e w' => e = .returned (.agg #[.int .u64 0, .int .u64 (n : Int)]) ∧ Below W.heap.size W w' := by
  simpa using N4.of_any n W
theorem add_pt (a b c X : Nat) (hX : numW a b + c = X) (ha : a < 18446744073709551616) (hb : b < 18446744073709551616) (hc : c < 18446744073709551616) (hf : X < 65536 ^ 8) (W : World) :
    Calls Try.prog 40 #[.agg #[.int .u64 (a : Int), .int .u64 (b : Int)], .agg #[.int .u64 0, .int .u64 (c : Int)]] W fun e w' => e = .returned (.tuple #[.agg #[.int .u64 (hiW X : Int), .int .u64 (loW X : Int)], .int .i64 0]) ∧ Below W.heap.size W w' :=
  (add_any a b 0 c W ha hb (by decide) hc).mono fun _ _ ⟨h, l, k, he, hr, hb⟩ => by
    rw [show numW a b + numW 0 c = X by rw [← hX]; simp [numW]] at hr
    rcases hr with ⟨_, rfl, rfl, rfl⟩ | ⟨h0, _⟩
    · exact ⟨he, hb⟩
    · exact absurd hf h0
/-- The number that three words stand for. -/
def num3 (x y z : Nat) : Nat := (x * 18446744073709551616 + y) * 18446744073709551616 + z
theorem words_of {a b n X : Nat} (hX : numW (pHi a n) (pLo a n) + pHi b n = X) : num3 (hiW X) (loW X) (pLo b n) = numW a b * n := by
  have h1 : hiW X * 18446744073709551616 + loW X = X := Nat.div_add_mod' X 18446744073709551616
  have h2 : numW (pHi a n) (pLo a n) = a * n := Nat.div_add_mod' (a * n) 18446744073709551616
  have h3 : pHi b n * 18446744073709551616 + pLo b n = b * n := Nat.div_add_mod' (b * n) 18446744073709551616
  have e : numW a b * n = a * n * 18446744073709551616 + b * n := by unfold numW; grind
  unfold num3
  rw [h1, e, ← hX, h2]
  clear h1 h2 e hX
  generalize a * n = A at *
  generalize b * n = C at *
  generalize pHi b n = P at *
  generalize pLo b n = Q at *
  rw [Nat.add_mul, Nat.add_assoc, h3]
theorem words_in {a b n : Nat} (ha : a < 18446744073709551616) (hb : b < 18446744073709551616) (hn : n < 18446744073709551616) :
    numW (pHi a n) (pLo a n) + pHi b n < 65536 ^ 8 ∧ pHi a n < 18446744073709551616 ∧ pLo a n < 18446744073709551616 ∧ pHi b n < 18446744073709551616 ∧ pLo b n < 18446744073709551616 := by
  have h2 : numW (pHi a n) (pLo a n) = a * n := Nat.div_add_mod' (a * n) 18446744073709551616
  have h3 : a * n ≤ 18446744073709551615 * 18446744073709551615 := Nat.mul_le_mul (by omega) (by omega)
  have h4 : b * n ≤ 18446744073709551615 * 18446744073709551615 := Nat.mul_le_mul (by omega) (by omega)
  rw [h2, e8]
  unfold pHi pLo
  omega
end Go.Proofs.Ytmbpehhbfbmacaa
