/- Proved here: lists of numbers, of points and of contours as they lie in memory; which contours may be (plain). No condition. -/
import Derived.Test.YtnnanlilnlimaaaBa
import Derived.Laws.AppendOwn
import Derived.Laws.Append
import Derived.Laws.OwnMore
namespace Go.Proofs.Ytnnanlilnlimaaa
open Go.RowKit

theorem block_of_add (a : Addr) (n : Nat) : (a.add n).block = a.block := by unfold Addr.add; split <;> rfl
theorem add_next (a : Addr) (n : Nat) : (⟨(a.add n).block, (a.add n).off + 1, none⟩ : Addr) = a.add (n + 1) := by
  unfold Addr.add
  split
  · next h => subst h; simp
  · simp [Nat.add_assoc]
theorem add_next2 (a : Addr) (n : Nat) : (⟨(a.add n).block, (a.add n).off + 2, none⟩ : Addr) = a.add (n + 2) := by
  unfold Addr.add
  split
  · next h => subst h; simp
  · simp [Nat.add_assoc]
theorem own_form {w : World} {base e size n : Nat} {v : Value} {xs : List Value} (h : w.ownsRow base e size v n xs) : ∃ A c, v = .slice A n c := by
  rcases h.2 with ⟨h1, h2⟩ | ⟨g, cap, cur, h1, _⟩
  · exact ⟨none, 0, by rw [h1, h2]⟩
  · exact ⟨_, _, h1⟩
theorem own_cell {w : World} {base e size n c : Nat} {A : Option Addr} {xs : List Value} (h : w.ownsRow base e size (.slice A n c) n xs) (hn : 0 < n) : ∃ ad, A = some ad ∧ ad.block < w.heap.size ∧ ∀ j u, xs[j]? = some u → w.cell? (ad.add j) = some u := by
  rcases h.2 with ⟨h1, h2⟩ | ⟨g, cap, cur, h1, h3, h4, h5⟩
  · omega
  · injection h1 with e1 e2 e3
    subst e1
    exact ⟨⟨g, 0, none⟩, rfl, heap_lt h4, fun j u hu => h.cells (by rfl) j u hu⟩
theorem own_block {w : World} {base e size n c : Nat} {A : Option Addr} {xs : List Value} (h : w.ownsRow base e size (.slice A n c) n xs) (hn : 0 < n) : ∃ g, A = some ⟨g, 0, none⟩ ∧ base ≤ g ∧ g < w.heap.size := by
  rcases h.2 with ⟨h1, h2⟩ | ⟨g, cap, cur, h1, h3, h4, h5⟩
  · omega
  · injection h1 with e1 e2 e3
    exact ⟨g, e1, h3, heap_lt h4⟩
theorem own_bel {w w' : World} {base e size n : Nat} {v : Value} {xs : List Value} (h : w.ownsRow base e size v n xs) (hb : Below w.heap.size w w') : w'.ownsRow base e size v n xs := by
  refine ⟨h.1, ?_⟩
  rcases h.2 with h1 | ⟨g, cap, cur, h1, h3, h4, h5⟩
  · exact .inl h1
  · exact .inr ⟨g, cap, cur, h1, h3, (hb.block g (heap_lt h4)).trans h4, h5⟩
theorem own_not {w : World} {base e size n g : Nat} {v : Value} {xs : List Value} {cs : Array Value} {T : TypeId} {fr : Nat × Nat} (h : w.ownsRow base e size v n xs) (hg : w.heap[g]? = some (.cells cs T fr)) (hT : T ≠ e) : some g ≠ v.ownBlock := by
  intro he
  rcases h.2 with ⟨h1, h2⟩ | ⟨g2, cap, cur, h1, h3, h4, h5⟩
  · rw [h1] at he; simp [Value.ownBlock] at he
  · rw [h1] at he
    simp [Value.ownBlock] at he
    subst he
    rw [hg] at h4
    injection h4 with h4
    injection h4 with _ h4 _
    exact hT h4
theorem own_type {w : World} {base e size n g : Nat} {v : Value} {xs : List Value} (h : w.ownsRow base e size v n xs) (hg : some g = v.ownBlock) : base ≤ g ∧ ∃ cs fr, w.heap[g]? = some (.cells cs e fr) := by
  rcases h.2 with ⟨h1, h2⟩ | ⟨g2, cap, cur, h1, h3, h4, h5⟩
  · rw [h1] at hg; simp [Value.ownBlock] at hg
  · rw [h1] at hg
    simp [Value.ownBlock] at hg
    subst hg
    exact ⟨h3, _, _, h4⟩
theorem cells_new (w : World) (xs : List Value) (t : TypeId) : ∀ j u, xs[j]? = some u → (w.alloc (.cells xs.toArray t)).cell? ((⟨w.heap.size, 0, none⟩ : Addr).add j) = some u := by
  intro j u hu
  have e : (⟨w.heap.size, 0, none⟩ : Addr).add j = ⟨w.heap.size, j, none⟩ := by unfold Addr.add; split <;> simp_all
  rw [e, cell_of_row _ _ j _ t (0, 0) (heap_alloc_new w _)]
  simpa using hu
theorem below_grown {w W W' : World} {e size n : Nat} {v : Value} {xs : List Value} (h : Below w.heap.size w W) (ho : W.ownsRow w.heap.size e size v n xs) (hg : W.grownBy W' v.ownBlock) : Below w.heap.size w W' :=
  h.grown hg h.size (fun k hk => (ho.lt k hk).1)

/-- Number i of a list. -/
def co (xs : List Int) (i : Nat) : Int := xs.getD i 0
def ci (K : IntKind) (xs : List Int) : List Value := xs.map fun x => .int K x
theorem ci_len (K : IntKind) (xs : List Int) : (ci K xs).length = xs.length := by simp [ci]
theorem ci_get (K : IntKind) (xs : List Int) (i : Nat) (h : i < xs.length) : (ci K xs)[i]? = some (.int K (co xs i)) := by
  simp [ci, co, h]
theorem ci_snoc (K : IntKind) (xs : List Int) (x : Int) : ci K (xs ++ [x]) = ci K xs ++ [.int K x] := by simp [ci]
/-- A list of numbers, as it lies in memory. -/
structure Il (K : IntKind) (w : World) (A : Option Addr) (m : Nat) (xs : List Int) : Prop where
  len : xs.length = m
  get : ∀ i, i < m → ∃ ad, A = some ad ∧ ad.block < w.heap.size ∧ w.cell? (ad.add i) = some (.int K (co xs i))
theorem Il.nil (K : IntKind) (w : World) : Il K w none 0 [] := ⟨rfl, fun i hi => by omega⟩
theorem Il.bel {K : IntKind} {w w' : World} {A : Option Addr} {m : Nat} {xs : List Int} (h : Il K w A m xs) (hb : Below w.heap.size w w') : Il K w' A m xs :=
  ⟨h.len, fun i hi => by
    obtain ⟨ad, h1, h2, h3⟩ := h.get i hi
    exact ⟨ad, h1, Nat.lt_of_lt_of_le h2 hb.size, by rw [hb.cell (by rw [block_of_add]; exact h2)]; exact h3⟩⟩
theorem Il.at_ {K : IntKind} {w : World} {A : Option Addr} {m : Nat} {xs : List Int} (h : Il K w A m xs) {W : World} (hb : Below w.heap.size w W) {i : Nat} (hi : i < m) :
    ∃ ad, A = some ad ∧ W.cell? (ad.add i) = some (.int K (co xs i)) := by
  obtain ⟨ad, h1, h2, h3⟩ := h.get i hi
  exact ⟨ad, h1, by rw [hb.cell (by rw [block_of_add]; exact h2)]; exact h3⟩
theorem own_il {K : IntKind} {w : World} {base T n c : Nat} {A : Option Addr} {xs : List Int} (h : w.ownsRow base T 1 (.slice A n c) n (ci K xs)) (hn : xs.length = n) : Il K w A n xs := by
  refine ⟨hn, fun i hi => ?_⟩
  obtain ⟨ad, h1, h2, h3⟩ := own_cell h (by omega)
  exact ⟨ad, h1, h2, h3 _ _ (ci_get K xs i (by omega))⟩
/-- A point: how far it is to the right, how far up, and whether it is on the outline. -/
abbrev Pt := Int × Int × Bool
def px (L : List Pt) (i : Nat) : Int := (L.getD i (0, 0, false)).1
def py (L : List Pt) (i : Nat) : Int := (L.getD i (0, 0, false)).2.1
def po (L : List Pt) (i : Nat) : Bool := (L.getD i (0, 0, false)).2.2
theorem pt_at (L : List Pt) (i : Nat) : L.getD i (0, 0, false) = (px L i, py L i, po L i) := rfl
/-- A list of points, as it lies in memory. -/
structure Ptl (w : World) (A : Option Addr) (m : Nat) (L : List Pt) : Prop where
  len : L.length = m
  get : ∀ i, i < m → ∃ ad, A = some ad ∧ ad.block < w.heap.size ∧ w.cell? (ad.add (i * 3)) = some (.int .i64 (px L i)) ∧ w.cell? (ad.add (i * 3 + 1)) = some (.int .i64 (py L i)) ∧ w.cell? (ad.add (i * 3 + 2)) = some (.bool (po L i))
theorem Ptl.nil (w : World) : Ptl w none 0 [] := ⟨rfl, fun i hi => by omega⟩
theorem Ptl.below {B : Nat} {w w' : World} {A : Option Addr} {m : Nat} {L : List Pt} (h : Ptl w A m L) (hb : Below B w w') (hB : w.heap.size ≤ B) : Ptl w' A m L :=
  ⟨h.len, fun i hi => by
    obtain ⟨ad, h1, h2, h3, h4, h5⟩ := h.get i hi
    exact ⟨ad, h1, Nat.lt_of_lt_of_le h2 hb.size, by rw [hb.cell (by rw [block_of_add]; omega)]; exact h3, by rw [hb.cell (by rw [block_of_add]; omega)]; exact h4, by rw [hb.cell (by rw [block_of_add]; omega)]; exact h5⟩⟩
theorem Ptl.bel {w w' : World} {A : Option Addr} {m : Nat} {L : List Pt} (h : Ptl w A m L) (hb : Below w.heap.size w w') : Ptl w' A m L := h.below hb (Nat.le_refl _)
/-- The i-th point's cells, as the walk asks for them. -/
theorem Ptl.at_ {w : World} {A : Option Addr} {m : Nat} {L : List Pt} (h : Ptl w A m L) {W : World} (hb : Below w.heap.size w W) {i : Nat} (hi : i < m) :
    ∃ ad, A = some ad ∧ W.cell? (ad.add (i * 3)) = some (.int .i64 (px L i)) ∧ W.cell? { block := (ad.add (i * 3)).block, off := (ad.add (i * 3)).off + 1 } = some (.int .i64 (py L i)) ∧ W.cell? { block := (ad.add (i * 3)).block, off := (ad.add (i * 3)).off + 2 } = some (.bool (po L i)) := by
  obtain ⟨ad, h1, h2, h3, h4, h5⟩ := h.get i hi
  exact ⟨ad, h1, by rw [hb.cell (by rw [block_of_add]; exact h2)]; exact h3, by rw [add_next, hb.cell (by rw [block_of_add]; exact h2)]; exact h4, by rw [add_next2, hb.cell (by rw [block_of_add]; exact h2)]; exact h5⟩
/-- Contour i. -/
def ct (LL : List (List Pt)) (i : Nat) : List Pt := LL.getD i []
/-- A list of contours, as it lies in memory. -/
structure Ctl (w : World) (A : Option Addr) (m : Nat) (LL : List (List Pt)) : Prop where
  len : LL.length = m
  get : ∀ i, i < m → ∃ ad B c, A = some ad ∧ ad.block < w.heap.size ∧ w.cell? (ad.add i) = some (.slice B (ct LL i).length c) ∧ Ptl w B (ct LL i).length (ct LL i)
theorem Ctl.nil (w : World) : Ctl w none 0 [] := ⟨rfl, fun i hi => by omega⟩
theorem Ctl.bel {w w' : World} {A : Option Addr} {m : Nat} {LL : List (List Pt)} (h : Ctl w A m LL) (hb : Below w.heap.size w w') : Ctl w' A m LL :=
  ⟨h.len, fun i hi => by
    obtain ⟨ad, B, c, h1, h2, h3, h4⟩ := h.get i hi
    exact ⟨ad, B, c, h1, Nat.lt_of_lt_of_le h2 hb.size, by rw [hb.cell (by rw [block_of_add]; exact h2)]; exact h3, h4.bel hb⟩⟩
/-- Contour i's cell, and its points, as the walk asks for them. -/
theorem Ctl.at_ {w : World} {A : Option Addr} {m : Nat} {LL : List (List Pt)} (h : Ctl w A m LL) {W : World} (hb : Below w.heap.size w W) {i : Nat} (hi : i < m) :
    ∃ ad B c, A = some ad ∧ W.cell? (ad.add i) = some (.slice B (ct LL i).length c) ∧ Ptl W B (ct LL i).length (ct LL i) := by
  obtain ⟨ad, B, c, h1, h2, h3, h4⟩ := h.get i hi
  exact ⟨ad, B, c, h1, by rw [hb.cell (by rw [block_of_add]; exact h2)]; exact h3, h4.bel hb⟩
def ptC (L : List Pt) : List Value := L.flatMap fun e => [.int .i64 e.1, .int .i64 e.2.1, .bool e.2.2]
theorem ptC_snoc (L : List Pt) (e : Pt) : ptC (L ++ [e]) = ptC L ++ [.int .i64 e.1, .int .i64 e.2.1, .bool e.2.2] := by simp [ptC]
theorem ptC_len : ∀ L : List Pt, (ptC L).length = L.length * 3
  | [] => rfl
  | t :: L => by
    have ih := ptC_len L
    have e : ptC (t :: L) = .int .i64 t.1 :: .int .i64 t.2.1 :: .bool t.2.2 :: ptC L := rfl
    rw [e]
    simp only [List.length_cons]
    omega
theorem ptC_get : ∀ (L : List Pt) (i : Nat), i < L.length → (ptC L)[i * 3]? = some (.int .i64 (px L i)) ∧ (ptC L)[i * 3 + 1]? = some (.int .i64 (py L i)) ∧ (ptC L)[i * 3 + 2]? = some (.bool (po L i))
  | t :: L, 0, _ => ⟨rfl, rfl, rfl⟩
  | t :: L, i + 1, h => by
    have ih := ptC_get L i (by simp at h; omega)
    have e : ptC (t :: L) = .int .i64 t.1 :: .int .i64 t.2.1 :: .bool t.2.2 :: ptC L := rfl
    rw [e, show (i + 1) * 3 = i * 3 + 3 by omega]
    exact ih
theorem own_ptl {w : World} {base T n c : Nat} {A : Option Addr} {L : List Pt} (h : w.ownsRow base T 3 (.slice A n c) n (ptC L)) (hn : L.length = n) : Ptl w A n L := by
  refine ⟨hn, fun i hi => ?_⟩
  obtain ⟨ad, h1, h2, h3⟩ := own_cell h (by omega)
  obtain ⟨g1, g2, g3⟩ := ptC_get L i (by omega)
  exact ⟨ad, h1, h2, h3 _ _ g1, h3 _ _ g2, h3 _ _ g3⟩
theorem Try.info3 : (Try.prog.info? 3).map (fun i => (i.zero, i.size, i.bytes)) = some (some (.int .i64 0), 1, 8) := by kernel_rfl
theorem Try.info71 : (Try.prog.info? 71).map (fun i => (i.zero, i.size, i.bytes)) = some (some (.int .u32 0), 1, 4) := by kernel_rfl
theorem Try.info38 : (Try.prog.info? 38).map (fun i => (i.zero, i.size, i.bytes)) = some (some (.slice none 0 0), 1, 24) := by kernel_rfl
theorem Try.info40 : (Try.prog.info? 40).map (fun i => (i.zero, i.size, i.bytes)) = some (some (.agg #[.int .i64 0, .int .i64 0, .bool false]), 3, 24) := by kernel_rfl
/-- How many points the first k contours have. -/
def tot (LL : List (List Pt)) : Nat → Nat
  | 0 => 0
  | k + 1 => tot LL k + (ct LL k).length
/-- May a point's x or y be so great? -/
def okU (x : Int) : Prop := -32767 ≤ x ∧ x ≤ 32767
instance (x : Int) : Decidable (okU x) := inferInstanceAs (Decidable (_ ∧ _))
def okP (L : List Pt) (j : Nat) : Prop := okU (px L j) ∧ okU (py L j)
instance (L : List Pt) (j : Nat) : Decidable (okP L j) := inferInstanceAs (Decidable (_ ∧ _))
def okC (LL : List (List Pt)) (i : Nat) : Prop := (1 ≤ (ct LL i).length ∧ tot LL (i + 1) ≤ 4096) ∧ ∀ j, j < (ct LL i).length → okP (ct LL i) j
instance (LL : List (List Pt)) (i : Nat) : Decidable (okC LL i) := inferInstanceAs (Decidable (_ ∧ _))
/-- May these be a glyph's contours? -/
def MayG (LL : List (List Pt)) : Prop := LL.length ≤ 256 ∧ ∀ i, i < LL.length → okC LL i
instance (LL : List (List Pt)) : Decidable (MayG LL) := inferInstanceAs (Decidable (_ ∧ _))
theorem all_succ {P : Nat → Prop} {k : Nat} (h : ∀ i, i < k → P i) (h1 : P k) : ∀ i, i < k + 1 → P i := by
  intro i hi
  rcases Nat.lt_or_ge i k with h2 | h2
  · exact h i h2
  · rw [show i = k by omega]; exact h1
end Go.Proofs.Ytnnanlilnlimaaa
