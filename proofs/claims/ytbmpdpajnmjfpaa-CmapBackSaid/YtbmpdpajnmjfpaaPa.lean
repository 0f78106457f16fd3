/- Proved here: lists of pairs and of runs as they lie in memory. No condition. -/
import Derived.Test.YtbmpdpajnmjfpaaBa
import Derived.Laws.AppendOwn
import Derived.Laws.Append
import Derived.Laws.OwnMore
namespace Go.Proofs.Ytbmpdpajnmjfpaa
open Go.RowKit

/-- A pair's code and its glyph. -/
def cd (L : List (Int × Int)) (i : Nat) : Int := (L.getD i (0, 0)).1
def gy (L : List (Int × Int)) (i : Nat) : Int := (L.getD i (0, 0)).2
/-- A run's first code, its last one, and the first one's glyph. -/
def rF (R : List (Int × Int × Int)) (i : Nat) : Int := (R.getD i (0, 0, 0)).1
def rT (R : List (Int × Int × Int)) (i : Nat) : Int := (R.getD i (0, 0, 0)).2.1
def rG (R : List (Int × Int × Int)) (i : Nat) : Int := (R.getD i (0, 0, 0)).2.2
theorem block_of_add (a : Addr) (n : Nat) : (a.add n).block = a.block := by unfold Addr.add; split <;> rfl
theorem add_next (a : Addr) (n : Nat) : (⟨(a.add n).block, (a.add n).off + 1, none⟩ : Addr) = a.add (n + 1) := by
  unfold Addr.add
  split
  · next h => subst h; simp
  · simp [Nat.add_assoc]
theorem add_next2 (a : Addr) (n : Nat) : (⟨(a.add n).block, (a.add n).off + 2, none⟩ : Addr) = a.add (n + 2) := by
  unfold Addr.add
  split
  · next h => subst h; simp
  · simp [Nat.add_assoc]
/-- A list of pairs, as it lies in memory. -/
structure Pl (w : World) (A : Option Addr) (m : Nat) (L : List (Int × Int)) : Prop where
  len : L.length = m
  get : ∀ i, i < m → ∃ ad, A = some ad ∧ ad.block < w.heap.size ∧ w.cell? (ad.add (i * 2)) = some (.int .i64 (cd L i)) ∧ w.cell? (ad.add (i * 2 + 1)) = some (.int .i64 (gy L i))
theorem Pl.nil (w : World) : Pl w none 0 [] := ⟨rfl, fun i hi => by omega⟩
theorem Pl.bel {w w' : World} {A : Option Addr} {m : Nat} {L : List (Int × Int)} (h : Pl w A m L) (hb : Below w.heap.size w w') : Pl w' A m L :=
  ⟨h.len, fun i hi => by
    obtain ⟨ad, h1, h2, h3, h4⟩ := h.get i hi
    exact ⟨ad, h1, Nat.lt_of_lt_of_le h2 hb.size, by rw [hb.cell (by rw [block_of_add]; exact h2)]; exact h3, by rw [hb.cell (by rw [block_of_add]; exact h2)]; exact h4⟩⟩
/-- The i-th pair's cells, as the walk asks for them. -/
theorem Pl.at_ {w : World} {A : Option Addr} {m : Nat} {L : List (Int × Int)} (h : Pl w A m L) {W : World} (hb : Below w.heap.size w W) {i : Nat} (hi : i < m) :
    ∃ ad, A = some ad ∧ W.cell? (ad.add (i * 2)) = some (.int .i64 (cd L i)) ∧ W.cell? { block := (ad.add (i * 2)).block, off := (ad.add (i * 2)).off + 1 } = some (.int .i64 (gy L i)) := by
  obtain ⟨ad, h1, h2, h3, h4⟩ := h.get i hi
  exact ⟨ad, h1, by rw [hb.cell (by rw [block_of_add]; exact h2)]; exact h3, by rw [add_next, hb.cell (by rw [block_of_add]; exact h2)]; exact h4⟩
/-- A list of runs, as it lies in memory. -/
structure Rl (w : World) (A : Option Addr) (m : Nat) (R : List (Int × Int × Int)) : Prop where
  len : R.length = m
  get : ∀ i, i < m → ∃ ad, A = some ad ∧ ad.block < w.heap.size ∧ w.cell? (ad.add (i * 3)) = some (.int .i64 (rF R i)) ∧ w.cell? (ad.add (i * 3 + 1)) = some (.int .i64 (rT R i)) ∧ w.cell? (ad.add (i * 3 + 2)) = some (.int .i64 (rG R i))
theorem Rl.bel {w w' : World} {A : Option Addr} {m : Nat} {L : List (Int × Int × Int)} (h : Rl w A m L) (hb : Below w.heap.size w w') : Rl w' A m L :=
  ⟨h.len, fun i hi => by
    obtain ⟨ad, h1, h2, h3, h4, h5⟩ := h.get i hi
    exact ⟨ad, h1, Nat.lt_of_lt_of_le h2 hb.size, by rw [hb.cell (by rw [block_of_add]; exact h2)]; exact h3, by rw [hb.cell (by rw [block_of_add]; exact h2)]; exact h4, by rw [hb.cell (by rw [block_of_add]; exact h2)]; exact h5⟩⟩
theorem Rl.at_ {w : World} {A : Option Addr} {m : Nat} {L : List (Int × Int × Int)} (h : Rl w A m L) {W : World} (hb : Below w.heap.size w W) {i : Nat} (hi : i < m) :
    ∃ ad, A = some ad ∧ W.cell? (ad.add (i * 3)) = some (.int .i64 (rF L i)) ∧ W.cell? { block := (ad.add (i * 3)).block, off := (ad.add (i * 3)).off + 1 } = some (.int .i64 (rT L i)) ∧ W.cell? { block := (ad.add (i * 3)).block, off := (ad.add (i * 3)).off + 2 } = some (.int .i64 (rG L i)) := by
  obtain ⟨ad, h1, h2, h3, h4, h5⟩ := h.get i hi
  exact ⟨ad, h1, by rw [hb.cell (by rw [block_of_add]; exact h2)]; exact h3, by rw [add_next, hb.cell (by rw [block_of_add]; exact h2)]; exact h4, by rw [add_next2, hb.cell (by rw [block_of_add]; exact h2)]; exact h5⟩
def pairC (L : List (Int × Int)) : List Value := L.flatMap fun e => [.int .i64 e.1, .int .i64 e.2]
def runC (R : List (Int × Int × Int)) : List Value := R.flatMap fun e => [.int .i64 e.1, .int .i64 e.2.1, .int .i64 e.2.2]
theorem pairC_snoc (L : List (Int × Int)) (e : Int × Int) : pairC (L ++ [e]) = pairC L ++ [.int .i64 e.1, .int .i64 e.2] := by simp [pairC]
theorem runC_snoc (R : List (Int × Int × Int)) (e : Int × Int × Int) : runC (R ++ [e]) = runC R ++ [.int .i64 e.1, .int .i64 e.2.1, .int .i64 e.2.2] := by simp [runC]
theorem pairC_get : ∀ (L : List (Int × Int)) (i : Nat), i < L.length → (pairC L)[i * 2]? = some (.int .i64 (cd L i)) ∧ (pairC L)[i * 2 + 1]? = some (.int .i64 (gy L i))
  | t :: L, 0, _ => ⟨rfl, rfl⟩
  | t :: L, i + 1, h => by
    have ih := pairC_get L i (by simp at h; omega)
    have e : pairC (t :: L) = .int .i64 t.1 :: .int .i64 t.2 :: pairC L := rfl
    rw [e, show (i + 1) * 2 = i * 2 + 2 by omega]
    exact ih
theorem runC_get : ∀ (R : List (Int × Int × Int)) (i : Nat), i < R.length → (runC R)[i * 3]? = some (.int .i64 (rF R i)) ∧ (runC R)[i * 3 + 1]? = some (.int .i64 (rT R i)) ∧ (runC R)[i * 3 + 2]? = some (.int .i64 (rG R i))
  | t :: L, 0, _ => ⟨rfl, rfl, rfl⟩
  | t :: L, i + 1, h => by
    have ih := runC_get L i (by simp at h; omega)
    have e : runC (t :: L) = .int .i64 t.1 :: .int .i64 t.2.1 :: .int .i64 t.2.2 :: runC L := rfl
    rw [e, show (i + 1) * 3 = i * 3 + 3 by omega]
    exact ih
theorem runC_set : ∀ (R : List (Int × Int × Int)) (i : Nat) (x : Int), i < R.length → (runC R).set (i * 3 + 1) (.int .i64 x) = runC (R.set i (rF R i, x, rG R i))
  | t :: L, 0, x, _ => rfl
  | t :: L, i + 1, x, h => by
    have ih := runC_set L i x (by simp at h; omega)
    have e : runC (t :: L) = .int .i64 t.1 :: .int .i64 t.2.1 :: .int .i64 t.2.2 :: runC L := rfl
    rw [e, show (i + 1) * 3 + 1 = (i * 3 + 1) + 3 by omega]
    simp only [List.set_cons_succ]
    rw [ih]
    rfl
theorem own_form {w : World} {base e size n : Nat} {v : Value} {xs : List Value} (h : w.ownsRow base e size v n xs) : ∃ A c, v = .slice A n c := by
  rcases h.2 with ⟨h1, h2⟩ | ⟨g, cap, cur, h1, _⟩
  · exact ⟨none, 0, by rw [h1, h2]⟩
  · exact ⟨_, _, h1⟩
theorem own_cell {w : World} {base e size n c : Nat} {A : Option Addr} {xs : List Value} (h : w.ownsRow base e size (.slice A n c) n xs) (hn : 0 < n) : ∃ ad, A = some ad ∧ ad.block < w.heap.size ∧ ∀ j u, xs[j]? = some u → w.cell? (ad.add j) = some u := by
  rcases h.2 with ⟨h1, h2⟩ | ⟨g, cap, cur, h1, h3, h4, h5⟩
  · omega
  · injection h1 with e1 e2 e3
    subst e1
    exact ⟨⟨g, 0, none⟩, rfl, heap_lt h4, fun j u hu => h.cells (by rfl) j u hu⟩
theorem own_block {w : World} {base e size n c : Nat} {A : Option Addr} {xs : List Value} (h : w.ownsRow base e size (.slice A n c) n xs) (hn : 0 < n) : ∃ g, A = some ⟨g, 0, none⟩ ∧ base ≤ g ∧ g < w.heap.size := by
  rcases h.2 with ⟨h1, h2⟩ | ⟨g, cap, cur, h1, h3, h4, h5⟩
  · omega
  · injection h1 with e1 e2 e3
    exact ⟨g, e1, h3, heap_lt h4⟩
theorem own_pl {w : World} {base n c : Nat} {A : Option Addr} {L : List (Int × Int)} (h : w.ownsRow base 37 2 (.slice A n c) n (pairC L)) (hn : L.length = n) : Pl w A n L := by
  refine ⟨hn, fun i hi => ?_⟩
  obtain ⟨ad, h1, h2, h3⟩ := own_cell h (by omega)
  obtain ⟨g1, g2⟩ := pairC_get L i (by omega)
  exact ⟨ad, h1, h2, h3 _ _ g1, h3 _ _ g2⟩
theorem own_rl {w : World} {base T n c : Nat} {A : Option Addr} {R : List (Int × Int × Int)} (h : w.ownsRow base T 3 (.slice A n c) n (runC R)) (hn : R.length = n) : Rl w A n R := by
  refine ⟨hn, fun i hi => ?_⟩
  obtain ⟨ad, h1, h2, h3⟩ := own_cell h (by omega)
  obtain ⟨g1, g2, g3⟩ := runC_get R i (by omega)
  exact ⟨ad, h1, h2, h3 _ _ g1, h3 _ _ g2, h3 _ _ g3⟩
theorem own_bel {w w' : World} {base e size n : Nat} {v : Value} {xs : List Value} (h : w.ownsRow base e size v n xs) (hb : Below w.heap.size w w') : w'.ownsRow base e size v n xs := by
  refine ⟨h.1, ?_⟩
  rcases h.2 with h1 | ⟨g, cap, cur, h1, h3, h4, h5⟩
  · exact .inl h1
  · exact .inr ⟨g, cap, cur, h1, h3, (hb.block g (heap_lt h4)).trans h4, h5⟩
theorem own_not {w : World} {base e size n g : Nat} {v : Value} {xs : List Value} {cs : Array Value} {T : TypeId} {fr : Nat × Nat} (h : w.ownsRow base e size v n xs) (hg : w.heap[g]? = some (.cells cs T fr)) (hT : T ≠ e) : some g ≠ v.ownBlock := by
  intro he
  rcases h.2 with ⟨h1, h2⟩ | ⟨g2, cap, cur, h1, h3, h4, h5⟩
  · rw [h1] at he; simp [Value.ownBlock] at he
  · rw [h1] at he
    simp [Value.ownBlock] at he
    subst he
    rw [hg] at h4
    injection h4 with h4
    injection h4 with _ h4 _
    exact hT h4
theorem own_type {w : World} {base e size n g : Nat} {v : Value} {xs : List Value} (h : w.ownsRow base e size v n xs) (hg : some g = v.ownBlock) : base ≤ g ∧ ∃ cs fr, w.heap[g]? = some (.cells cs e fr) := by
  rcases h.2 with ⟨h1, h2⟩ | ⟨g2, cap, cur, h1, h3, h4, h5⟩
  · rw [h1] at hg; simp [Value.ownBlock] at hg
  · rw [h1] at hg
    simp [Value.ownBlock] at hg
    subst hg
    exact ⟨h3, _, _, h4⟩
theorem cells_new (w : World) (xs : List Value) (t : TypeId) : ∀ j u, xs[j]? = some u → (w.alloc (.cells xs.toArray t)).cell? ((⟨w.heap.size, 0, none⟩ : Addr).add j) = some u := by
  intro j u hu
  have e : (⟨w.heap.size, 0, none⟩ : Addr).add j = ⟨w.heap.size, j, none⟩ := by unfold Addr.add; split <;> simp_all
  rw [e, cell_of_row _ _ j _ t (0, 0) (heap_alloc_new w _)]
  simpa using hu
theorem below_grown {w W W' : World} {e size n : Nat} {v : Value} {xs : List Value} (h : Below w.heap.size w W) (ho : W.ownsRow w.heap.size e size v n xs) (hg : W.grownBy W' v.ownBlock) : Below w.heap.size w W' :=
  h.grown hg h.size (fun k hk => (ho.lt k hk).1)
theorem Try.info37 : (Try.prog.info? 37).map (fun i => (i.zero, i.size, i.bytes)) = some (some (.agg #[.int .i64 0, .int .i64 0]), 2, 16) := by kernel_rfl
theorem Try.info76 : (Try.prog.info? 76).map (fun i => (i.zero, i.size, i.bytes)) = some (some (.agg #[.int .i64 0, .int .i64 0, .int .i64 0]), 3, 24) := by kernel_rfl
theorem Try.info50 : (Try.prog.info? 50).map (fun i => (i.zero, i.size, i.bytes)) = some (some (.agg #[.int .i64 0, .int .i64 0, .int .i64 0]), 3, 24) := by kernel_rfl
/-- May these be the pairs of a font of so many glyphs? -/
def ahd (L : List (Int × Int)) : Nat → Int
  | 0 => -1
  | i + 1 => cd L i
def okAt (L : List (Int × Int)) (g : Int) (i : Nat) : Prop := ahd L i < cd L i ∧ cd L i ≤ 1114111 ∧ 1 ≤ gy L i ∧ gy L i < g
def MayP (L : List (Int × Int)) (g : Int) : Prop := (1 ≤ g ∧ g ≤ 1024) ∧ L.length ≤ 4096 ∧ ∀ i, i < L.length → okAt L g i
instance (L : List (Int × Int)) (g : Int) (i : Nat) : Decidable (okAt L g i) := by unfold okAt; infer_instance
instance (L : List (Int × Int)) (g : Int) : Decidable (MayP L g) := by unfold MayP; infer_instance
end Go.Proofs.Ytbmpdpajnmjfpaa
