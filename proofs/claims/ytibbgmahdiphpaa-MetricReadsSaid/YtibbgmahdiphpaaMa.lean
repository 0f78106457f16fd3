/- Proved here: lists of whole numbers as they lie in memory, rows that are being filled, a box with what a font says. No condition. -/
import Derived.Test.YtibbgmahdiphpaaIa
import Derived.Laws.AppendOwn
import Derived.Laws.Append
namespace Go.Proofs.Ytibbgmahdiphpaa
open Go.RowKit

/-- A list's number at a place. -/
def co (L : List Int) (i : Nat) : Int := L.getD i 0
theorem co_beyond {L : List Int} {i : Nat} (h : L.length ≤ i) : co L i = 0 := by unfold co; simp [List.getD_eq_getElem?_getD, h]
theorem co_at {L : List Int} {i : Nat} (h : i < L.length) : L[i]? = some (co L i) := by unfold co; simp [h]
def gen (n : Nat) (f : Nat → Int) : List Int := (List.range n).map f
theorem gen_len (n : Nat) (f : Nat → Int) : (gen n f).length = n := by simp [gen]
theorem co_gen (n : Nat) (f : Nat → Int) (i : Nat) : co (gen n f) i = if i < n then f i else 0 := by
  split
  · rename_i h; simp [co, gen, h]
  · rename_i h; exact co_beyond (by rw [gen_len]; omega)
theorem gen_snoc (n : Nat) (f : Nat → Int) : gen (n + 1) f = gen n f ++ [f n] := by simp [gen, List.range_succ]
theorem gen_zero (f : Nat → Int) : gen 0 f = [] := rfl
theorem co_ext {L M : List Int} (hl : L.length = M.length) (h : ∀ i, i < L.length → co L i = co M i) : L = M := by
  apply List.ext_getElem hl
  intro i h1 h2
  have := h i h1
  simpa [co, h1, h2] using this
/-- A row of n numbers of which k are filled. -/
def fillN (N : Nat) (f : Nat → Int) (k : Nat) : List Int := gen k f ++ List.replicate (N - k) 0
theorem fill_len {N k : Nat} (f : Nat → Int) (h : k ≤ N) : (fillN N f k).length = N := by simp [fillN, gen_len]; omega
theorem fill_start (N : Nat) (f : Nat → Int) : fillN N f 0 = List.replicate N 0 := by simp [fillN, gen]
theorem fill_end (N : Nat) (f : Nat → Int) : fillN N f N = gen N f := by simp [fillN]
theorem fill_set {N k : Nat} (f : Nat → Int) (h : k < N) : (fillN N f k).set k (f k) = fillN N f (k + 1) := by
  unfold fillN
  rw [gen_snoc, List.set_append_right _ _ (by rw [gen_len]; omega), gen_len, Nat.sub_self, show N - k = (N - (k + 1)) + 1 by omega, List.replicate_succ]
  simp
def ci (xs : List Int) : List Value := xs.map fun x => .int .i64 x
theorem ci_snoc (xs : List Int) (x : Int) : ci (xs ++ [x]) = ci xs ++ [.int .i64 x] := by simp [ci]
theorem ci_get {xs : List Int} {i : Nat} (h : i < xs.length) : (ci xs)[i]? = some (.int .i64 (co xs i)) := by simp [ci, co, h]
theorem block_of_add (a : Addr) (n : Nat) : (a.add n).block = a.block := by unfold Addr.add; split <;> rfl
theorem add_at (g j : Nat) : (⟨g, 0, none⟩ : Addr).add j = ⟨g, j, none⟩ := by unfold Addr.add; split <;> simp_all
/-- A list of whole numbers, as it lies in memory. -/
structure Il (w : World) (A : Option Addr) (m : Nat) (xs : List Int) : Prop where
  len : xs.length = m
  get : ∀ i, i < m → ∃ ad, A = some ad ∧ ad.block < w.heap.size ∧ w.cell? (ad.add i) = some (.int .i64 (co xs i))
theorem Il.nil (w : World) : Il w none 0 [] := ⟨rfl, fun i hi => by omega⟩
theorem Il.bel {w w' : World} {A : Option Addr} {m : Nat} {xs : List Int} (h : Il w A m xs) (hb : Below w.heap.size w w') : Il w' A m xs :=
  ⟨h.len, fun i hi => by
    obtain ⟨ad, h1, h2, h3⟩ := h.get i hi
    exact ⟨ad, h1, Nat.lt_of_lt_of_le h2 hb.size, (hb.cell (by rw [block_of_add]; exact h2)).trans h3⟩⟩
theorem Il.at_ {w : World} {A : Option Addr} {m : Nat} {xs : List Int} (h : Il w A m xs) {W : World} (hb : Below w.heap.size w W) {i : Nat} (hi : i < m) : ∃ ad, A = some ad ∧ W.cell? (ad.add i) = some (.int .i64 (co xs i)) := by
  obtain ⟨ad, h1, h2, h3⟩ := h.get i hi
  exact ⟨ad, h1, (hb.cell (by rw [block_of_add]; exact h2)).trans h3⟩
/-- A row of whole numbers in a block of its own. -/
def Oi (w : World) (g : Nat) (xs : List Int) : Prop := w.heap[g]? = some (.cells (ci xs).toArray 3 (0, 0))
section
variable {w w' : World} {g : Nat} {xs : List Int}
theorem Oi.lt (h : Oi w g xs) : g < w.heap.size := heap_lt h
theorem Oi.bel (h : Oi w g xs) (hb : Below w.heap.size w w') : Oi w' g xs := (hb.block g h.lt).trans h
theorem Oi.fr (h : Oi w g xs) (j : Nat) : w.frozen? ⟨g, j, none⟩ = false := by unfold Oi at h; simp [World.frozen?, h]
theorem Oi.get (h : Oi w g xs) (i : Nat) (hi : i < xs.length) : w.cell? ⟨g, i, none⟩ = some (.int .i64 (co xs i)) := by
  rw [cell_of_row w g i _ 3 (0, 0) h]
  simpa using ci_get hi
theorem Oi.set (h : Oi w g xs) (i : Nat) (z : Int) : Oi (w.setCell ⟨g, i, none⟩ (.int .i64 z)) g (xs.set i z) := by
  unfold Oi at h ⊢
  have : (w.setCell ⟨g, i, none⟩ (.int .i64 z)).heap[g]? = some (.cells ((ci xs).set i (.int .i64 z)).toArray 3 (0, 0)) := by
    simp [World.setCell, Array.getElem?_modify, h]
  unfold ci at this ⊢
  rw [List.map_set]
  exact this
theorem Oi.il (h : Oi w g xs) : Il w (some ⟨g, 0, none⟩) xs.length xs := ⟨rfl, fun i hi => ⟨_, rfl, h.lt, by rw [add_at]; exact h.get i hi⟩⟩
end
theorem Oi.new (w : World) (n : Nat) : Oi (w.alloc (.cells (ci (List.replicate n 0)).toArray 3)) w.heap.size (List.replicate n 0) := heap_alloc_new w _
theorem Try.info3 : (Try.prog.info? 3).map (fun i => (i.zero, i.size, i.bytes)) = some (some (.int .i64 0), 1, 8) := by kernel_rfl
theorem made_one (n : Nat) : madeCells (Value.int .i64 0).cells (n * 1) = (ci (List.replicate n 0)).toArray := by
  have e : (Value.int .i64 0).cells = #[.int .i64 0] := rfl
  rw [e]
  apply Array.ext'
  simp only [madeCells, ci, Nat.mul_one]
  induction n with
  | zero => simp
  | succ n ih =>
    rw [Array.range_succ, List.replicate_succ']
    simp at ih ⊢
    rw [ih, Nat.mod_one]
    exact ⟨rfl, rfl⟩
theorem mkInt (n : Nat) (hn : n ≤ 1000000) (w : World) (D : Int) (hD : D = (n : Int)) :
    (Instr.makeSlice 26 (.int .i64 D) (.int .i64 D)).run Try.prog w = .ok (.slice (some ⟨w.heap.size, 0, none⟩) n n) (w.alloc (.cells (ci (List.replicate n 0)).toArray 3)) := by
  subst hD
  obtain ⟨i0, hi0, hz0, hz1, hz2⟩ := info_parts Try.info3
  have := run_makeSlice (P := Try.prog) w 26 3 i0 (.int .i64 0) Try.underlying26 hi0 hz0 .i64 .i64 (n : Int) (n : Int) (by omega) (Int.le_refl _) (by rw [hz1]; omega) (by rw [hz2]; omega) (by omega)
  rw [this, hz1, Int.toNat_natCast, made_one]
/-- While a function runs: the box of what is said. -/
structure MS (w W : World) (b : Nat) (h : Hd) : Prop where
  bel : Below w.heap.size w W
  box : HB W b h
  far : w.heap.size ≤ b
section
variable {w W W' : World} {b : Nat} {h : Hd}
theorem MS.next (s : MS w W b h) (hb : Below W.heap.size W W') : MS w W' b h := ⟨s.bel.trans (hb.mono s.bel.size), s.box.bel hb, s.far⟩
theorem MS.drew (s : MS w W b h) : MS w W.drew b h := ⟨below_drewN s.bel 1, s.box, s.far⟩
theorem MS.box1 (s : MS w W b h) (o : Obj) : MS w (W.alloc o) b h := s.next ((Below.refl _ _).alloc (Nat.le_refl _) _)
theorem MS.set (s : MS w W b h) {g : Nat} (hg : w.heap.size ≤ g) (hne : b ≠ g) (j : Nat) (u : Value) : MS w (W.setCell ⟨g, j, none⟩ u) b h := ⟨s.bel.setCell hg u, s.box.far hne, s.far⟩
theorem MS.cells (s : MS w W b h) : W.cell? ⟨b, 0, none⟩ = some (.int .i64 h.em) ∧ W.cell? ⟨b, 1, none⟩ = some (.bool h.lg) ∧ W.cell? ⟨b, 2, none⟩ = some (.int .i64 h.gl) ∧ W.cell? ⟨b, 3, none⟩ = some (.int .i64 h.me) ∧ W.cell? ⟨b, 4, none⟩ = some (.int .i64 h.a1) ∧ W.cell? ⟨b, 5, none⟩ = some (.int .i64 h.a2) ∧ W.cell? ⟨b, 6, none⟩ = some (.int .i64 h.a3) := s.box.cells
end
theorem MS.start (w : World) (h : Hd) : MS w (w.alloc (.cells #[.int .i64 h.em, .bool h.lg, .int .i64 h.gl, .int .i64 h.me, .int .i64 h.a1, .int .i64 h.a2, .int .i64 h.a3] 23)) w.heap.size h := ⟨(Below.refl _ _).alloc (Nat.le_refl _) _, heap_alloc_new w _, Nat.le_refl _⟩
theorem cells_new (w : World) (xs : List Value) (t : TypeId) : ∀ j u, xs[j]? = some u → (w.alloc (.cells xs.toArray t)).cell? ((⟨w.heap.size, 0, none⟩ : Addr).add j) = some u := by
  intro j u hu
  rw [add_at, cell_of_row _ _ j _ t (0, 0) (heap_alloc_new w _)]
  simpa using hu
theorem own_form {w : World} {base e size n : Nat} {v : Value} {xs : List Value} (h : w.ownsRow base e size v n xs) : ∃ A c, v = .slice A n c := by
  rcases h.2 with ⟨h1, h2⟩ | ⟨g, cap, cur, h1, _⟩
  · exact ⟨none, 0, by rw [h1, h2]⟩
  · exact ⟨_, _, h1⟩
theorem own_bel {w w' : World} {base e size n : Nat} {v : Value} {xs : List Value} (h : w.ownsRow base e size v n xs) (hb : Below w.heap.size w w') : w'.ownsRow base e size v n xs := by
  refine ⟨h.1, ?_⟩
  rcases h.2 with h1 | ⟨g, cap, cur, h1, h3, h4, h5⟩
  · exact .inl h1
  · exact .inr ⟨g, cap, cur, h1, h3, (hb.block g (heap_lt h4)).trans h4, h5⟩
theorem own_not {w : World} {base e size n g : Nat} {v : Value} {xs : List Value} {cs : Array Value} {T : TypeId} {fr : Nat × Nat} (h : w.ownsRow base e size v n xs) (hg : w.heap[g]? = some (.cells cs T fr)) (hT : T ≠ e) : some g ≠ v.ownBlock := by
  intro he
  rcases h.2 with ⟨h1, h2⟩ | ⟨g2, cap, cur, h1, h3, h4, h5⟩
  · rw [h1] at he; simp [Value.ownBlock] at he
  · rw [h1] at he
    simp [Value.ownBlock] at he
    subst he
    rw [hg] at h4
    injection h4 with h4
    injection h4 with _ h4 _
    exact hT h4
theorem own_il {w : World} {base n c : Nat} {A : Option Addr} {xs : List Int} (h : w.ownsRow base 3 1 (.slice A n c) n (ci xs)) (hn : xs.length = n) : Il w A n xs := by
  refine ⟨hn, fun i hi => ?_⟩
  rcases h.2 with ⟨h1, h2⟩ | ⟨g, cap, cur, h1, h3, h4, h5⟩
  · omega
  · injection h1 with e1 e2 e3
    subst e1
    exact ⟨⟨g, 0, none⟩, rfl, heap_lt h4, h.cells (by rfl) i _ (ci_get (by omega))⟩
/-- While a list grows: the box, and the list. -/
structure GS (w W : World) (b : Nat) (h : Hd) (v : Value) (n : Nat) (xs : List Int) : Prop where
  ms : MS w W b h
  own : W.ownsRow w.heap.size 3 1 v n (ci xs)
section
variable {w W W' : World} {b n : Nat} {h : Hd} {v : Value} {xs : List Int}
theorem GS.next (s : GS w W b h v n xs) (hb : Below W.heap.size W W') : GS w W' b h v n xs := ⟨s.ms.next hb, own_bel s.own hb⟩
theorem GS.start (s : MS w W b h) : GS w W b h (.slice none 0 0) 0 [] := ⟨s, World.ownsRow_nil _ _ _ _⟩
theorem GS.push (s : GS w W b h v n xs) {v' : Value} {x : Int} (hg : W.grownBy W' v.ownBlock) (ho : W'.ownsRow w.heap.size 3 1 v' (n + 1) (ci xs ++ [.int .i64 x])) : GS w W' b h v' (n + 1) (xs ++ [x]) :=
  ⟨⟨s.ms.bel.grown hg s.ms.bel.size (fun k hk => (s.own.lt k hk).1), s.ms.box.of (hg.block b s.ms.box.lt (own_not s.own s.ms.box (by decide))), s.ms.far⟩, by rw [ci_snoc]; exact ho⟩
theorem GS.il {A : Option Addr} {c : Nat} (s : GS w W b h (.slice A n c) n xs) (hn : xs.length = n) : Il W A n xs := own_il s.own hn
end
end Go.Proofs.Ytibbgmahdiphpaa
