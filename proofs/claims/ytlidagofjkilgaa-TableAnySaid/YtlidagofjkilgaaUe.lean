/- Proved here: words for the lists that Parse makes. No condition. -/
import Derived.Test.YtlidagofjkilgaaUd
import Derived.Laws.AppendOwn
import Derived.Laws.Append
namespace Go.Proofs.Ytlidagofjkilgaa
open Go.RowKit

theorem fe_all {l : List UInt8} {n : Nat} : ∀ {k : Nat}, fe l n k = 0 → ∀ i, i < k → rE l n i = 0
  | k + 1, h, i, hi => by
    simp only [fe] at h
    by_cases h0 : fe l n k = 0
    · rw [if_pos h0] at h
      rcases Nat.lt_or_ge i k with h1 | h1
      · exact fe_all h0 i h1
      · rw [show i = k by omega]; exact h
    · rw [if_neg h0] at h; exact absurd h h0
theorem fe_succ {l : List UInt8} {n k : Nat} (h : fe l n k = 0) : fe l n (k + 1) = rE l n k := by simp only [fe]; rw [if_pos h]
theorem takeE_in {l : List UInt8} {r : Row} {R : List Row} {fin : Nat} (h : takeE l r R fin = 0) : r.place + r.size ≤ l.length ∧ tagOK r.tag = true := by
  unfold takeE at h
  split at h
  · exact absurd h (by decide)
  · rename_i h1
    split at h
    · exact absurd h (by decide)
    · split at h
      · exact absurd h (by decide)
      · rename_i h2
        refine ⟨Decidable.not_not.1 h2, ?_⟩
        cases ht : tagOK r.tag
        · rw [ht] at h1; exact absurd rfl h1
        · rfl
theorem rows_in {l : List UInt8} {n k : Nat} (h : fe l n k = 0) : ∀ x ∈ rows l k, x.place + x.size ≤ l.length := by
  intro x hx
  unfold rows at hx
  obtain ⟨i, hi, rfl⟩ := List.mem_map.1 hx
  exact (takeE_in (fe_all h i (List.mem_range.1 hi))).1
theorem rows_succ (l : List UInt8) (k : Nat) : rows l (k + 1) = rows l k ++ [rowOf l k] := by unfold rows; rw [List.range_succ, List.map_append]; rfl
theorem rows_len (l : List UInt8) (k : Nat) : (rows l k).length = k := by unfold rows; simp
theorem tabs_succ (l : List UInt8) (k : Nat) : tabs l (k + 1) = tabs l k ++ [((rowOf l k).tag, piece l (rowOf l k).place (rowOf l k).size)] := by unfold tabs; rw [List.range_succ, List.map_append]; rfl
/-- The cells of tables, of rows. -/
def tabC (L : List (List UInt8 × List UInt8)) : List Value := L.flatMap fun t => [.string ⟨t.1.toArray⟩, .string ⟨t.2.toArray⟩]
def rowC (R : List Row) : List Value := R.flatMap fun r => [.string ⟨r.tag.toArray⟩, .int .u32 (r.sum : Int), .int .u32 (r.place : Int), .int .u32 (r.size : Int)]
theorem tabC_snoc (L : List (List UInt8 × List UInt8)) (t d : List UInt8) : tabC (L ++ [(t, d)]) = tabC L ++ [.string ⟨t.toArray⟩, .string ⟨d.toArray⟩] := by simp [tabC]
theorem rowC_snoc (R : List Row) (r : Row) : rowC (R ++ [r]) = rowC R ++ [.string ⟨r.tag.toArray⟩, .int .u32 (r.sum : Int), .int .u32 (r.place : Int), .int .u32 (r.size : Int)] := by simp [rowC]
theorem tabC_get : ∀ (L : List (List UInt8 × List UInt8)) (i : Nat), i < L.length → (tabC L)[i * 2]? = some (.string ⟨(tg L i).toArray⟩) ∧ (tabC L)[i * 2 + 1]? = some (.string ⟨(dt L i).toArray⟩)
  | t :: L, 0, _ => ⟨rfl, rfl⟩
  | t :: L, i + 1, h => by
    have ih := tabC_get L i (by simp at h; omega)
    have e : tabC (t :: L) = .string ⟨t.1.toArray⟩ :: .string ⟨t.2.toArray⟩ :: tabC L := rfl
    rw [e, show (i + 1) * 2 = i * 2 + 2 by omega]
    exact ih
theorem rowC_get : ∀ (R : List Row) (i : Nat) (h : i < R.length), (rowC R)[i * 4]? = some (.string ⟨R[i].tag.toArray⟩) ∧ (rowC R)[i * 4 + 1]? = some (.int .u32 (R[i].sum : Int)) ∧ (rowC R)[i * 4 + 2]? = some (.int .u32 (R[i].place : Int)) ∧ (rowC R)[i * 4 + 3]? = some (.int .u32 (R[i].size : Int))
  | r :: R, 0, _ => ⟨rfl, rfl, rfl, rfl⟩
  | r :: R, i + 1, h => by
    have ih := rowC_get R i (by simp at h; omega)
    have e : rowC (r :: R) = .string ⟨r.tag.toArray⟩ :: .int .u32 (r.sum : Int) :: .int .u32 (r.place : Int) :: .int .u32 (r.size : Int) :: rowC R := rfl
    rw [e, show (i + 1) * 4 = i * 4 + 4 by omega]
    exact ih
theorem own_form {w : World} {base e size n : Nat} {v : Value} {xs : List Value} (h : w.ownsRow base e size v n xs) : ∃ A c, v = .slice A n c := by
  rcases h.2 with ⟨h1, h2⟩ | ⟨g, cap, cur, h1, _⟩
  · exact ⟨none, 0, by rw [h1, h2]⟩
  · exact ⟨_, _, h1⟩
theorem own_cell {w : World} {base e size n c : Nat} {A : Option Addr} {xs : List Value} (h : w.ownsRow base e size (.slice A n c) n xs) (hn : 0 < n) : ∃ ad, A = some ad ∧ ad.block < w.heap.size ∧ ∀ j u, xs[j]? = some u → w.cell? (ad.add j) = some u := by
  rcases h.2 with ⟨h1, h2⟩ | ⟨g, cap, cur, h1, h3, h4, h5⟩
  · omega
  · injection h1 with e1 e2 e3
    subst e1
    exact ⟨⟨g, 0, none⟩, rfl, heap_lt h4, fun j u hu => h.cells (by rfl) j u hu⟩
theorem own_tl {w : World} {base n c : Nat} {A : Option Addr} {L : List (List UInt8 × List UInt8)} (h : w.ownsRow base 25 2 (.slice A n c) n (tabC L)) (hn : L.length = n) : Tl w A n L := by
  refine ⟨hn, fun i hi => ?_⟩
  obtain ⟨ad, h1, h2, h3⟩ := own_cell h (by omega)
  obtain ⟨g1, g2⟩ := tabC_get L i (by omega)
  exact ⟨ad, h1, h2, h3 _ _ g1, h3 _ _ g2⟩
theorem own_al {w : World} {base n c : Nat} {A : Option Addr} {R : List Row} (h : w.ownsRow base 67 4 (.slice A n c) n (rowC R)) (hn : R.length = n) : Al w A n R := by
  refine ⟨hn, fun i hi => ?_⟩
  obtain ⟨ad, h1, h2, h3⟩ := own_cell h (by omega)
  obtain ⟨g1, g2, g3, g4⟩ := rowC_get R i (by omega)
  exact ⟨ad, h1, h2, h3 _ _ g1, h3 _ _ g2, h3 _ _ g3, h3 _ _ g4⟩
theorem own_bel {w w' : World} {base e size n : Nat} {v : Value} {xs : List Value} (h : w.ownsRow base e size v n xs) (hb : Below w.heap.size w w') : w'.ownsRow base e size v n xs := by
  refine ⟨h.1, ?_⟩
  rcases h.2 with h1 | ⟨g, cap, cur, h1, h3, h4, h5⟩
  · exact .inl h1
  · exact .inr ⟨g, cap, cur, h1, h3, (hb.block g (heap_lt h4)).trans h4, h5⟩
theorem own_not {w : World} {base e size n g : Nat} {v : Value} {xs : List Value} {cs : Array Value} {T : TypeId} {fr : Nat × Nat} (h : w.ownsRow base e size v n xs) (hg : w.heap[g]? = some (.cells cs T fr)) (hT : T ≠ e) : some g ≠ v.ownBlock := by
  intro he
  rcases h.2 with ⟨h1, h2⟩ | ⟨g2, cap, cur, h1, h3, h4, h5⟩
  · rw [h1] at he; simp [Value.ownBlock] at he
  · rw [h1] at he
    simp [Value.ownBlock] at he
    subst he
    rw [hg] at h4
    injection h4 with h4
    injection h4 with _ h4 _
    exact hT h4
theorem own_kept {w w' : World} {base e e2 size size2 n n2 : Nat} {v v2 : Value} {xs xs2 : List Value} (h : w.ownsRow base e size v n xs) (h2 : w.ownsRow base e2 size2 v2 n2 xs2) (he : e ≠ e2) (hg : w.grownBy w' v2.ownBlock) : w'.ownsRow base e size v n xs := by
  refine ⟨h.1, ?_⟩
  rcases h.2 with h1 | ⟨g, cap, cur, h1, h3, h4, h5⟩
  · exact .inl h1
  · exact .inr ⟨g, cap, cur, h1, h3, (hg.block g (heap_lt h4) (own_not h2 h4 he)).trans h4, h5⟩
theorem cells_new (w : World) (xs : List Value) (t : TypeId) : ∀ j u, xs[j]? = some u → (w.alloc (.cells xs.toArray t)).cell? ((⟨w.heap.size, 0, none⟩ : Addr).add j) = some u := by
  intro j u hu
  have e : (⟨w.heap.size, 0, none⟩ : Addr).add j = ⟨w.heap.size, j, none⟩ := by unfold Addr.add; split <;> simp_all
  rw [e, cell_of_row _ _ j _ t (0, 0) (heap_alloc_new w _)]
  simpa using hu
theorem Try.info25 : (Try.prog.info? 25).map (fun i => (i.zero, i.size, i.bytes)) = some (some (.agg #[.string ⟨#[]⟩, .string ⟨#[]⟩]), 2, 32) := by kernel_rfl
theorem Try.info67 : (Try.prog.info? 67).map (fun i => (i.zero, i.size, i.bytes)) = some (some (.agg #[.string ⟨#[]⟩, .int .u32 0, .int .u32 0, .int .u32 0]), 4, 32) := by kernel_rfl
/-- The two lists that Parse makes. -/
structure PsS (w W : World) (vo va : Value) (n1 n2 : Nat) (L : List (List UInt8 × List UInt8)) (R : List Row) : Prop where
  bel : Below w.heap.size w W
  oo : W.ownsRow w.heap.size 25 2 vo n1 (tabC L)
  oa : W.ownsRow w.heap.size 67 4 va n2 (rowC R)
theorem PsS.next {w W W' : World} {vo va : Value} {n1 n2 : Nat} {L : List (List UInt8 × List UInt8)} {R : List Row} (h : PsS w W vo va n1 n2 L R) (hb : Below W.heap.size W W') : PsS w W' vo va n1 n2 L R :=
  ⟨h.bel.trans (hb.mono h.bel.size), own_bel h.oo hb, own_bel h.oa hb⟩
theorem PsS.start {w W : World} (h : Below w.heap.size w W) : PsS w W (.slice none 0 0) (.slice none 0 0) 0 0 [] [] := ⟨h, World.ownsRow_nil _ _ _ _, World.ownsRow_nil _ _ _ _⟩
theorem below_grown {w W W' : World} {e size n : Nat} {v : Value} {xs : List Value} (h : Below w.heap.size w W) (ho : W.ownsRow w.heap.size e size v n xs) (hg : W.grownBy W' v.ownBlock) : Below w.heap.size w W' :=
  h.grown hg h.size (fun k hk => (ho.lt k hk).1)
theorem PsS.tab {w W W' : World} {vo va vo' : Value} {n1 n2 : Nat} {L : List (List UInt8 × List UInt8)} {R : List Row} {t d : List UInt8} (h : PsS w W vo va n1 n2 L R) (hg : W.grownBy W' vo.ownBlock) (ho : W'.ownsRow w.heap.size 25 2 vo' (n1 + 1) (tabC L ++ [.string ⟨t.toArray⟩, .string ⟨d.toArray⟩])) : PsS w W' vo' va (n1 + 1) n2 (L ++ [(t, d)]) R :=
  ⟨below_grown h.bel h.oo hg, by rw [tabC_snoc]; exact ho, own_kept h.oa h.oo (by decide) hg⟩
theorem PsS.row {w W W' : World} {vo va va' : Value} {n1 n2 : Nat} {L : List (List UInt8 × List UInt8)} {R : List Row} {r : Row} (h : PsS w W vo va n1 n2 L R) (hg : W.grownBy W' va.ownBlock) (ho : W'.ownsRow w.heap.size 67 4 va' (n2 + 1) (rowC R ++ [.string ⟨r.tag.toArray⟩, .int .u32 (r.sum : Int), .int .u32 (r.place : Int), .int .u32 (r.size : Int)])) : PsS w W' vo va' n1 (n2 + 1) L (R ++ [r]) :=
  ⟨below_grown h.bel h.oa hg, own_kept h.oo h.oa (by decide) hg, by rw [rowC_snoc]; exact ho⟩
theorem PsS.box {w W W' : World} {vo va : Value} {n1 n2 : Nat} {L : List (List UInt8 × List UInt8)} {R : List Row} (h : PsS w W vo va n1 n2 L R) (hg : W.grownBy W' vo.ownBlock) {g : Nat} {x : ByteArray} {a b c : Nat} (hb : Rb W g x a b c) : Rb W' g x a b c :=
  hb.of (hg.block g hb.lt (own_not h.oo hb (by decide)))
theorem PsS.al {w W : World} {vo : Value} {A : Option Addr} {n1 n2 c : Nat} {L : List (List UInt8 × List UInt8)} {R : List Row} (h : PsS w W vo (.slice A n2 c) n1 n2 L R) (hn : R.length = n2) : Al W A n2 R := own_al h.oa hn
end Go.Proofs.Ytlidagofjkilgaa
