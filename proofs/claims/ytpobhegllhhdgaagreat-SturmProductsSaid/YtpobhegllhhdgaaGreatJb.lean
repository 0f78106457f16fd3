/- Proved here: words for lists of polynomials (slices of slices of numbers) as they lie in memory, and what stands in memory behind an append of a polynomial to such a list of the call's own. No condition but a bound on the list's length. -/
import Derived.Test.YtpobhegllhhdgaaGreatJa
import Derived.Test.YtpobhegllhhdgaaGreatRa
namespace Go.Proofs.YtpobhegllhhdgaaGreat
open Go.RowKit

/-- A block that holds slices alone. -/
def OnlyS (w : World) (g : Nat) : Prop := ∀ (a : Addr) x, a.block = g → w.cell? a = some x → ∃ B p q, x = .slice B p q
theorem OnlyS.noint {w : World} {g : Nat} (h : OnlyS w g) : NoInt w g := by
  intro a k z ha he
  obtain ⟨B, p, q, hx⟩ := h a _ ha he
  cases hx
/-- What is kept where one block that holds slices alone is written. -/
def Kp (w w' : World) : Prop := ∃ g, OnlyS w g ∧ w.heap.size ≤ w'.heap.size ∧ ∀ b, b < w.heap.size → b ≠ g → w'.heap[b]? = w.heap[b]?
theorem El.kp {K : Kd} {w w' : World} {Z : Value} {z : Int} {l : Nat} (h : El K w Z z l) (hk : Kp w w') : El K w' Z z l := by
  obtain ⟨g, h1, h2, h3⟩ := hk
  exact h.other h1.noint h2 h3
theorem Pol.kp {K : Kd} {w w' : World} {v : Value} {L : List Int} {l : Nat} (h : Pol K w v L l) (hk : Kp w w') : Pol K w' v L l := by
  have hk2 := hk
  obtain ⟨g, k1, k2, k3⟩ := hk
  obtain ⟨A, c, h1, h2, h3, h4, h5⟩ := h
  refine ⟨A, c, h1, h2, h3, h4, fun ad ha => ⟨Nat.lt_of_lt_of_le (h5 ad ha).1 k2, fun i hi => ?_⟩⟩
  obtain ⟨n, B, p, q, e1, e2, e3⟩ := (h5 ad ha).2 i hi
  have hne : ad.block ≠ g := by
    intro he
    obtain ⟨B', p', q', hx⟩ := k1 (ad.add (i * 2)) _ (by rw [block_of_add]; exact he) e1
    cases hx
  have e : ∀ j, w'.cell? (ad.add j) = w.cell? (ad.add j) := fun j => World.cell?_of_block (k3 (ad.add j).block (by rw [block_of_add]; exact (h5 ad ha).1) (by rw [block_of_add]; exact hne))
  exact ⟨n, B, p, q, (e _).trans e1, (e _).trans e2, e3.kp hk2⟩
/-- The i-th polynomial of a list. -/
def pg (Ls : List (List Int)) (i : Nat) : List Int := Ls.getD i []
theorem pg_snoc {Ls : List (List Int)} {L : List Int} {i : Nat} : pg (Ls ++ [L]) i = if i < Ls.length then pg Ls i else if i = Ls.length then L else [] := by
  unfold pg
  rw [List.getD_eq_getElem?_getD, List.getElem?_append]
  split
  · rw [List.getD_eq_getElem?_getD]
  · split
    · next h => subst h; simp
    · rw [List.getElem?_eq_none (by simp; omega)]; rfl
/-- The cells hold the polynomials Ls. -/
def RwC (K : Kd) (w : World) (cells : List Value) (Ls : List (List Int)) (l : Nat) : Prop :=
  cells.length = Ls.length ∧ ∀ i, i < Ls.length → ∃ B q, cells[i]? = some (.slice B (pg Ls i).length q) ∧ Pol K w (.slice B (pg Ls i).length q) (pg Ls i) l
/-- The slice v reads as the polynomials Ls. -/
def Cn (K : Kd) (w : World) (v : Value) (Ls : List (List Int)) (l : Nat) : Prop :=
  ∃ A c, v = .slice A Ls.length c ∧ Ls.length ≤ c ∧ c ≤ maxLen ∧ ∀ i, i < Ls.length → ∃ ad B q, A = some ad ∧ ad.block < w.heap.size ∧ w.cell? (ad.add i) = some (.slice B (pg Ls i).length q) ∧ Pol K w (.slice B (pg Ls i).length q) (pg Ls i) l
section
variable {K : Kd} {w w' : World} {v : Value} {Ls : List (List Int)} {l l' : Nat} {cells : List Value}
theorem Cn.bel (h : Cn K w v Ls l) (hb : Below w.heap.size w w') : Cn K w' v Ls l := by
  obtain ⟨A, c, h1, h2, h3, h4⟩ := h
  refine ⟨A, c, h1, h2, h3, fun i hi => ?_⟩
  obtain ⟨ad, B, q, e0, e1, e2, e3⟩ := h4 i hi
  exact ⟨ad, B, q, e0, Nat.lt_of_lt_of_le e1 hb.size, by rw [hb.cell (by rw [block_of_add]; exact e1)]; exact e2, e3.bel hb⟩
theorem Cn.le (h : Cn K w v Ls l) (hl : l ≤ l') : Cn K w v Ls l' := by
  obtain ⟨A, c, h1, h2, h3, h4⟩ := h
  refine ⟨A, c, h1, h2, h3, fun i hi => ?_⟩
  obtain ⟨ad, B, q, e0, e1, e2, e3⟩ := h4 i hi
  exact ⟨ad, B, q, e0, e1, e2, e3.le hl⟩
theorem Cn.cap {A : Option Addr} {m c : Nat} (h : Cn K w (.slice A m c) Ls l) : m = Ls.length ∧ m ≤ c ∧ c ≤ maxLen := by
  obtain ⟨A', c', h1, h2, h3, _⟩ := h
  injection h1 with e1 e2 e3
  subst e1 e2 e3
  exact ⟨rfl, h2, h3⟩
theorem Cn.slice (h : Cn K w v Ls l) : ∃ A c, v = .slice A Ls.length c := by
  obtain ⟨A, c, h, _⟩ := h
  exact ⟨A, c, h⟩
theorem Cn.get {A : Option Addr} {m c : Nat} (h : Cn K w (.slice A m c) Ls l) (i : Nat) (hi : i < Ls.length) :
    ∃ ad B q, A = some ad ∧ ad.block < w.heap.size ∧ w.cell? (ad.add i) = some (.slice B (pg Ls i).length q) ∧ Pol K w (.slice B (pg Ls i).length q) (pg Ls i) l := by
  obtain ⟨A', c', h1, h2, h3, h4⟩ := h
  injection h1 with e1 e2 e3
  subst e1
  exact h4 i hi
theorem Cn.nil (K : Kd) (w : World) (l : Nat) : Cn K w (.slice none 0 0) [] l := ⟨none, 0, rfl, Nat.le_refl _, Nat.zero_le _, fun i hi => by simp at hi⟩
theorem RwC.nil (K : Kd) (w : World) (l : Nat) : RwC K w [] [] l := ⟨rfl, fun i hi => by simp at hi⟩
theorem RwC.bel (h : RwC K w cells Ls l) (hb : Below w.heap.size w w') : RwC K w' cells Ls l :=
  ⟨h.1, fun i hi => by obtain ⟨B, q, e1, e2⟩ := h.2 i hi; exact ⟨B, q, e1, e2.bel hb⟩⟩
theorem RwC.le (h : RwC K w cells Ls l) (hl : l ≤ l') : RwC K w cells Ls l' :=
  ⟨h.1, fun i hi => by obtain ⟨B, q, e1, e2⟩ := h.2 i hi; exact ⟨B, q, e1, e2.le hl⟩⟩
theorem RwC.kp (h : RwC K w cells Ls l) (hk : Kp w w') : RwC K w' cells Ls l :=
  ⟨h.1, fun i hi => by obtain ⟨B, q, e1, e2⟩ := h.2 i hi; exact ⟨B, q, e1, e2.kp hk⟩⟩
theorem RwC.snoc (h : RwC K w cells Ls l) {B : Option Addr} {q : Nat} {L : List Int} (hz : Pol K w (.slice B L.length q) L l) : RwC K w (cells ++ [.slice B L.length q]) (Ls ++ [L]) l := by
  have hl := h.1
  refine ⟨by simp [hl], fun i hi => ?_⟩
  simp at hi
  rcases Nat.lt_or_ge i Ls.length with h1 | h1
  · obtain ⟨B', q', e1, e2⟩ := h.2 i h1
    rw [pg_snoc, if_pos h1]
    exact ⟨B', q', by rw [List.getElem?_append_left (by omega)]; exact e1, e2⟩
  · obtain rfl : i = Ls.length := by omega
    rw [pg_snoc, if_neg (by omega), if_pos rfl]
    exact ⟨B, q, by rw [List.getElem?_append_right (by omega), show Ls.length - cells.length = 0 by omega]; rfl, hz⟩
/-- Values that are slices. -/
def Sl (l : List Value) : Prop := ∀ x ∈ l, ∃ B p q, x = .slice B p q
theorem RwC.sl (h : RwC K w cells Ls l) : Sl cells := by
  intro x hx
  obtain ⟨i, hi, rfl⟩ := List.getElem_of_mem hx
  obtain ⟨B, q, e1, e2⟩ := h.2 i (by have := h.1; omega)
  rw [List.getElem?_eq_getElem hi] at e1
  exact ⟨B, _, q, Option.some.inj e1⟩
theorem Sl.app {l m : List Value} (h : Sl l) (h' : Sl m) : Sl (l ++ m) := fun x hx => (List.mem_append.1 hx).elim (h x) (h' x)
theorem Sl.drop {l : List Value} (h : Sl l) (n : Nat) : Sl (l.drop n) := fun x hx => h x (List.mem_of_mem_drop hx)
theorem Sl.only {g : Nat} {l : List Value} {T : TypeId} (h : Sl l) (hh : w.heap[g]? = some (.cells l.toArray T (0, 0))) : OnlyS w g := by
  intro a x ha he
  unfold World.cell? at he
  rw [ha, hh] at he
  by_cases hs : a.spot.isSome
  · simp [hs] at he
  · simp [hs] at he
    exact h _ (List.mem_of_getElem? he)
theorem sl_zero (n : Nat) : Sl (Builtin.zeroCells (Value.slice none 0 0).cells n).toList := by
  intro x hx
  have e : (Value.slice none 0 0).cells = #[.slice none 0 0] := rfl
  rw [e] at hx
  simp [Builtin.zeroCells, Nat.mod_one] at hx
  exact ⟨none, 0, 0, hx.2.symm⟩
theorem only_new (w : World) : OnlyS w w.heap.size := by
  intro a x ha he
  unfold World.cell? at he
  rw [ha, Array.getElem?_eq_none (Nat.le_refl _)] at he
  cases he
end
/-- A list of polynomials that the call itself makes. -/
def Rc (K : Kd) (T : TypeId) (w : World) (base : Nat) (v : Value) (Ls : List (List Int)) (l : Nat) : Prop :=
  (v = .slice none 0 0 ∧ Ls = []) ∨ ∃ g cap cells rest, v = .slice (some ⟨g, 0, none⟩) Ls.length cap ∧ base ≤ g ∧ w.heap[g]? = some (.cells (cells ++ rest).toArray T (0, 0)) ∧ Ls.length ≤ cap ∧ cap ≤ maxLen ∧
    cells.length + rest.length = cap ∧ Sl rest ∧ RwC K w cells Ls l
section
variable {K : Kd} {T : TypeId} {w w' : World} {base : Nat} {v : Value} {Ls : List (List Int)} {l l' : Nat}
theorem Rc.nil (w : World) (base l : Nat) : Rc K T w base (.slice none 0 0) [] l := .inl ⟨rfl, rfl⟩
theorem Rc.form (h : Rc K T w base v Ls l) : ∃ A c, v = .slice A Ls.length c := by
  rcases h with ⟨h1, h2⟩ | ⟨g, cap, cells, rest, h1, _⟩
  · exact ⟨none, 0, by rw [h1, h2]; rfl⟩
  · exact ⟨_, _, h1⟩
theorem Rc.bel (h : Rc K T w base v Ls l) (hb : Below w.heap.size w w') : Rc K T w' base v Ls l := by
  rcases h with h | ⟨g, cap, cells, rest, h1, h2, h3, h4, h5, h6, h7, h8⟩
  · exact .inl h
  · exact .inr ⟨g, cap, cells, rest, h1, h2, (hb.block g (heap_lt h3)).trans h3, h4, h5, h6, h7, h8.bel hb⟩
theorem Rc.le (h : Rc K T w base v Ls l) (hl : l ≤ l') : Rc K T w base v Ls l' := by
  rcases h with h | ⟨g, cap, cells, rest, h1, h2, h3, h4, h5, h6, h7, h8⟩
  · exact .inl h
  · exact .inr ⟨g, cap, cells, rest, h1, h2, h3, h4, h5, h6, h7, h8.le hl⟩
theorem Rc.drew (h : Rc K T w base v Ls l) : Rc K T w.drew base v Ls l := h.bel ((Below.refl _ _).drew)
theorem Rc.cn (h : Rc K T w base v Ls l) : Cn K w v Ls l := by
  rcases h with ⟨h1, h2⟩ | ⟨g, cap, cells, rest, h1, h2, h3, h4, h5, h6, h7, h8⟩
  · rw [h1, h2]; exact Cn.nil K w l
  · refine ⟨_, cap, h1, h4, h5, fun i hi => ?_⟩
    obtain ⟨B, q, e1, e2⟩ := h8.2 i hi
    have hl := h8.1
    refine ⟨_, B, q, rfl, heap_lt h3, ?_, e2⟩
    rw [add_at, cell_of_row w g i _ T (0, 0) h3, ← e1]
    simp
    rw [List.getElem?_append_left (by omega)]
end
theorem Tryz.info22 : (Tryz.prog.info? 22).map (fun i => (i.zero, i.size, i.bytes)) = some (some (.slice none 0 0), 1, 24) := by kernel_rfl
theorem Tryz.info27 : (Tryz.prog.info? 27).map (fun i => (i.zero, i.size, i.bytes)) = some (some (.slice none 0 0), 1, 24) := by kernel_rfl
/-- Behind an append: the list, and what is kept. -/
structure PushC (K : Kd) (T : TypeId) (wr w' : World) (base : Nat) (v' : Value) (Ls : List (List Int)) (L : List Int) (l : Nat) (B : Option Addr) (q : Nat) : Prop where
  R : Rc K T w' base v' (Ls ++ [L]) l
  bel : Below base wr w'
  kp : Kp wr w'
  last : ∃ a c, v' = .slice (some a) (Ls.length + 1) c ∧ a.block < w'.heap.size ∧ w'.cell? (a.add Ls.length) = some (.slice B L.length q)
theorem last_of {w : World} {g cap : Nat} {T : TypeId} {cells rest : List Value} {x : Value} {n k : Nat} (h : w.heap[g]? = some (.cells (cells ++ [x] ++ rest).toArray T (0, 0))) (hc : cells.length = n) (hk : k = n + 1) {y : Value} (hy : x = y) :
    ∃ a c, Value.slice (some ⟨g, 0, none⟩) k cap = .slice (some a) (n + 1) c ∧ a.block < w.heap.size ∧ w.cell? (a.add n) = some y := by
  subst hk hy
  refine ⟨_, _, rfl, heap_lt h, ?_⟩
  rw [add_at, cell_of_row w g n _ T (0, 0) h, ← hc]
  simp
theorem run_pushC {S T : TypeId} (hu : Tryz.prog.underlying S = some (.slice T)) (hinf : (Tryz.prog.info? T).map (fun i => (i.zero, i.size, i.bytes)) = some (some (.slice none 0 0), 1, 24)) {K : Kd}
    (ty : TypeId) (wr : World) (base : Nat) (v : Value) (Ls : List (List Int)) (l : Nat) (B : Option Addr) (q : Nat) (L : List Int) (hR : Rc K T wr base v Ls l) (hz : Pol K wr (.slice B L.length q) L l) (hbase : base ≤ wr.heap.size) (hn : Ls.length ≤ 1000000) :
    ∃ v' w', (Builtin.append_ #[S, S] ty #[v, .slice (some ⟨wr.heap.size, 0, none⟩) 1 1]).run Tryz.prog (wr.alloc (.cells #[.slice B L.length q] T)) = .ok v' w' ∧ PushC K T wr w' base v' Ls L l B q := by
  obtain ⟨i0, hi0, hz0, hz1, hz2⟩ := info_parts hinf
  obtain ⟨W, hW⟩ : ∃ W, W = wr.alloc (.cells #[.slice B L.length q] T) := ⟨_, rfl⟩
  rw [← hW]
  have hWs : W.heap.size = wr.heap.size + 1 := by rw [hW]; simp
  have hbW : Below wr.heap.size wr W := by rw [hW]; exact bel_a _ _
  have hR2 : Rc K T W base v Ls l := hR.bel hbW
  have hz3 : Pol K W (.slice B L.length q) L l := hz.bel hbW
  have hnew : W.heap[wr.heap.size]? = some (.cells #[.slice B L.length q] T) := by rw [hW]; exact heap_alloc_new wr _
  have hnews : ∀ (j : Nat) u, [Value.slice B L.length q][j]? = some u → W.cell? ((⟨wr.heap.size, 0, none⟩ : Addr).add j) = some u := by
    intro j u hu
    rw [add_at, cell_of_row W wr.heap.size j _ T (0, 0) hnew]
    simpa using hu
  have h1c : ∀ u ∈ [Value.slice B L.length q], u.oneCell' = true := by
    intro u hu
    simp at hu
    rw [hu]; rfl
  have hlen : (Ls ++ [L]).length = Ls.length + 1 := by simp
  rcases hR2 with ⟨rfl, rfl⟩ | ⟨g, cap, cells, rest, rfl, h2, h3, h4, h5, h6, h7, h8⟩
  · have hr := run_append_nil (P := Tryz.prog) W S ty T i0 _ hu hi0 hz0 ⟨wr.heap.size, 0, none⟩ 1 1 [.slice B L.length q] (by rw [hz1]; rfl) hnews (by omega) (by omega) (by rw [hz2]; omega)
    have hge := grownCap_ge W 1 0 T
    have hcm := grownCap_le_maxLen W 1 0 T (by unfold maxLen; omega)
    have hB : Below wr.heap.size wr (W.drew.alloc (.cells ([Value.slice B L.length q].toArray ++ Builtin.zeroCells (Value.slice none 0 0).cells (grownCap W 1 0 T - 1)) T)) := (hbW.drew).alloc (by show wr.heap.size ≤ W.heap.size; omega) _
    have hh : (W.drew.alloc (.cells ([Value.slice B L.length q].toArray ++ Builtin.zeroCells (Value.slice none 0 0).cells (grownCap W 1 0 T - 1)) T)).heap[W.heap.size]? = some (.cells ([Value.slice B L.length q] ++ (Builtin.zeroCells (Value.slice none 0 0).cells (grownCap W 1 0 T - 1)).toList).toArray T (0, 0)) := by
      rw [show W.heap.size = W.drew.heap.size from rfl]
      rw [heap_alloc_new W.drew]
      simp
    refine ⟨_, _, hr, .inr ⟨W.heap.size, grownCap W 1 0 T, [.slice B L.length q], (Builtin.zeroCells (Value.slice none 0 0).cells (grownCap W 1 0 T - 1)).toList, rfl, by omega, hh, hge, hcm, ?_, sl_zero _, ?_⟩, hB.mono hbase, ⟨wr.heap.size, only_new wr, hB.size, fun b hb _ => hB.block b hb⟩, last_of (cells := []) hh rfl rfl rfl⟩
    · have : (Builtin.zeroCells (Value.slice none 0 0).cells (grownCap W 1 0 T - 1)).size = (grownCap W 1 0 T - 1) * 1 := size_zeroCells _ _
      simp only [Array.length_toList, List.length_cons, List.length_nil, this]
      omega
    · exact (RwC.nil K _ l).snoc (hz3.drew.bel (bel_a _ _))
  · by_cases hroom : Ls.length + 1 ≤ cap
    · have hcl := h8.1
      have hr := run_append_room (P := Tryz.prog) W S ty T i0 hu hi0 g Ls.length cap _ h3 ⟨wr.heap.size, 0, none⟩ 1 1 [.slice B L.length q] (by rw [hz1]; rfl) hnews h1c hroom (by
        rw [hz1]; simp; omega)
      have hni : OnlyS W g := (h8.sl.app h7).only h3
      have hgs := heap_lt h3
      have hoth : ∀ (cs : Array Value) k, k < W.heap.size → k ≠ g → (W.setRow g cs).heap[k]? = W.heap[k]? := fun cs k _ hk => setRow_other W g k cs hk
      have hkp : ∀ cs, Kp W (W.setRow g cs) := fun cs => ⟨g, hni, by simp, hoth cs⟩
      have hh : (W.setRow g ((cells ++ rest).toArray.toList.take (Ls.length * i0.size) ++ [Value.slice B L.length q] ++ (cells ++ rest).toArray.toList.drop (Ls.length * i0.size + [Value.slice B L.length q].length)).toArray).heap[g]? = some (.cells (cells ++ [Value.slice B L.length q] ++ rest.drop 1).toArray T (0, 0)) := by
        rw [setRow_heap W g _ _ T (0, 0) h3, hz1]
        have e9 : (cells ++ rest).toArray.toList.take (Ls.length * 1) ++ [Value.slice B L.length q] ++ (cells ++ rest).toArray.toList.drop (Ls.length * 1 + [Value.slice B L.length q].length) = cells ++ [.slice B L.length q] ++ rest.drop 1 := by
          rw [show Ls.length * 1 = cells.length by omega, show (cells ++ rest).toArray.toList = cells ++ rest from rfl, List.take_left, List.length_cons, List.length_nil, ← List.drop_drop, List.drop_left]
        rw [e9]
      refine ⟨_, _, hr, .inr ⟨g, cap, cells ++ [.slice B L.length q], rest.drop 1, by rw [hlen], h2, hh, by rw [hlen]; exact hroom, h5, ?_, h7.drop 1, ?_⟩, ?_, ⟨g, ?_, by simp; omega, fun k hk hne => (hoth _ k (by omega) hne).trans (hbW.block k hk)⟩, last_of hh hcl rfl rfl⟩
      · simp; omega
      · exact (h8.kp (hkp _)).snoc (hz3.kp (hkp _))
      · refine Below.trans (hbW.mono hbase) ⟨rfl, rfl, rfl, by simp, fun k hk => hoth _ k (by omega) (by omega)⟩
      · intro a x ha he
        refine hni a x ha ?_
        have hl := World.block_lt_of_cell? wr a he
        rw [hbW.cell hl]
        exact he
    · have hcl := h8.1
      have holds : ∀ (j : Nat) u, cells[j]? = some u → W.cell? ((⟨g, 0, none⟩ : Addr).add j) = some u := by
        intro j u hu
        rw [add_at, cell_of_row W g j _ T (0, 0) h3]
        have hj : j < cells.length := by
          rcases Nat.lt_or_ge j cells.length with h | h
          · exact h
          · rw [List.getElem?_eq_none h] at hu; cases hu
        simp
        rw [List.getElem?_append_left hj]
        exact hu
      have hr := run_append_grow (P := Tryz.prog) W S ty T i0 _ hu hi0 hz0 ⟨g, 0, none⟩ Ls.length cap cells (by rw [hz1]; omega) holds ⟨wr.heap.size, 0, none⟩ 1 1 [.slice B L.length q] (by rw [hz1]; rfl) hnews (by omega) (by omega)
        (growslice_fits (by omega) (by rw [hz2]; omega))
      have hge := grownCap_ge W (Ls.length + 1) cap T
      have hcm := grownCap_le_maxLen W (Ls.length + 1) cap T (by unfold maxLen; omega)
      have hB : Below wr.heap.size wr (W.drew.alloc (.cells (cells.toArray ++ [Value.slice B L.length q].toArray ++ Builtin.zeroCells (Value.slice none 0 0).cells (grownCap W (Ls.length + 1) cap T - (Ls.length + 1))) T)) := (hbW.drew).alloc (by show wr.heap.size ≤ W.heap.size; omega) _
      have hh : (W.drew.alloc (.cells (cells.toArray ++ [Value.slice B L.length q].toArray ++ Builtin.zeroCells (Value.slice none 0 0).cells (grownCap W (Ls.length + 1) cap T - (Ls.length + 1))) T)).heap[W.heap.size]? = some (.cells (cells ++ [Value.slice B L.length q] ++ (Builtin.zeroCells (Value.slice none 0 0).cells (grownCap W (Ls.length + 1) cap T - (Ls.length + 1))).toList).toArray T (0, 0)) := by
        rw [show W.heap.size = W.drew.heap.size from rfl]
        rw [heap_alloc_new W.drew]
        simp
      refine ⟨_, _, hr, .inr ⟨W.heap.size, grownCap W (Ls.length + 1) cap T, cells ++ [.slice B L.length q], (Builtin.zeroCells (Value.slice none 0 0).cells (grownCap W (Ls.length + 1) cap T - (Ls.length + 1))).toList, by rw [hlen], by omega, hh, by rw [hlen]; exact hge, hcm, ?_, sl_zero _, ?_⟩, hB.mono hbase, ⟨wr.heap.size, only_new wr, hB.size, fun b hb _ => hB.block b hb⟩, last_of hh hcl rfl rfl⟩
      · have : (Builtin.zeroCells (Value.slice none 0 0).cells (grownCap W (Ls.length + 1) cap T - (Ls.length + 1))).size = (grownCap W (Ls.length + 1) cap T - (Ls.length + 1)) * 1 := size_zeroCells _ _
        simp only [Array.length_toList, List.length_append, List.length_cons, List.length_nil, this]
        omega
      · exact (h8.bel ((Below.refl _ W).drew.alloc (Nat.le_refl _) _)).snoc (hz3.drew.bel (bel_a _ _))
theorem wpList_pushC {S T : TypeId} (hu : Tryz.prog.underlying S = some (.slice T)) (hinf : (Tryz.prog.info? T).map (fun i => (i.zero, i.size, i.bytes)) = some (some (.slice none 0 0), 1, 24)) {K : Kd}
    {ops : Array Oper} {rest : List Oper} {o : Oper} {a : Act} {Q : Exit → Act → World → Prop} {wr : World} (hgd : o.guard = none) (s x : Operand)
    (ho : o.op = .call { callee := .builtin .append, args := #[s, x], argTypes := #[S, S] }) (base : Nat) (v : Value) (Ls : List (List Int)) (l : Nat) (B : Option Addr) (n q : Nat) (L : List Int) (hnL : n = L.length) (hs : a.eval s = v)
    (hR : Rc K T wr base v Ls l) (hz : Pol K wr (.slice B n q) L l) (hbase : base ≤ wr.heap.size) (hn : Ls.length ≤ 1000000) (hx : a.eval x = .slice (some ⟨wr.heap.size, 0, none⟩) 1 1)
    (h : ∀ v' w', PushC K T wr w' base v' Ls L l B q → wpList Tryz.prog ops Q rest (a.put o.dst v') w') : wpList Tryz.prog ops Q (o :: rest) a (wr.alloc (.cells #[.slice B n q] T)) :=
  wpList_plain hgd fun _ hK => by
    subst hnL
    obtain ⟨v', w', hr, h2⟩ := run_pushC hu hinf o.type wr base v Ls l B q L hR hz hbase hn
    unfold Oper.wp execOp
    simp only [ho, resolve, invoke, builtin, Sem.run_bind, Sem.run_pure, Result.andThen_ok, List.map_toArray, List.map_cons, List.map_nil, hs, hx, hr]
    exact hK _ _ (h v' w' h2)
end Go.Proofs.YtpobhegllhhdgaaGreat
