/- Proved here: a number of the document is appended to a row of the call's own, whose numbers lie in blocks of their own. No condition but a bound on the row's length. -/
import Derived.Test.YtpobhegllhhdgaaGreatPb
import Derived.Laws.AppendOwn
import Derived.Laws.Append
namespace Go.Proofs.YtpobhegllhhdgaaGreat
open Go.RowKit

theorem Tryz.info69 : (Tryz.prog.info? 69).map (fun i => (i.zero, i.size, i.bytes)) = some (some (.agg #[.bool false, .slice none 0 0]), 2, 32) := by kernel_rfl
theorem Arr.other {w w' : World} {k : IntKind} {v : Value} {xs : List Nat} (h : Arr w k v xs) {g : Nat} (hg : NoInt w g) (hs : w.heap.size ≤ w'.heap.size) (hb : ∀ b, b < w.heap.size → b ≠ g → w'.heap[b]? = w.heap[b]?) : Arr w' k v xs := by
  obtain ⟨A, c, h1, h2, h3, h4, h5⟩ := h
  refine ⟨A, c, h1, h2, h3, h4, fun ad ha => ⟨fun h0 => Nat.lt_of_lt_of_le ((h5 ad ha).1 h0) hs, fun i hi => ?_⟩⟩
  have h6 := (h5 ad ha).2 i hi
  have h7 : (ad.add i).block ≠ g := fun he => hg _ _ _ he h6
  rw [World.cell?_of_block (hb (ad.add i).block (by rw [block_of_add]; exact (h5 ad ha).1 (by omega)) h7)]
  exact h6
theorem El.other {K : Kd} {w w' : World} {Z : Value} {z : Int} {l : Nat} (h : El K w Z z l) {g : Nat} (hg : NoInt w g) (hs : w.heap.size ≤ w'.heap.size) (hb : ∀ b, b < w.heap.size → b ≠ g → w'.heap[b]? = w.heap[b]?) : El K w' Z z l := by
  cases K
  all_goals
    obtain ⟨n, v, xs, h1, h2, h3⟩ := h
    exact ⟨n, v, xs, h1, h2.other hg hs hb, h3⟩
theorem Rw.other {K : Kd} {w w' : World} {cells : List Value} {L : List Int} {l : Nat} (h : Rw K w cells L l) {g : Nat} (hg : NoInt w g) (hs : w.heap.size ≤ w'.heap.size) (hb : ∀ b, b < w.heap.size → b ≠ g → w'.heap[b]? = w.heap[b]?) : Rw K w' cells L l :=
  ⟨h.1, fun i hi => by obtain ⟨n, B, p, q, e1, e2, e3⟩ := h.2 i hi; exact ⟨n, B, p, q, e1, e2, e3.other hg hs hb⟩⟩
/-- Values that are no integers. -/
def Qt (l : List Value) : Prop := ∀ x ∈ l, ∀ k z, x ≠ .int k z
theorem Rw.qt {K : Kd} {w : World} {cells : List Value} {L : List Int} {l : Nat} (h : Rw K w cells L l) : Qt cells := by
  intro x hx k z he
  obtain ⟨i, hi, rfl⟩ := List.getElem_of_mem hx
  have hl := h.1
  obtain ⟨n, B, p, q, e1, e2, e3⟩ := h.2 (i / 2) (by omega)
  have hs : cells[i]? = some cells[i] := List.getElem?_eq_getElem hi
  rcases Nat.mod_two_eq_zero_or_one i with hm | hm
  · rw [show 2 * (i / 2) = i by omega, hs, he] at e1; cases e1
  · rw [show 2 * (i / 2) + 1 = i by omega, hs, he] at e2; cases e2
theorem Qt.app {l m : List Value} (h : Qt l) (h' : Qt m) : Qt (l ++ m) := fun x hx => (List.mem_append.1 hx).elim (h x) (h' x)
theorem Qt.drop {l : List Value} (h : Qt l) (n : Nat) : Qt (l.drop n) := fun x hx => h x (List.mem_of_mem_drop hx)
theorem Qt.noint {w : World} {g : Nat} {l : List Value} {T : TypeId} (h : Qt l) (hh : w.heap[g]? = some (.cells l.toArray T (0, 0))) : NoInt w g := by
  intro a k z ha he
  unfold World.cell? at he
  rw [ha, hh] at he
  by_cases hs : a.spot.isSome
  · simp [hs] at he
  · simp [hs] at he
    exact h _ (List.mem_of_getElem? he) k z rfl
theorem qt_zero (n : Nat) : Qt (Builtin.zeroCells (Value.agg #[.bool false, .slice none 0 0]).cells n).toList := by
  intro x hx k z he
  have e : (Value.agg #[.bool false, .slice none 0 0]).cells = #[.bool false, .slice none 0 0] := rfl
  rw [e] at hx
  simp [Builtin.zeroCells] at hx
  obtain ⟨i, hi, h⟩ := hx
  have h2 : i % 2 = 0 ∨ i % 2 = 1 := Nat.mod_two_eq_zero_or_one i
  rcases h2 with h2 | h2 <;> (rw [h2] at h; simp at h; rw [← h] at he; cases he)
/-- A row of the call's own holds the numbers L. -/
def Rn (w : World) (base : Nat) (v : Value) (L : List Int) (l : Nat) : Prop :=
  (v = .slice none 0 0 ∧ L = []) ∨ ∃ g cap cells rest, v = .slice (some ⟨g, 0, none⟩) L.length cap ∧ base ≤ g ∧ w.heap[g]? = some (.cells (cells ++ rest).toArray 69 (0, 0)) ∧ L.length ≤ cap ∧ cap ≤ maxLen ∧
    cells.length + rest.length = cap * 2 ∧ Qt rest ∧ Rw .n w cells L l
section
variable {w w' : World} {base : Nat} {v : Value} {L : List Int} {l l' : Nat}
theorem Rn.nil (w : World) (base l : Nat) : Rn w base (.slice none 0 0) [] l := .inl ⟨rfl, rfl⟩
theorem Rn.form (h : Rn w base v L l) : ∃ A c, v = .slice A L.length c := by
  rcases h with ⟨h1, h2⟩ | ⟨g, cap, cells, rest, h1, _⟩
  · exact ⟨none, 0, by rw [h1, h2]; rfl⟩
  · exact ⟨_, _, h1⟩
theorem heap_lt {w : World} {g : Nat} {o : Obj} (h : w.heap[g]? = some o) : g < w.heap.size := by
  rcases Nat.lt_or_ge g w.heap.size with hl | hl
  · exact hl
  · rw [Array.getElem?_eq_none hl] at h; cases h
theorem Rn.bel (h : Rn w base v L l) (hb : Below w.heap.size w w') : Rn w' base v L l := by
  rcases h with h | ⟨g, cap, cells, rest, h1, h2, h3, h4, h5, h6, h7, h8⟩
  · exact .inl h
  · exact .inr ⟨g, cap, cells, rest, h1, h2, (hb.block g (heap_lt h3)).trans h3, h4, h5, h6, h7, h8.bel hb⟩
theorem Rn.le (h : Rn w base v L l) (hl : l ≤ l') : Rn w base v L l' := by
  rcases h with h | ⟨g, cap, cells, rest, h1, h2, h3, h4, h5, h6, h7, h8⟩
  · exact .inl h
  · exact .inr ⟨g, cap, cells, rest, h1, h2, h3, h4, h5, h6, h7, h8.le hl⟩
theorem Rn.drew (h : Rn w base v L l) : Rn w.drew base v L l := h.bel ((Below.refl _ _).drew)
theorem Rn.blk {a : Addr} {m c : Nat} (h : Rn w base (.slice (some a) m c) L l) : a.block < w.heap.size := by
  rcases h with ⟨h1, _⟩ | ⟨g, cap, cells, rest, h1, h2, h3, _⟩
  · cases h1
  · injection h1 with e1
    injection e1 with e1
    rw [e1]
    exact heap_lt h3
theorem Rn.store {T : TypeId} {g : Nat} {n : Bool} {B : Option Addr} {p q : Nat} (h : Rn w base v L l) (hg : Bx T w g n (.slice B p q)) (hT : ∀ a m c, v = .slice (some a) m c → a.block ≠ g) (b' : Bool) (B' : Option Addr) (p' q' : Nat) :
    Rn ((w.setCell ⟨g, 0, none⟩ (.bool b')).setCell ⟨g, 1, none⟩ (.slice B' p' q')) base v L l := by
  have hn : NoInt w g := by
    intro a k z ha he
    have hh := hg
    unfold Bx at hh
    unfold World.cell? at he
    rw [ha, hh] at he
    by_cases hs : a.spot.isSome
    · simp [hs] at he
    · obtain ⟨o, ho⟩ : ∃ o, o = a.off := ⟨_, rfl⟩
      simp [hs, ← ho] at he
      rcases o with _ | _ | j <;> simp at he
  rcases h with h | ⟨g', cap, cells, rest, h1, h2, h3, h4, h5, h6, h7, h8⟩
  · exact .inl h
  · have hne : g' ≠ g := hT _ _ _ h1
    have e1 : ∀ (W : World) (j : Nat) (x : Value) (b : Nat), b ≠ g → (W.setCell ⟨g, j, none⟩ x).heap[b]? = W.heap[b]? := fun W j x b hb => Below.heap_setCell W ⟨g, j, none⟩ x b hb
    refine .inr ⟨g', cap, cells, rest, h1, h2, ?_, h4, h5, h6, h7, h8.other hn (by simp [World.setCell]) fun b _ hb => ?_⟩
    · rw [e1 _ _ _ _ hne, e1 _ _ _ _ hne]; exact h3
    · rw [e1 _ _ _ _ hb, e1 _ _ _ _ hb]
theorem Rn.pol (h : Rn w base v L l) : Pol .n w v L l := by
  rcases h with ⟨h1, h2⟩ | ⟨g, cap, cells, rest, h1, h2, h3, h4, h5, h6, h7, h8⟩
  · rw [h1, h2]; exact Pol.nil .n w l
  · refine ⟨_, cap, h1, h4, h5, (fun h => by cases h), fun ad ha => ?_⟩
    injection ha with ha
    subst ha
    refine ⟨heap_lt h3, fun i hi => ?_⟩
    obtain ⟨n, B, p, q, e1, e2, e3⟩ := h8.2 i hi
    have hl := h8.1
    refine ⟨n, B, p, q, ?_, ?_, e3⟩
    · rw [add_at, cell_of_row w g _ _ _ (0, 0) h3, show i * 2 = 2 * i by omega, ← e1]
      simp
      rw [List.getElem?_append_left (by omega)]
    · rw [add_at, cell_of_row w g _ _ _ (0, 0) h3, show i * 2 + 1 = 2 * i + 1 by omega, ← e2]
      simp
      rw [List.getElem?_append_left (by omega)]
end
theorem run_push (ty : TypeId) (wr : World) (base : Nat) (v : Value) (L : List Int) (l : Nat) (b : Bool) (B : Option Addr) (p q : Nat) (z : Int) (hR : Rn wr base v L l) (hz : El .n wr (.agg #[.bool b, .slice B p q]) z l) (hbase : base ≤ wr.heap.size) (hn : L.length ≤ 1000000) :
    ∃ v' w', (Builtin.append_ #[27, 27] ty #[v, .slice (some ⟨wr.heap.size, 0, none⟩) 1 1]).run Tryz.prog (wr.alloc (.cells #[.bool b, .slice B p q] 69)) = .ok v' w' ∧ Rn w' base v' (L ++ [z]) l ∧ Below base wr w' := by
  obtain ⟨i0, hi0, hz0, hz1, hz2⟩ := info_parts Tryz.info69
  obtain ⟨W, hW⟩ : ∃ W, W = wr.alloc (.cells #[.bool b, .slice B p q] 69) := ⟨_, rfl⟩
  rw [← hW]
  have hWs : W.heap.size = wr.heap.size + 1 := by rw [hW]; simp
  have hbW : Below wr.heap.size wr W := by rw [hW]; exact bel_a _ _
  have hR2 : Rn W base v L l := hR.bel hbW
  have hz3 : El .n W (.agg #[.bool b, .slice B p q]) z l := hz.bel hbW
  have hnew : W.heap[wr.heap.size]? = some (.cells #[.bool b, .slice B p q] 69) := by rw [hW]; exact heap_alloc_new wr _
  have hnews : ∀ (j : Nat) u, [Value.bool b, .slice B p q][j]? = some u → W.cell? ((⟨wr.heap.size, 0, none⟩ : Addr).add j) = some u := by
    intro j u hu
    rw [add_at, cell_of_row W wr.heap.size j _ 69 (0, 0) hnew]
    simpa using hu
  have h1c : ∀ u ∈ [Value.bool b, .slice B p q], u.oneCell' = true := by
    intro u hu
    simp at hu
    rcases hu with rfl | rfl <;> rfl
  have hlen : (L ++ [z]).length = L.length + 1 := by simp
  rcases hR2 with ⟨rfl, rfl⟩ | ⟨g, cap, cells, rest, rfl, h2, h3, h4, h5, h6, h7, h8⟩
  · have hr := run_append_nil (P := Tryz.prog) W 27 ty 69 i0 _ Tryz.underlying27 hi0 hz0 ⟨wr.heap.size, 0, none⟩ 1 1 [.bool b, .slice B p q] (by rw [hz1]; rfl) hnews (by omega) (by omega) (by rw [hz2]; omega)
    have hge := grownCap_ge W 1 0 69
    have hcm := grownCap_le_maxLen W 1 0 69 (by unfold maxLen; omega)
    refine ⟨_, _, hr, .inr ⟨W.heap.size, grownCap W 1 0 69, [.bool b, .slice B p q], (Builtin.zeroCells (Value.agg #[.bool false, .slice none 0 0]).cells (grownCap W 1 0 69 - 1)).toList, rfl, by omega, ?_, hge, hcm, ?_, qt_zero _, ?_⟩, ?_⟩
    · rw [show W.heap.size = W.drew.heap.size from rfl]
      rw [heap_alloc_new W.drew]
      simp
    · have : (Builtin.zeroCells (Value.agg #[.bool false, .slice none 0 0]).cells (grownCap W 1 0 69 - 1)).size = (grownCap W 1 0 69 - 1) * 2 := size_zeroCells _ _
      simp only [Array.length_toList, List.length_cons, List.length_nil, this]
      omega
    · have := (Rw.nil .n (W.drew.alloc (.cells ([Value.bool b, .slice B p q].toArray ++ Builtin.zeroCells (Value.agg #[.bool false, .slice none 0 0]).cells (grownCap W 1 0 69 - 1)) 69)) l).snoc (hz3.drew.bel (bel_a _ _))
      exact this
    · exact ((hbW.mono hbase).drew).alloc (by show base ≤ W.heap.size; omega) _
  · by_cases hroom : L.length + 1 ≤ cap
    · have hcl := h8.1
      have hr := run_append_room (P := Tryz.prog) W 27 ty 69 i0 Tryz.underlying27 hi0 g L.length cap _ h3 ⟨wr.heap.size, 0, none⟩ 1 1 [.bool b, .slice B p q] (by rw [hz1]; rfl) hnews h1c hroom (by
        rw [hz1]; simp; omega)
      have hni : NoInt W g := (h8.qt.app h7).noint h3
      have hgs := heap_lt h3
      have hoth : ∀ (cs : Array Value) k, k < W.heap.size → k ≠ g → (W.setRow g cs).heap[k]? = W.heap[k]? := fun cs k _ hk => setRow_other W g k cs hk
      refine ⟨_, _, hr, .inr ⟨g, cap, cells ++ [.bool b, .slice B p q], rest.drop 2, by rw [hlen], h2, ?_, by rw [hlen]; exact hroom, h5, ?_, h7.drop 2, ?_⟩, ?_⟩
      · rw [setRow_heap W g _ _ 69 (0, 0) h3, hz1]
        have e9 : (cells ++ rest).toArray.toList.take (L.length * 2) ++ [Value.bool b, .slice B p q] ++ (cells ++ rest).toArray.toList.drop (L.length * 2 + [Value.bool b, .slice B p q].length) = cells ++ [.bool b, .slice B p q] ++ rest.drop 2 := by
          rw [show L.length * 2 = cells.length by omega, show (cells ++ rest).toArray.toList = cells ++ rest from rfl, List.take_left, List.length_cons, List.length_cons, List.length_nil, ← List.drop_drop, List.drop_left]
        rw [e9]
      · simp; omega
      · exact (h8.other hni (by simp) (hoth _)).snoc (hz3.other hni (by simp) (hoth _))
      · refine Below.trans (hbW.mono hbase) ⟨rfl, rfl, rfl, by simp, fun k hk => hoth _ k (by omega) (by omega)⟩
    · have hcl := h8.1
      have holds : ∀ (j : Nat) u, cells[j]? = some u → W.cell? ((⟨g, 0, none⟩ : Addr).add j) = some u := by
        intro j u hu
        rw [add_at, cell_of_row W g j _ 69 (0, 0) h3]
        have hj : j < cells.length := by
          rcases Nat.lt_or_ge j cells.length with h | h
          · exact h
          · rw [List.getElem?_eq_none h] at hu; cases hu
        simp
        rw [List.getElem?_append_left hj]
        exact hu
      have hr := run_append_grow (P := Tryz.prog) W 27 ty 69 i0 _ Tryz.underlying27 hi0 hz0 ⟨g, 0, none⟩ L.length cap cells (by rw [hz1]; omega) holds ⟨wr.heap.size, 0, none⟩ 1 1 [.bool b, .slice B p q] (by rw [hz1]; rfl) hnews (by omega) (by omega)
        (growslice_fits (by omega) (by rw [hz2]; omega))
      have hge := grownCap_ge W (L.length + 1) cap 69
      have hcm := grownCap_le_maxLen W (L.length + 1) cap 69 (by unfold maxLen; omega)
      refine ⟨_, _, hr, .inr ⟨W.heap.size, grownCap W (L.length + 1) cap 69, cells ++ [.bool b, .slice B p q], (Builtin.zeroCells (Value.agg #[.bool false, .slice none 0 0]).cells (grownCap W (L.length + 1) cap 69 - (L.length + 1))).toList, by rw [hlen], by omega, ?_, by rw [hlen]; exact hge, hcm, ?_, qt_zero _, ?_⟩, ?_⟩
      · rw [show W.heap.size = W.drew.heap.size from rfl]
        rw [heap_alloc_new W.drew]
        simp
      · have : (Builtin.zeroCells (Value.agg #[.bool false, .slice none 0 0]).cells (grownCap W (L.length + 1) cap 69 - (L.length + 1))).size = (grownCap W (L.length + 1) cap 69 - (L.length + 1)) * 2 := size_zeroCells _ _
        simp only [Array.length_toList, List.length_append, List.length_cons, List.length_nil, this]
        omega
      · exact (h8.bel ((Below.refl _ W).drew.alloc (Nat.le_refl _) _)).snoc (hz3.drew.bel (bel_a _ _))
      · exact ((hbW.mono hbase).drew).alloc (by show base ≤ W.heap.size; omega) _
/-- The operation, for the walk. -/
theorem wp_push {o : Oper} {a : Act} {K : Act → World → Prop} {Q : Exit → Act → World → Prop} {wr : World} (s x : Operand)
    (ho : o.op = .call { callee := .builtin .append, args := #[s, x], argTypes := #[27, 27] }) (base : Nat) (v : Value) (L : List Int) (l : Nat) (b : Bool) (B : Option Addr) (p q : Nat) (z : Int) (hs : a.eval s = v)
    (hR : Rn wr base v L l) (hz : El .n wr (.agg #[.bool b, .slice B p q]) z l) (hbase : base ≤ wr.heap.size) (hn : L.length ≤ 1000000) (hx : a.eval x = .slice (some ⟨wr.heap.size, 0, none⟩) 1 1)
    (h : ∀ v' w', Rn w' base v' (L ++ [z]) l → Below base wr w' → K (a.put o.dst v') w') : o.wp Tryz.prog a (wr.alloc (.cells #[.bool b, .slice B p q] 69)) K Q := by
  obtain ⟨v', w', hr, h2, h3⟩ := run_push o.type wr base v L l b B p q z hR hz hbase hn
  unfold Oper.wp execOp
  simp only [ho, resolve, invoke, builtin, Sem.run_bind, Sem.run_pure, Result.andThen_ok, List.map_toArray, List.map_cons, List.map_nil, hs, hx, hr]
  exact h v' w' h2 h3
theorem wpList_push {ops : Array Oper} {rest : List Oper} {o : Oper} {a : Act} {Q : Exit → Act → World → Prop} {wr : World} (hgd : o.guard = none) (s x : Operand)
    (ho : o.op = .call { callee := .builtin .append, args := #[s, x], argTypes := #[27, 27] }) (base : Nat) (v : Value) (L : List Int) (l : Nat) (b : Bool) (B : Option Addr) (p q : Nat) (z : Int) (hs : a.eval s = v)
    (hR : Rn wr base v L l) (hz : El .n wr (.agg #[.bool b, .slice B p q]) z l) (hbase : base ≤ wr.heap.size) (hn : L.length ≤ 1000000) (hx : a.eval x = .slice (some ⟨wr.heap.size, 0, none⟩) 1 1)
    (h : ∀ v' w', Rn w' base v' (L ++ [z]) l → Below base wr w' → wpList Tryz.prog ops Q rest (a.put o.dst v') w') : wpList Tryz.prog ops Q (o :: rest) a (wr.alloc (.cells #[.bool b, .slice B p q] 69)) :=
  wpList_plain hgd fun _ hK => wp_push s x ho base v L l b B p q z hs hR hz hbase hn hx fun v' w' h2 h3 => hK _ _ (h v' w' h2 h3)
/-- The operation, as a step of a region that draws its order. -/
theorem step_push {ops : Array Oper} {o : Oper} {a : Act} {K : Act → World → Prop} {Q : Exit → Act → World → Prop} {E0 : Prop} {wr : World} (hgd : o.guard = none) (s x : Operand)
    (ho : o.op = .call { callee := .builtin .append, args := #[s, x], argTypes := #[27, 27] }) (base : Nat) (v : Value) (L : List Int) (l : Nat) (b : Bool) (B : Option Addr) (p q : Nat) (z : Int) (hs : a.eval s = v)
    (hR : Rn wr base v L l) (hz : El .n wr (.agg #[.bool b, .slice B p q]) z l) (hbase : base ≤ wr.heap.size) (hn : L.length ≤ 1000000) (hx : a.eval x = .slice (some ⟨wr.heap.size, 0, none⟩) 1 1)
    (h : ∀ v' w', Rn w' base v' (L ++ [z]) l → Below base wr w' → K (a.put o.dst v') w') :
    if Region.wanted o (yielded ops a.tmps) = true then Oper.wp Tryz.prog o a (wr.alloc (.cells #[.bool b, .slice B p q] 69)) K Q else E0 := by
  have hw : Region.wanted o (yielded ops a.tmps) = true := by simp [Region.wanted, hgd]
  rw [if_pos hw]
  exact wp_push s x ho base v L l b B p q z hs hR hz hbase hn hx h
end Go.Proofs.YtpobhegllhhdgaaGreat
