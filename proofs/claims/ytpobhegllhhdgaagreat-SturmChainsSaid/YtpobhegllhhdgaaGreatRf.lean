/- Proved here: what else stands in memory behind an append of a number to a row of the call's own is as it was; boxes, numbers and a row, in one. No condition but a bound on the row's length. -/
import Derived.Test.YtpobhegllhhdgaaGreatRe
namespace Go.Proofs.YtpobhegllhhdgaaGreat
open Go.RowKit

/-- Behind an append: what is not the row's own block is as it was. -/
structure PushOK (wr w' : World) (base : Nat) (v v' : Value) (L : List Int) (z : Int) (l : Nat) : Prop where
  R : Rn w' base v' (L ++ [z]) l
  bel : Below base wr w'
  keep : ∀ b, b < wr.heap.size → (∀ a m c, v = .slice (some a) m c → a.block ≠ b) → w'.heap[b]? = wr.heap[b]?
  blk : ∀ a m c, v' = .slice (some a) m c → wr.heap.size ≤ a.block ∨ ∃ a0 m0 c0, v = .slice (some a0) m0 c0 ∧ a0.block = a.block
theorem Rn.noint {w : World} {base : Nat} {a : Addr} {m c : Nat} {L : List Int} {l : Nat} (h : Rn w base (.slice (some a) m c) L l) : NoInt w a.block := by
  rcases h with ⟨h1, _⟩ | ⟨g, cap, cells, rest, h1, h2, h3, h4, h5, h6, h7, h8⟩
  · cases h1
  · injection h1 with e1
    injection e1 with e1
    rw [e1]
    exact (h8.qt.app h7).noint h3
theorem noint_new (w : World) : NoInt w w.heap.size := by
  intro a k z ha he
  unfold World.cell? at he
  rw [ha, Array.getElem?_eq_none (Nat.le_refl _)] at he
  cases he
theorem PushOK.el {K : Kd} {wr w' : World} {base : Nat} {v v' : Value} {L : List Int} {z : Int} {l : Nat} (h : PushOK wr w' base v v' L z l) (hR : Rn wr base v L l) {Z : Value} {t : Int} {lt : Nat} (hZ : El K wr Z t lt) : El K w' Z t lt := by
  obtain ⟨A, c, rfl⟩ := hR.form
  rcases A with _ | a
  · exact hZ.other (noint_new wr) h.bel.size fun b hb _ => h.keep b hb (fun a m c he => by cases he)
  · refine hZ.other hR.noint h.bel.size fun b hb hne => h.keep b hb fun a' m' c' he => ?_
    injection he with e1
    injection e1 with e1
    rw [← e1]
    exact Ne.symm hne
theorem run_push2 (ty : TypeId) (wr : World) (base : Nat) (v : Value) (L : List Int) (l : Nat) (b : Bool) (B : Option Addr) (p q : Nat) (z : Int) (hR : Rn wr base v L l) (hz : El .n wr (.agg #[.bool b, .slice B p q]) z l) (hbase : base ≤ wr.heap.size) (hn : L.length ≤ 1000000) :
    ∃ v' w', (Builtin.append_ #[27, 27] ty #[v, .slice (some ⟨wr.heap.size, 0, none⟩) 1 1]).run Tryz.prog (wr.alloc (.cells #[.bool b, .slice B p q] 69)) = .ok v' w' ∧ PushOK wr w' base v v' L z l := by
  obtain ⟨i0, hi0, hz0, hz1, hz2⟩ := info_parts Tryz.info69
  obtain ⟨W, hW⟩ : ∃ W, W = wr.alloc (.cells #[.bool b, .slice B p q] 69) := ⟨_, rfl⟩
  rw [← hW]
  have hWs : W.heap.size = wr.heap.size + 1 := by rw [hW]; simp
  have hbW : Below wr.heap.size wr W := by rw [hW]; exact bel_a _ _
  have hR2 : Rn W base v L l := hR.bel hbW
  have hz3 : El .n W (.agg #[.bool b, .slice B p q]) z l := hz.bel hbW
  have hnew : W.heap[wr.heap.size]? = some (.cells #[.bool b, .slice B p q] 69) := by rw [hW]; exact heap_alloc_new wr _
  have hnews : ∀ (j : Nat) u, [Value.bool b, .slice B p q][j]? = some u → W.cell? ((⟨wr.heap.size, 0, none⟩ : Addr).add j) = some u := by
    intro j u hu
    rw [add_at, cell_of_row W wr.heap.size j _ 69 (0, 0) hnew]
    simpa using hu
  have h1c : ∀ u ∈ [Value.bool b, .slice B p q], u.oneCell' = true := by
    intro u hu
    simp at hu
    rcases hu with rfl | rfl <;> rfl
  have hlen : (L ++ [z]).length = L.length + 1 := by simp
  have hblk : ∀ g cap n a m c, W.heap.size ≤ g → Value.slice (some ⟨g, 0, none⟩) n cap = .slice (some a) m c → wr.heap.size ≤ a.block := by
    intro g cap n a m c hg he
    injection he with e1
    injection e1 with e1
    rw [← e1]
    show wr.heap.size ≤ g
    omega
  rcases hR2 with ⟨rfl, rfl⟩ | ⟨g, cap, cells, rest, rfl, h2, h3, h4, h5, h6, h7, h8⟩
  · have hr := run_append_nil (P := Tryz.prog) W 27 ty 69 i0 _ Tryz.underlying27 hi0 hz0 ⟨wr.heap.size, 0, none⟩ 1 1 [.bool b, .slice B p q] (by rw [hz1]; rfl) hnews (by omega) (by omega) (by rw [hz2]; omega)
    have hge := grownCap_ge W 1 0 69
    have hcm := grownCap_le_maxLen W 1 0 69 (by unfold maxLen; omega)
    have hB : Below wr.heap.size wr (W.drew.alloc (.cells ([Value.bool b, .slice B p q].toArray ++ Builtin.zeroCells (Value.agg #[.bool false, .slice none 0 0]).cells (grownCap W 1 0 69 - 1)) 69)) := (hbW.drew).alloc (by show wr.heap.size ≤ W.heap.size; omega) _
    refine ⟨_, _, hr, .inr ⟨W.heap.size, grownCap W 1 0 69, [.bool b, .slice B p q], (Builtin.zeroCells (Value.agg #[.bool false, .slice none 0 0]).cells (grownCap W 1 0 69 - 1)).toList, rfl, by omega, ?_, hge, hcm, ?_, qt_zero _, ?_⟩, hB.mono hbase, fun k hk _ => hB.block k hk, fun a m c he => .inl (hblk _ _ _ _ _ _ (Nat.le_refl _) he)⟩
    · rw [show W.heap.size = W.drew.heap.size from rfl]
      rw [heap_alloc_new W.drew]
      simp
    · have : (Builtin.zeroCells (Value.agg #[.bool false, .slice none 0 0]).cells (grownCap W 1 0 69 - 1)).size = (grownCap W 1 0 69 - 1) * 2 := size_zeroCells _ _
      simp only [Array.length_toList, List.length_cons, List.length_nil, this]
      omega
    · exact (Rw.nil .n _ l).snoc (hz3.drew.bel (bel_a _ _))
  · by_cases hroom : L.length + 1 ≤ cap
    · have hcl := h8.1
      have hr := run_append_room (P := Tryz.prog) W 27 ty 69 i0 Tryz.underlying27 hi0 g L.length cap _ h3 ⟨wr.heap.size, 0, none⟩ 1 1 [.bool b, .slice B p q] (by rw [hz1]; rfl) hnews h1c hroom (by
        rw [hz1]; simp; omega)
      have hni : NoInt W g := (h8.qt.app h7).noint h3
      have hgs := heap_lt h3
      have hsame : ∀ a m c, Value.slice (some ⟨g, 0, none⟩) (L.length + 1) cap = .slice (some a) m c → ∃ a0 m0 c0, Value.slice (some ⟨g, 0, none⟩) L.length cap = .slice (some a0) m0 c0 ∧ a0.block = a.block := by
        intro a m c he
        injection he with e1
        injection e1 with e1
        exact ⟨⟨g, 0, none⟩, _, _, rfl, congrArg Addr.block e1⟩
      have hoth : ∀ (cs : Array Value) k, k < W.heap.size → k ≠ g → (W.setRow g cs).heap[k]? = W.heap[k]? := fun cs k _ hk => setRow_other W g k cs hk
      refine ⟨_, _, hr, .inr ⟨g, cap, cells ++ [.bool b, .slice B p q], rest.drop 2, by rw [hlen], h2, ?_, by rw [hlen]; exact hroom, h5, ?_, h7.drop 2, ?_⟩, ?_, fun k hk hne => (hoth _ k (by omega) (Ne.symm (hne _ _ _ rfl))).trans (hbW.block k hk), fun a m c he => .inr (hsame _ _ _ he)⟩
      · rw [setRow_heap W g _ _ 69 (0, 0) h3, hz1]
        have e9 : (cells ++ rest).toArray.toList.take (L.length * 2) ++ [Value.bool b, .slice B p q] ++ (cells ++ rest).toArray.toList.drop (L.length * 2 + [Value.bool b, .slice B p q].length) = cells ++ [.bool b, .slice B p q] ++ rest.drop 2 := by
          rw [show L.length * 2 = cells.length by omega, show (cells ++ rest).toArray.toList = cells ++ rest from rfl, List.take_left, List.length_cons, List.length_cons, List.length_nil, ← List.drop_drop, List.drop_left]
        rw [e9]
      · simp; omega
      · exact (h8.other hni (by simp) (hoth _)).snoc (hz3.other hni (by simp) (hoth _))
      · refine Below.trans (hbW.mono hbase) ⟨rfl, rfl, rfl, by simp, fun k hk => hoth _ k (by omega) (by omega)⟩
    · have hcl := h8.1
      have holds : ∀ (j : Nat) u, cells[j]? = some u → W.cell? ((⟨g, 0, none⟩ : Addr).add j) = some u := by
        intro j u hu
        rw [add_at, cell_of_row W g j _ 69 (0, 0) h3]
        have hj : j < cells.length := by
          rcases Nat.lt_or_ge j cells.length with h | h
          · exact h
          · rw [List.getElem?_eq_none h] at hu; cases hu
        simp
        rw [List.getElem?_append_left hj]
        exact hu
      have hr := run_append_grow (P := Tryz.prog) W 27 ty 69 i0 _ Tryz.underlying27 hi0 hz0 ⟨g, 0, none⟩ L.length cap cells (by rw [hz1]; omega) holds ⟨wr.heap.size, 0, none⟩ 1 1 [.bool b, .slice B p q] (by rw [hz1]; rfl) hnews (by omega) (by omega)
        (growslice_fits (by omega) (by rw [hz2]; omega))
      have hge := grownCap_ge W (L.length + 1) cap 69
      have hcm := grownCap_le_maxLen W (L.length + 1) cap 69 (by unfold maxLen; omega)
      have hB : Below wr.heap.size wr (W.drew.alloc (.cells (cells.toArray ++ [Value.bool b, .slice B p q].toArray ++ Builtin.zeroCells (Value.agg #[.bool false, .slice none 0 0]).cells (grownCap W (L.length + 1) cap 69 - (L.length + 1))) 69)) := (hbW.drew).alloc (by show wr.heap.size ≤ W.heap.size; omega) _
      refine ⟨_, _, hr, .inr ⟨W.heap.size, grownCap W (L.length + 1) cap 69, cells ++ [.bool b, .slice B p q], (Builtin.zeroCells (Value.agg #[.bool false, .slice none 0 0]).cells (grownCap W (L.length + 1) cap 69 - (L.length + 1))).toList, by rw [hlen], by omega, ?_, by rw [hlen]; exact hge, hcm, ?_, qt_zero _, ?_⟩, hB.mono hbase, fun k hk _ => hB.block k hk, fun a m c he => .inl (hblk _ _ _ _ _ _ (Nat.le_refl _) he)⟩
      · rw [show W.heap.size = W.drew.heap.size from rfl]
        rw [heap_alloc_new W.drew]
        simp
      · have : (Builtin.zeroCells (Value.agg #[.bool false, .slice none 0 0]).cells (grownCap W (L.length + 1) cap 69 - (L.length + 1))).size = (grownCap W (L.length + 1) cap 69 - (L.length + 1)) * 2 := size_zeroCells _ _
        simp only [Array.length_toList, List.length_append, List.length_cons, List.length_nil, this]
        omega
      · exact (h8.bel ((Below.refl _ W).drew.alloc (Nat.le_refl _) _)).snoc (hz3.drew.bel (bel_a _ _))
theorem wpList_push2 {ops : Array Oper} {rest : List Oper} {o : Oper} {a : Act} {Q : Exit → Act → World → Prop} {wr : World} (hgd : o.guard = none) (s x : Operand)
    (ho : o.op = .call { callee := .builtin .append, args := #[s, x], argTypes := #[27, 27] }) (base : Nat) (v : Value) (L : List Int) (l : Nat) (b : Bool) (B : Option Addr) (p q : Nat) (z : Int) (hs : a.eval s = v)
    (hR : Rn wr base v L l) (hz : El .n wr (.agg #[.bool b, .slice B p q]) z l) (hbase : base ≤ wr.heap.size) (hn : L.length ≤ 1000000) (hx : a.eval x = .slice (some ⟨wr.heap.size, 0, none⟩) 1 1)
    (h : ∀ v' w', PushOK wr w' base v v' L z l → wpList Tryz.prog ops Q rest (a.put o.dst v') w') : wpList Tryz.prog ops Q (o :: rest) a (wr.alloc (.cells #[.bool b, .slice B p q] 69)) :=
  wpList_plain hgd fun _ hK => by
    obtain ⟨v', w', hr, h2⟩ := run_push2 o.type wr base v L l b B p q z hR hz hbase hn
    unfold Oper.wp execOp
    simp only [ho, resolve, invoke, builtin, Sem.run_bind, Sem.run_pure, Result.andThen_ok, List.map_toArray, List.map_cons, List.map_nil, hs, hx, hr]
    exact hK _ _ (h v' w' h2)
/-- Boxes with numbers or yet empty, numbers, and the row that is made. -/
structure Gs (w W : World) (Bs : List (Nat × Bool × Option Addr × Nat × Nat)) (Es : List (Value × Int × Nat)) (z : Value) (R : List Int) (lo : Nat) : Prop where
  bel : Below w.heap.size w W
  bx : ∀ b ∈ Bs, Bx 69 W b.1 b.2.1 (.slice b.2.2.1 b.2.2.2.1 b.2.2.2.2) ∧ w.heap.size ≤ b.1 ∧ ∀ a m c, z = .slice (some a) m c → a.block ≠ b.1
  nd : (Bs.map (·.1)).Nodup
  es : ∀ e ∈ Es, El .n W e.1 e.2.1 e.2.2
  R : Rn W w.heap.size z R lo
section
variable {w W W' : World} {Bs : List (Nat × Bool × Option Addr × Nat × Nat)} {Es : List (Value × Int × Nat)} {z : Value} {R : List Int} {lo : Nat}
theorem Gs.next (h : Gs w W Bs Es z R lo) (hb : Below W.heap.size W W') : Gs w W' Bs Es z R lo :=
  ⟨bel_tr h.bel hb, fun b hB => ⟨(h.bx b hB).1.bel hb, (h.bx b hB).2⟩, h.nd, fun e he => (h.es e he).bel hb, h.R.bel hb⟩
theorem Gs.drew (h : Gs w W Bs Es z R lo) : Gs w W.drew Bs Es z R lo := h.next ((Below.refl _ _).drew)
theorem Gs.new (h : Gs w W Bs Es z R lo) (b : Bool) (B : Option Addr) (i j : Nat) : Gs w (W.alloc (.cells #[.bool b, .slice B i j] 69)) ((W.heap.size, b, B, i, j) :: Bs) Es z R lo := by
  have h1 := h.next (bel_a W (.cells #[.bool b, .slice B i j] 69))
  refine ⟨h1.bel, fun c hc => ?_, List.nodup_cons.2 ⟨fun hm => ?_, h.nd⟩, h1.es, h1.R⟩
  · rcases List.mem_cons.1 hc with rfl | hc
    · exact ⟨Bx.new 69 W _ _, h.bel.size, fun a m c he => by subst he; exact Nat.ne_of_lt h.R.blk⟩
    · exact h1.bx c hc
  · obtain ⟨c, hc, he⟩ := List.mem_map.1 hm
    have h2 := (h.bx c hc).1.lt
    have h3 : c.1 = W.heap.size := he
    omega
theorem Gs.alloc (h : Gs w W Bs Es z R lo) : Gs w (W.alloc (.cells #[.bool false, .slice none 0 0] 69)) ((W.heap.size, false, none, 0, 0) :: Bs) Es z R lo := h.new _ _ _ _
theorem Gs.tail {c : Nat × Bool × Option Addr × Nat × Nat} (h : Gs w W (c :: Bs) Es z R lo) : Gs w W Bs Es z R lo :=
  ⟨h.bel, fun b hb => h.bx b (List.mem_cons_of_mem _ hb), (List.nodup_cons.1 h.nd).2, h.es, h.R⟩
theorem Gs.num (h : Gs w W Bs Es z R lo) {Z : Value} {t : Int} {l : Nat} (hz : El .n W Z t l) : Gs w W Bs ((Z, t, l) :: Es) z R lo :=
  ⟨h.bel, h.bx, h.nd, fun e he => by
    rcases List.mem_cons.1 he with rfl | he
    · exact hz
    · exact h.es e he, h.R⟩
theorem Gs.nums (h : Gs w W Bs Es z R lo) {Es' : List (Value × Int × Nat)} (hs : ∀ e ∈ Es', e ∈ Es) : Gs w W Bs Es' z R lo := ⟨h.bel, h.bx, h.nd, fun e he => h.es e (hs e he), h.R⟩
theorem Gs.put {g : Nat} {b0 b : Bool} {B0 B : Option Addr} {i0 j0 i j : Nat} (h : Gs w W ((g, b0, B0, i0, j0) :: Bs) Es z R lo) :
    Gs w ((W.setCell ⟨g, 0, none⟩ (.bool b)).setCell ⟨g, 1, none⟩ (.slice B i j)) ((g, b, B, i, j) :: Bs) Es z R lo := by
  obtain ⟨h1, h2, h3⟩ := h.bx _ (List.mem_cons_self)
  have hnd := List.nodup_cons.1 h.nd
  refine ⟨bel_set (bel_set h.bel h2 _ _) h2 _ _, fun c hc => ?_, List.nodup_cons.2 hnd, fun e he => (h.es e he).box h1 _ _ _ _, h.R.store h1 h3 _ _ _ _⟩
  rcases List.mem_cons.1 hc with rfl | hc
  · exact ⟨h1.put _ _, h2, h3⟩
  · obtain ⟨k1, k2⟩ := h.bx c (List.mem_cons_of_mem _ hc)
    exact ⟨k1.two (fun he => hnd.1 (List.mem_map.2 ⟨c, hc, he⟩)) _ _ _ _, k2⟩
theorem Gs.facts {g : Nat} {b : Bool} {B : Option Addr} {i j : Nat} (h : Gs w W Bs Es z R lo) (hg : (g, b, B, i, j) ∈ Bs) :
    W.cell? ⟨g, 0, none⟩ = some (.bool b) ∧ W.cell? ⟨g, 1, none⟩ = some (.slice B i j) ∧ W.frozen? ⟨g, 0, none⟩ = false ∧ W.frozen? ⟨g, 1, none⟩ = false :=
  ⟨(h.bx _ hg).1.c0, (h.bx _ hg).1.c1, (h.bx _ hg).1.fr 0, (h.bx _ hg).1.fr 1⟩
theorem Gs.pushed {v' : Value} {t : Int} (h : Gs w W Bs Es z R lo) (hp : PushOK W W' w.heap.size z v' R t lo) : Gs w W' Bs Es v' (R ++ [t]) lo := by
  refine ⟨h.bel.trans hp.bel, fun b hb => ?_, h.nd, fun e he => hp.el h.R (h.es e he), hp.R⟩
  obtain ⟨k1, k2, k3⟩ := h.bx b hb
  refine ⟨(hp.keep _ k1.lt (fun a m c he => k3 a m c he)).trans k1, k2, fun a m c he => ?_⟩
  have hlt := k1.lt
  rcases hp.blk a m c he with h1 | ⟨a0, m0, c0, h1, h2⟩
  · omega
  · rw [← h2]
    exact k3 _ _ _ h1
end
/-- A number's size. -/
theorem num_abs {W : World} {b : Bool} {v : Value} {z : Int} {l : Nat} (h : El .n W (.agg #[.bool b, v]) z l) : El .n W (.agg #[.bool false, v]) (absI z) l ∧ b = decide (z < 0) := by
  obtain ⟨n, v', xs, he, h2, h3, h4, h5, h6⟩ := h
  injection he with he
  have e1 : b = n ∧ v = v' := by simpa using he
  obtain ⟨rfl, rfl⟩ := e1
  have hz := top_zero16 h4.1
  cases b
  · have hz1 : z = (dv xs : Int) := h6.symm
    refine ⟨⟨false, v, xs, rfl, h2, h3, ⟨h4.1, fun _ => rfl⟩, h5, ?_⟩, ?_⟩
    · unfold absI
      rw [if_neg (by omega)]
      exact h6
    · symm; apply decide_eq_false; omega
  · have hz1 : z = -(dv xs : Int) := h6.symm
    have hne : xs ≠ [] := fun h0 => by have := h4.2 h0; cases this
    have hpos : dv xs ≠ 0 := fun h0 => hne (hz.1 h0)
    refine ⟨⟨false, v, xs, rfl, h2, h3, ⟨h4.1, fun _ => rfl⟩, h5, ?_⟩, ?_⟩
    · unfold absI
      rw [if_pos (by omega), hz1]
      simp [sv]
    · symm; apply decide_eq_true; omega
end Go.Proofs.YtpobhegllhhdgaaGreat
