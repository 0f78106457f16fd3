/- Proved here: what package sturm's spans answers. Condition: a search of which each step finds at most one span, as the plain function says. · what package sturm's Isolate answers where the search finds one span, as the plain function says. Condition: a polynomial of few enough digits that lies in memory, that isn't 0 at the ends, and three fractions that may be. · what stands at the root of 2, by reckoning; the law's own word awake answers true. No condition. -/
import Derived.Test.YtpobhegllhhdgaaGreatKA
import Derived.Test.YtpobhegllhhdgaaGreatJC
import Derived.Deep.Upon
namespace Go.Proofs.YtpobhegllhhdgaaGreat
open Go.RowKit

/-- The search for a span: how many steps at most; the ends, with how often signs change just below the right one, and just above the left one. How many spans it finds. -/
def spF (u v : Int) (Ls : List (List Int)) : Nat → (n d : Int) → (a : Nat) → (n' d' : Int) → (b : Nat) → Option Nat
  | 0, _, _, _, _, _, _ => none
  | k + 1, n, d, a, n', d', b =>
    if a = b then some 0
    else if a = b + 1 then
      if narB n d n' d' u v = true then some 1
      else match btw n d n' d' with
        | none => none
        | some (p, q) =>
          if Fit p ∧ Fit q ∧ Maybe p q ∧ sgP p q (pg Ls 0) ≠ 0 then
            match spF u v Ls k n d a p q (lowC p q Ls), spF u v Ls k p q (higC p q Ls) n' d' b with
            | some 0, some 1 => some 1
            | some 1, some 0 => some 1
            | _, _ => none
          else none
    else none
/-- No span, or one, as it lies in memory. -/
def Sp (w : World) (v : Value) : Nat → Prop
  | 0 => v = .slice none 0 0
  | _ + 1 => ∃ a c x0 x1 x2 x3, v = .slice (some a) 1 c ∧ 1 ≤ c ∧ a.block < w.heap.size ∧ w.cell? (a.add 0) = some (.int .i64 x0) ∧ w.cell? (a.add 1) = some (.int .i64 x1) ∧ w.cell? (a.add 2) = some (.int .i64 x2) ∧ w.cell? (a.add 3) = some (.int .i64 x3)
theorem Sp.bel {w w' : World} {v : Value} {r : Nat} (h : Sp w v r) (hb : Below w.heap.size w w') : Sp w' v r := by
  cases r with
  | zero => exact h
  | succ r =>
    obtain ⟨a, c, x0, x1, x2, x3, h1, h2, h3, h4, h5, h6, h7⟩ := h
    have e : ∀ j, w'.cell? (a.add j) = w.cell? (a.add j) := fun j => hb.cell (by rw [block_of_add]; exact h3)
    exact ⟨a, c, x0, x1, x2, x3, h1, h2, Nat.lt_of_lt_of_le h3 hb.size, (e 0).trans h4, (e 1).trans h5, (e 2).trans h6, (e 3).trans h7⟩
theorem Sp.new (w : World) (x0 x1 x2 x3 : Int) : Sp (w.alloc (.cells #[.int .i64 x0, .int .i64 x1, .int .i64 x2, .int .i64 x3] 129)) (.slice (some ⟨w.heap.size, 0, none⟩) 1 1) 1 := by
  have h : (w.alloc (.cells #[.int .i64 x0, .int .i64 x1, .int .i64 x2, .int .i64 x3] 129)).heap[w.heap.size]? = some (.cells #[.int .i64 x0, .int .i64 x1, .int .i64 x2, .int .i64 x3] 129 (0, 0)) := heap_alloc_new w _
  refine ⟨_, _, x0, x1, x2, x3, rfl, Nat.le_refl _, heap_lt h, ?_, ?_, ?_, ?_⟩
  · rw [add_at]; exact cell_of_row _ _ 0 _ 129 (0, 0) h
  · rw [add_at]; exact cell_of_row _ _ 1 _ 129 (0, 0) h
  · rw [add_at]; exact cell_of_row _ _ 2 _ 129 (0, 0) h
  · rw [add_at]; exact cell_of_row _ _ 3 _ 129 (0, 0) h
theorem Tryz.info129 : (Tryz.prog.info? 129).map (fun i => (i.zero, i.size, i.bytes)) = some (some (.agg #[.int .i64 0, .int .i64 0, .int .i64 0, .int .i64 0]), 4, 32) := by kernel_rfl
/-- What comes of a span's list with another one behind it. -/
theorem run_spans (ty : TypeId) (w : World) (x y : Value) (hx : Sp w x 0 ∧ Sp w y 1 ∨ Sp w x 1 ∧ Sp w y 0) :
    ∃ z w', (Builtin.append_ #[64, 64] ty #[x, y]).run Tryz.prog w = .ok z w' ∧ Sp w' z 1 ∧ Below w.heap.size w w' := by
  obtain ⟨i0, hi0, hz0, hz1, hz2⟩ := info_parts Tryz.info129
  rcases hx with ⟨rfl, hy⟩ | ⟨hx, rfl⟩
  · obtain ⟨a, c, x0, x1, x2, x3, rfl, h2, h3, h4, h5, h6, h7⟩ := hy
    have hr := run_append_nil (P := Tryz.prog) w 64 ty 129 i0 _ Tryz.underlying64 hi0 hz0 a 1 c [.int .i64 x0, .int .i64 x1, .int .i64 x2, .int .i64 x3] (by rw [hz1]; rfl) (fun j u hu => by
      rcases j with _ | _ | _ | _ | j
      · simp at hu; subst hu; exact h4
      · simp at hu; subst hu; exact h5
      · simp at hu; subst hu; exact h6
      · simp at hu; subst hu; exact h7
      · simp at hu) (by omega) (by omega) (by rw [hz2]; omega)
    have hge := grownCap_ge w 1 0 129
    have hh := heap_alloc_new w.drew (.cells ([Value.int .i64 x0, .int .i64 x1, .int .i64 x2, .int .i64 x3].toArray ++ Builtin.zeroCells (Value.agg #[.int .i64 0, .int .i64 0, .int .i64 0, .int .i64 0]).cells (grownCap w 1 0 129 - 1)) 129)
    refine ⟨_, _, hr, ⟨_, _, x0, x1, x2, x3, rfl, hge, heap_lt hh, ?_, ?_, ?_, ?_⟩, ((Below.refl _ w).drew).alloc (Nat.le_refl _) _⟩
    · rw [add_at]; exact (cell_of_row _ _ 0 _ 129 (0, 0) hh).trans ((Array.getElem?_append_left (by simp)).trans rfl)
    · rw [add_at]; exact (cell_of_row _ _ 1 _ 129 (0, 0) hh).trans ((Array.getElem?_append_left (by simp)).trans rfl)
    · rw [add_at]; exact (cell_of_row _ _ 2 _ 129 (0, 0) hh).trans ((Array.getElem?_append_left (by simp)).trans rfl)
    · rw [add_at]; exact (cell_of_row _ _ 3 _ 129 (0, 0) hh).trans ((Array.getElem?_append_left (by simp)).trans rfl)
  · have hn := run_append_nothing (P := Tryz.prog) w 64 64 ty 129 i0 Tryz.underlying64 hi0
    obtain ⟨a, c, x0, x1, x2, x3, rfl, h2, h3, h4, h5, h6, h7⟩ := hx
    exact ⟨_, _, hn (some a) 1 c h2 (.slice none 0 0) (Src.ofNil w Tryz.underlying64 0), ⟨a, c, x0, x1, x2, x3, rfl, h2, h3, h4, h5, h6, h7⟩, Below.refl _ _⟩
theorem wpList_spans {ops : Array Oper} {rest : List Oper} {o : Oper} {a : Act} {Q : Exit → Act → World → Prop} {wr : World} (hgd : o.guard = none) (s x : Operand)
    (ho : o.op = .call { callee := .builtin .append, args := #[s, x], argTypes := #[64, 64] }) (u v : Value) (hs : a.eval s = u) (hx : a.eval x = v)
    (hh : Sp wr u 0 ∧ Sp wr v 1 ∨ Sp wr u 1 ∧ Sp wr v 0) (h : ∀ z w', Sp w' z 1 → Below wr.heap.size wr w' → wpList Tryz.prog ops Q rest (a.put o.dst z) w') : wpList Tryz.prog ops Q (o :: rest) a wr :=
  wpList_plain hgd fun _ hK => by
    obtain ⟨z, w', hr, h2, h3⟩ := run_spans o.type wr u v hh
    unfold Oper.wp execOp
    simp only [ho, resolve, invoke, builtin, Sem.run_bind, Sem.run_pure, Result.andThen_ok, List.map_toArray, List.map_cons, List.map_nil, hs, hx, hr]
    exact hK _ _ (h z w' h2 h3)
/-- What stands in memory in spans: two places and a fraction in boxes, and a list of polynomials. -/
structure SpH (w W : World) (n d : Int) (z : Bool) (b a : Int) (n' d' : Int) (z' : Bool) (b' a' : Int) (u v : Int) (C : Value) (Ls : List (List Int)) (D : Nat) : Prop where
  bel : Below w.heap.size w W
  lo : Pb W w.heap.size n d z b a
  hi : Pb W (w.heap.size + 1) n' d' z' b' a'
  wd : Rt W (w.heap.size + 1 + 1) u v
  ch : Cn .c W C Ls D
section
variable {w W W' : World} {n d b a n' d' b' a' u v : Int} {z z' : Bool} {C : Value} {Ls : List (List Int)} {D : Nat}
theorem SpH.next (h : SpH w W n d z b a n' d' z' b' a' u v C Ls D) (hb : Below W.heap.size W W') : SpH w W' n d z b a n' d' z' b' a' u v C Ls D := ⟨bel_tr h.bel hb, h.lo.bel hb, h.hi.bel hb, h.wd.below hb h.wd.lt, h.ch.bel hb⟩
theorem SpH.facts (h : SpH w W n d z b a n' d' z' b' a' u v C Ls D) : (W.cell? ⟨w.heap.size, 0, none⟩ = some (.int .i64 n) ∧ W.cell? ⟨w.heap.size, 1, none⟩ = some (.int .i64 d) ∧ W.cell? ⟨w.heap.size, 2, none⟩ = some (.bool z) ∧ W.cell? ⟨w.heap.size, 3, none⟩ = some (.int .i64 b) ∧ W.cell? ⟨w.heap.size, 4, none⟩ = some (.int .i64 a)) ∧
    (W.cell? ⟨w.heap.size + 1, 0, none⟩ = some (.int .i64 n') ∧ W.cell? ⟨w.heap.size + 1, 1, none⟩ = some (.int .i64 d') ∧ W.cell? ⟨w.heap.size + 1, 2, none⟩ = some (.bool z') ∧ W.cell? ⟨w.heap.size + 1, 3, none⟩ = some (.int .i64 b') ∧ W.cell? ⟨w.heap.size + 1, 4, none⟩ = some (.int .i64 a')) ∧
    (W.cell? ⟨w.heap.size + 1 + 1, 0, none⟩ = some (.int .i64 u) ∧ W.cell? ⟨w.heap.size + 1 + 1, 1, none⟩ = some (.int .i64 v)) :=
  ⟨h.lo.cells, h.hi.cells, h.wd.c0, h.wd.c1⟩
theorem SpH.start (w : World) (h : Cn .c w C Ls D) : SpH w (((w.alloc (.cells #[.int .i64 n, .int .i64 d, .bool z, .int .i64 b, .int .i64 a] 87)).alloc (.cells #[.int .i64 n', .int .i64 d', .bool z', .int .i64 b', .int .i64 a'] 87)).alloc (.cells #[.int .i64 u, .int .i64 v] 24)) n d z b a n' d' z' b' a' u v C Ls D := by
  have h1 := Pb.new w n d z b a
  have h2 := Pb.new (w.alloc (.cells #[.int .i64 n, .int .i64 d, .bool z, .int .i64 b, .int .i64 a] 87)) n' d' z' b' a'
  have h3 := Rt.new ((w.alloc (.cells #[.int .i64 n, .int .i64 d, .bool z, .int .i64 b, .int .i64 a] 87)).alloc (.cells #[.int .i64 n', .int .i64 d', .bool z', .int .i64 b', .int .i64 a'] 87)) u v
  simp only [size_a1] at h2 h3
  exact ⟨bel_tr (bel_tr (bel_a _ _) (bel_a _ _)) (bel_a _ _), (h1.bel (bel_a _ _)).bel (bel_a _ _), h2.bel (bel_a _ _), h3, ((h.bel (bel_a _ _)).bel (bel_a _ _)).bel (bel_a _ _)⟩
end
set_option maxRecDepth 100000 in
set_option maxHeartbeats 4000000 in
theorem spans_any (u v : Int) (Ls : List (List Int)) (D m : Nat) (hu : Fit u) (hv : Fit v) (hm1 : m ≤ 100) (hs : ∀ i, i < m → (pg Ls i).length ≤ 100) (h0 : ∀ i, i < m → 0 < pl (pg Ls i)) (hm0 : 0 < m) (hD : D ≤ 19999) : ∀ (k : Nat) (n d : Int) (b a : Nat) (n' d' : Int) (b' a' : Nat) (A : Option Addr) (q : Nat) (r : Nat) (w : World),
    Cn .c w (.slice A m q) Ls D → Fit n → Fit d → Fit n' → Fit d' → a ≤ 1000 → b' ≤ 1000 → spF u v Ls k n d a n' d' b' = some r →
    Calls Tryz.prog 64 #[.slice A m q, PlV n d false b a, PlV n' d' false b' a', .agg #[.int .i64 u, .int .i64 v]] w fun e w' => ∃ x, e = .returned (.tuple #[x, .int .i64 0]) ∧ Sp w' x r ∧ Below w.heap.size w w' := by
  intro k
  induction k with
  | zero => intro n d b a n' d' b' a' A q r w hc hn hd hn' hd' ha hb hr; simp [spF] at hr
  | succ k ih =>
    intro n d b a n' d' b' a' A q r w hc hn hd hn' hd' ha hb hr
    have HS := Lib.hid (SpH.start (n := n) (d := d) (z := false) (b := b) (a := a) (n' := n') (d' := d') (z' := false) (b' := b') (a' := a') (u := u) (v := v) w hc)
    obtain ⟨⟨f0, f1, f2, f3, f4⟩, ⟨g0, g1, g2, g3, g4⟩, ⟨e0, e1⟩⟩ := HS.out.facts
    have HN := fun W => count_any n d b a n' d' b' a' false false W (by omega) (by omega)
    unfold PlV at HN ⊢
    have HN := Lib.hid HN
    simp only [spF] at hr
    by_cases hab : a = b'
    · rw [if_pos hab] at hr
      have hr0 : r = 0 := (Option.some.inj hr).symm
      subst hr0
      have hz : ((a : Int) - b' == 0) = true := by simp; omega
      have hz2 : (a : Int) - b' = 0 := by omega
      rw [hz2] at HN
      clear hc hn hd hn' hd' hr hab ih hz hz2
      go_enter Tryz.func64, Tryz.ntmps64
      go_wp2_with (go_at_call 46; (with_reducible refine (HN.out _).mono ?_); rintro e w1 ⟨rfl, hb⟩; have HS := Lib.hid (HS.out.next hb); clear hb)
      go_ret2
      exact ⟨_, rfl, rfl, HS.out.bel⟩
    · rw [if_neg hab] at hr
      split at hr
      · next hab1 =>
        have hz2 : (a : Int) - b' = 1 := by omega
        rw [hz2] at HN
        have HW := Lib.hid (fun W => narrow_any n d n' d' u v W hn hd hn' hd' hu hv)
        by_cases hnr : narB n d n' d' u v = true
        · rw [if_pos hnr] at hr
          have hr1 : r = 1 := (Option.some.inj hr).symm
          subst hr1
          rw [hnr] at HW
          clear hc hn hd hn' hd' hr hab hab1 ih hz2 hnr
          go_enter Tryz.func64, Tryz.ntmps64
          go_wp2_with (first
            | (go_at_call 46; (with_reducible refine (HN.out _).mono ?_); rintro e w1 ⟨rfl, hb⟩; have HS := Lib.hid (HS.out.next hb); clear hb f0 f1 f2 f3 f4 g0 g1 g2 g3 g4 e0 e1; obtain ⟨⟨f0, f1, f2, f3, f4⟩, ⟨g0, g1, g2, g3, g4⟩, ⟨e0, e1⟩⟩ := HS.out.facts)
            | (go_at_call 97; (with_reducible refine (HW.out _).mono ?_); rintro e w1 ⟨rfl, hb⟩; have HS := Lib.hid (HS.out.next hb); clear hb f0 f1 f2 f3 f4 g0 g1 g2 g3 g4 e0 e1; obtain ⟨⟨f0, f1, f2, f3, f4⟩, ⟨g0, g1, g2, g3, g4⟩, ⟨e0, e1⟩⟩ := HS.out.facts))
          go_ret2
          exact ⟨_, rfl, Sp.new _ _ _ _ _, bel_tr HS.out.bel (bel_a _ _)⟩
        · rw [if_neg hnr] at hr
          have hnr0 : narB n d n' d' u v = false := by simpa using hnr
          rw [hnr0] at HW
          split at hr
          · cases hr
          · next p q1 hbt =>
            split at hr
            · next hpq =>
              obtain ⟨hp, hq, hmb, hsg⟩ := hpq
              have HBT := Lib.hid (fun W => between_any n d n' d' p q1 W hn hd hn' hd' hbt)
              have HPL := Lib.hid (fun W h => placeOf_any A m q Ls D p q1 W h hm1 hs h0 hm0 hD hp hq hmb)
              have hz : decide (sgP p q1 (pg Ls 0) = 0) = false := decide_eq_false hsg
              rw [hz] at HPL
              have hmL := hc.cap.1
              have hl1 := lowC_le p q1 Ls
              have hl2 := higC_le p q1 Ls
              obtain ⟨bm, hbm⟩ : ∃ x, x = lowC p q1 Ls := ⟨_, rfl⟩
              obtain ⟨am, ham⟩ : ∃ x, x = higC p q1 Ls := ⟨_, rfl⟩
              rw [← hbm, ← ham] at hr HPL
              rw [← hbm] at hl1
              rw [← ham] at hl2
              have hrr : ∃ r1 r2, spF u v Ls k n d a p q1 bm = some r1 ∧ spF u v Ls k p q1 am n' d' b' = some r2 ∧ (r1 = 0 ∧ r2 = 1 ∨ r1 = 1 ∧ r2 = 0) ∧ r = 1 := by
                split at hr
                · next h1 h2 => exact ⟨0, 1, h1, h2, .inl ⟨rfl, rfl⟩, (Option.some.inj hr).symm⟩
                · next h1 h2 => exact ⟨1, 0, h1, h2, .inr ⟨rfl, rfl⟩, (Option.some.inj hr).symm⟩
                · cases hr
              obtain ⟨r1, r2, hr1, hr2, hr12, rfl⟩ := hrr
              have HI1 := Lib.hid (fun W h => ih n d b a p q1 bm am A q r1 W h hn hd hp hq ha (by omega) hr1)
              have HI2 := Lib.hid (fun W h => ih p q1 bm am n' d' b' a' A q r2 W h hp hq hn' hd' (by omega) hb hr2)
              unfold PlV at HPL HI1 HI2
              have HR := Lib.hid hr12
              clear hc hn hd hn' hd' hr hab hab1 ih hz2 hnr hnr0 hp hq hmb hsg hbt hz hbm ham hr1 hr2 hr12 hl1 hl2 hmL
              go_enter Tryz.func64, Tryz.ntmps64
              go_upto_region 7 with (first
                | (go_at_call 46; (with_reducible refine (HN.out _).mono ?_); rintro e w1 ⟨rfl, hb⟩; have HS := Lib.hid (HS.out.next hb); clear hb f0 f1 f2 f3 f4 g0 g1 g2 g3 g4 e0 e1; obtain ⟨⟨f0, f1, f2, f3, f4⟩, ⟨g0, g1, g2, g3, g4⟩, ⟨e0, e1⟩⟩ := HS.out.facts)
                | (go_at_call 97; (with_reducible refine (HW.out _).mono ?_); rintro e w2 ⟨rfl, hb⟩; have HS := Lib.hid (HS.out.next hb); clear hb f0 f1 f2 f3 f4 g0 g1 g2 g3 g4 e0 e1; obtain ⟨⟨f0, f1, f2, f3, f4⟩, ⟨g0, g1, g2, g3, g4⟩, ⟨e0, e1⟩⟩ := HS.out.facts)
                | (go_at_call 98; (with_reducible refine (HBT.out _).mono ?_); rintro e w3 ⟨rfl, hb⟩; have HS := Lib.hid (HS.out.next hb); clear hb f0 f1 f2 f3 f4 g0 g1 g2 g3 g4 e0 e1))
              have HX := Lib.hid (Rt.new w3 p q1)
              have HS := Lib.hid (HS.out.next (bel_a w3 (.cells #[.int .i64 p, .int .i64 q1] 24)))
              obtain ⟨gx, hgx⟩ : ∃ g, g = w3.heap.size := ⟨_, rfl⟩
              obtain ⟨W4, hW4⟩ : ∃ W, W = w3.alloc (.cells #[.int .i64 p, .int .i64 q1] 24) := ⟨_, rfl⟩
              rw [← hW4] at HS HX ⊢
              rw [← hgx] at HX ⊢
              clear hgx hW4
              obtain ⟨x0, x1⟩ := rt_facts HX.out
              obtain ⟨⟨f0, f1, f2, f3, f4⟩, ⟨g0, g1, g2, g3, g4⟩, ⟨e0, e1⟩⟩ := HS.out.facts
              go_upto_region 10 with (go_at_call 47; (with_reducible refine (HPL.out _ HS.out.ch).mono ?_); rintro e w5 ⟨rfl, hb⟩; have HX := Lib.hid (HX.out.bel hb); have HS := Lib.hid (HS.out.next hb); clear hb f0 f1 f2 f3 f4 g0 g1 g2 g3 g4 e0 e1 x0 x1)
              have HM := Lib.hid (Pb.new w5 p q1 false bm am)
              have HX := Lib.hid (HX.out.bel (bel_a w5 (.cells #[.int .i64 p, .int .i64 q1, .bool false, .int .i64 bm, .int .i64 am] 87)))
              have HS := Lib.hid (HS.out.next (bel_a w5 (.cells #[.int .i64 p, .int .i64 q1, .bool false, .int .i64 bm, .int .i64 am] 87)))
              obtain ⟨gm, hgm⟩ : ∃ g, g = w5.heap.size := ⟨_, rfl⟩
              obtain ⟨W6, hW6⟩ : ∃ W, W = w5.alloc (.cells #[.int .i64 p, .int .i64 q1, .bool false, .int .i64 bm, .int .i64 am] 87) := ⟨_, rfl⟩
              rw [← hW6] at HS HX HM ⊢
              rw [← hgm] at HM ⊢
              clear hgm hW6
              obtain ⟨p0, p1, p2, p3, p4⟩ := HM.out.cells
              obtain ⟨⟨f0, f1, f2, f3, f4⟩, ⟨g0, g1, g2, g3, g4⟩, ⟨e0, e1⟩⟩ := HS.out.facts
              go_wp2_with (first
                | (go_at_call 64; (with_reducible refine (HI1.out _ HS.out.ch).mono ?_); rintro e w7 ⟨xa, rfl, hx, hb⟩; have HA := Lib.hid hx; have HM := Lib.hid (HM.out.bel hb); have HS := Lib.hid (HS.out.next hb); clear hb hx f0 f1 f2 f3 f4 g0 g1 g2 g3 g4 e0 e1 p0 p1 p2 p3 p4; obtain ⟨⟨f0, f1, f2, f3, f4⟩, ⟨g0, g1, g2, g3, g4⟩, ⟨e0, e1⟩⟩ := HS.out.facts; obtain ⟨p0, p1, p2, p3, p4⟩ := HM.out.cells)
                | (go_at_call 64; (with_reducible refine (HI2.out _ HS.out.ch).mono ?_); rintro e w8 ⟨xb, rfl, hx, hb⟩; have HA := Lib.hid (HA.out.bel hb); have HB := Lib.hid hx; have HS := Lib.hid (HS.out.next hb); clear hb hx)
                | (at_builtin; go_must (refine wpList_spans rfl (.tmp 93) (.tmp 94) rfl _ _ rfl rfl (HR.out.elim (fun h => .inl ⟨h.1 ▸ HA.out, h.2 ▸ HB.out⟩) (fun h => .inr ⟨h.1 ▸ HA.out, h.2 ▸ HB.out⟩)) ?_); intro z w9 hz hb; have HZ := Lib.hid hz; have HS := Lib.hid (HS.out.next hb); clear hz hb))
              go_ret2
              exact ⟨_, rfl, HZ.out, HS.out.bel⟩
            · cases hr
      · cases hr
end Go.Proofs.YtpobhegllhhdgaaGreat
namespace Go.Proofs.YtpobhegllhhdgaaGreat
open Go.RowKit

/-- Fractions in boxes, and a list of polynomials. -/
structure IsH (w W : World) (n d m c u v : Int) (C : Value) (Ls : List (List Int)) (D : Nat) : Prop where
  bx : Gb w W n d m c u v [] []
  ch : Cn .c W C Ls D
theorem IsH.next {w W W' : World} {n d m c u v : Int} {C : Value} {Ls : List (List Int)} {D : Nat} (h : IsH w W n d m c u v C Ls D) (hb : Below W.heap.size W W') : IsH w W' n d m c u v C Ls D := ⟨h.bx.next hb, h.ch.bel hb⟩
theorem IsH.drew {w W : World} {n d m c u v : Int} {C : Value} {Ls : List (List Int)} {D : Nat} (h : IsH w W n d m c u v C Ls D) : IsH w W.drew n d m c u v C Ls D := h.next ((Below.refl _ _).drew)
set_option maxRecDepth 100000 in
set_option maxHeartbeats 2000000 in
theorem Isolate_any (A : Option Addr) (k c0 : Nat) (L : List Int) (l D f r : Nat) (n d m c u v : Int) (w : World) (h : Pol .a w (.slice A k c0) L l) (hk : k ≤ 100) (hn : Fit n) (hd : Fit d) (hm : Fit m) (hc : Fit c) (hu : Fit u) (hv : Fit v)
    (hD : (l + 5) * 3 ^ pl L ≤ 3 * D) (hD2 : D ≤ 19999) (hr : risB n d m c = true) (hw : Maybe u v) (hu0 : 0 < u) (hf : fitP L = 0) (hs1 : sgP n d (trz L) ≠ 0) (hs2 : sgP m c (trz L) ≠ 0)
    (hsp : spF u v (chL L) f n d (higC n d (chL L)) m c (lowC m c (chL L)) = some r) :
    Calls Tryz.prog 26 #[.slice A k c0, .agg #[.int .i64 n, .int .i64 d], .agg #[.int .i64 m, .int .i64 c], .agg #[.int .i64 u, .int .i64 v]] w fun e w' => ∃ x, e = .returned (.tuple #[x, .int .i64 0]) ∧ Sp w' x r ∧ Below w.heap.size w w' := by
  have HH := Lib.hid (Gb.start w n d m c u v)
  have HR := Lib.hid (fun W => rising_any n d m c W hn hd hm hc)
  rw [hr] at HR
  have HM := Lib.hid (fun W => p_may u v W hu hv)
  rw [decide_eq_true hw] at HM
  have H := Lib.hid h
  obtain ⟨f1, f2, f3, f4, f5, f6⟩ := HH.out.rts
  obtain ⟨hp0, hp13⟩ := fit_pos hf
  have hmb : Maybe n d ∧ Maybe m c := by
    have := of_decide_eq_true hr
    exact ⟨this.1, this.2.1⟩
  have HC := Lib.hid (fun W h => chain_yes A k c0 L l D W h hp0 hp13 hk hD (by omega))
  obtain ⟨Ls, hLs⟩ : ∃ Ls, Ls = chL L := ⟨_, rfl⟩
  obtain ⟨x, hx⟩ : ∃ x, x = Ls.length := ⟨_, rfl⟩
  have hall := chL_all L hp0
  have hlen := chL_len L
  have hpg : pg Ls 0 = trz L := by rw [hLs]; exact chn_zero _ _
  rw [← hLs] at hall hlen hsp
  have HC := Lib.hid (show ∀ W, Pol .a W (.slice A k c0) L l → Calls Tryz.prog 9 #[.slice A k c0] W (CnE .c Ls D W) from hLs ▸ HC.out)
  have HX := Lib.hid hx.symm
  have g1 : ∀ i, i < x → (pg Ls i).length ≤ 100 := fun i hi => by have := hall i (by omega); omega
  have g2 : ∀ i, i < x → 0 < pl (pg Ls i) := fun i hi => by have := hall i (by omega); rw [pl_cf this.1]; omega
  have HP1 := Lib.hid (fun W B q (hw : Cn .c W (.slice B x q) Ls D) => placeOf_any B x q Ls D n d W hw (by omega) g1 g2 (by omega) hD2 hn hd hmb.1)
  have HP2 := Lib.hid (fun W B q (hw : Cn .c W (.slice B x q) Ls D) => placeOf_any B x q Ls D m c W hw (by omega) g1 g2 (by omega) hD2 hm hc hmb.2)
  rw [decide_eq_false (hpg ▸ hs1)] at HP1
  rw [decide_eq_false (hpg ▸ hs2)] at HP2
  have hl2 := higC_le n d Ls
  have hl3 := lowC_le m c Ls
  have HSP := Lib.hid (fun W B q (hw : Cn .c W (.slice B x q) Ls D) => spans_any u v Ls D x hu hv (by omega) g1 g2 (by omega) hD2 f n d (lowC n d Ls) (higC n d Ls) m c (lowC m c Ls) (higC m c Ls) B q r W hw hn hd hm hc (by omega) (by omega) hsp)
  have hu1 : ¬ u ≤ 0 := by omega
  clear h hn hd hm hc hu hv hr hf hD hmb hall hLs hx hlen hpg hs1 hs2 hsp g1 g2 hl2 hl3 hw
  go_enter Tryz.func26, Tryz.ntmps26
  go_upto_region 6 with (first
    | (go_at_call 45; (with_reducible refine (HR.out _).mono ?_); rintro e w1 ⟨rfl, hb⟩; have HH := Lib.hid (HH.out.next hb); clear hb f1 f2 f3 f4 f5 f6; obtain ⟨f1, f2, f3, f4, f5, f6⟩ := HH.out.rts)
    | (go_at_call 39; (with_reducible refine (HM.out _).mono ?_); rintro e w1 ⟨rfl, hb⟩; have HH := Lib.hid (HH.out.next hb); clear hb f1 f2 f3 f4 f5 f6; obtain ⟨f1, f2, f3, f4, f5, f6⟩ := HH.out.rts)
    | (go_at_call 9; (with_reducible refine (HC.out _ (H.out.bel HH.out.bel)).mono ?_); rintro e w2 ⟨B, q, rfl, hch, hb⟩; rw [HX.out] at hch ⊢; have HS := Lib.hid (show IsH w w2 n d m c u v (.slice B x q) Ls D from ⟨HH.out.next hb, hch⟩); clear hch hb f1 f2 f3 f4 f5 f6; obtain ⟨f1, f2, f3, f4, f5, f6⟩ := HS.out.bx.rts))
  go_region_held3 (fun w' => w'.cell? ⟨w.heap.size, 0, none⟩ = some (.int .i64 n) ∧ w'.cell? ⟨w.heap.size, 1, none⟩ = some (.int .i64 d) ∧ w'.cell? ⟨w.heap.size + 1, 0, none⟩ = some (.int .i64 m) ∧ w'.cell? ⟨w.heap.size + 1, 1, none⟩ = some (.int .i64 c) ∧ w'.cell? ⟨w.heap.size + 1 + 1, 0, none⟩ = some (.int .i64 u) ∧ w'.cell? ⟨w.heap.size + 1 + 1, 1, none⟩ = some (.int .i64 v))
    (first
      | with_reducible exact HS.out.bx.rts
      | with_reducible exact HS.out.drew.bx.rts)
    (first
      | (go_at_call 47; (first | (with_reducible refine (HP1.out _ B q HS.out.ch).mono ?_) | (have HS := Lib.hid HS.out.drew; with_reducible refine (HP1.out _ B q HS.out.ch).mono ?_)); rintro e w3 ⟨rfl, hb⟩; have HS := Lib.hid (HS.out.next hb); clear hb)
      | (go_at_call 47; (first | (with_reducible refine (HP2.out _ B q HS.out.ch).mono ?_) | (have HS := Lib.hid HS.out.drew; with_reducible refine (HP2.out _ B q HS.out.ch).mono ?_)); rintro e w3 ⟨rfl, hb⟩; have HS := Lib.hid (HS.out.next hb); clear hb)
      | (go_at_call 64; (with_reducible refine (HSP.out _ B q HS.out.ch).mono ?_); rintro e w3 ⟨xa, rfl, hz, hb⟩; have HZ := Lib.hid hz; have HS := Lib.hid (HS.out.next hb); clear hb hz))
  all_goals go_wp2_with fail
  all_goals go_ret2
  all_goals exact ⟨_, rfl, HZ.out, HS.out.bx.bel⟩
end Go.Proofs.YtpobhegllhhdgaaGreat
namespace Go.Proofs.YtpobhegllhhdgaaGreat
open Go.RowKit

/-- x^2 - 2. -/
def two : List Int := [-2, 0, 1]
theorem two_trz : trz two = two := by decide
theorem two_pl : pl two = 3 := by decide
theorem two_fit : fitP two = 0 := by decide
theorem two_ris : risB 0 1 2 1 = true := by decide
theorem two_len : (chL two).length = 3 := by decide +kernel
theorem two_cnt : cntZ 0 1 2 1 (chL two) = 1 := by decide +kernel
theorem two_neg : negB 0 1 2 1 two = true := by decide +kernel
theorem two_s1 : sgP 0 1 (trz two) ≠ 0 := by decide +kernel
theorem two_s2 : sgP 2 1 (trz two) ≠ 0 := by decide +kernel
theorem two_spans : spF 1 100 (chL two) 12 0 1 (higC 0 1 (chL two)) 2 1 (lowC 2 1 (chL two)) = some 1 := by decide +kernel
theorem two_ia (w : World) : Ia (w.alloc (.cells #[.int .i64 (-2), .int .i64 0, .int .i64 1] 2)) (.slice (some ⟨w.heap.size, 0, none⟩) 3 3) two := by
  have h : (w.alloc (.cells #[.int .i64 (-2), .int .i64 0, .int .i64 1] 2)).heap[w.heap.size]? = some (.cells #[.int .i64 (-2), .int .i64 0, .int .i64 1] 2 (0, 0)) := heap_alloc_new w _
  refine ⟨_, _, rfl, Nat.le_refl _, by unfold maxLen; show 3 ≤ _; omega, fun i => ?_, fun j hj => ⟨_, rfl, heap_lt h, ?_⟩⟩
  · rcases i with _ | _ | _ | i
    · show Fit (-2); unfold Fit; omega
    · show Fit 0; unfold Fit; omega
    · show Fit 1; unfold Fit; omega
    · rw [co_beyond (by show 3 ≤ _; omega)]; unfold Fit; omega
  · rw [add_at, cell_of_row _ _ j _ 2 (0, 0) h]
    have hj : j < 3 := hj
    rcases j with _ | _ | _ | j
    · rfl
    · rfl
    · rfl
    · omega
set_option maxRecDepth 100000 in
set_option maxHeartbeats 2000000 in
theorem awake_any (w : World) : Calls Tryz.prog 6 #[] w fun e w' => e = .returned (.bool true) ∧ Below w.heap.size w w' := by
  have f : Fit 0 ∧ Fit 1 ∧ Fit 2 ∧ Fit 100 := by unfold Fit; omega
  obtain ⟨q0, q1, q2, q3⟩ := f
  have h1 := fun A c W (h : Pol .a W (.slice A 3 c) two 2) => Count_any A 3 c two 2 100 0 1 2 1 W h (by omega) q0 q1 q2 q1 (.inl (by rw [two_pl]; omega)) (by omega)
  have h2 := fun A c W (h : Pol .a W (.slice A 3 c) two 2) => Negative_any A 3 c two 2 100 0 1 2 1 W h (by omega) q0 q1 q2 q1 (.inl ⟨by rw [two_pl]; omega, by omega⟩) (by omega)
  rw [two_ris, two_fit, if_pos rfl, if_pos rfl, if_pos rfl, two_cnt] at h1
  rw [two_ris, two_fit, if_pos rfl, if_pos rfl, if_pos rfl, two_neg] at h2
  have H1 := Lib.hid h1
  have H2 := Lib.hid h2
  have H3 := Lib.hid (fun A c W (h : Pol .a W (.slice A 3 c) two 2) => Isolate_any A 3 c two 2 100 12 1 0 1 2 1 1 100 W h (by omega) q0 q1 q2 q1 q1 q3 (by rw [two_pl]; omega) (by omega) two_ris (by decide) (by omega) two_fit two_s1 two_s2 two_spans)
  have h4 := fun A c W (h : Pol .a W (.slice A 3 c) two 2) => chain_yes A 3 c two 2 100 W h (by rw [two_pl]; omega) (by rw [two_pl]; omega) (by omega) (by rw [two_pl]; omega) (by omega)
  have H4 := Lib.hid h4
  have HL := Lib.hid (show (chn (trz two) (derP two)).length = 3 from two_len)
  have HO := Lib.hid (fun A W (h : Ia W (.slice A 3 3) two) => pof_any A 3 3 two W h (by omega))
  have HI := Lib.hid (And.intro (two_ia w) (bel_a w (.cells #[.int .i64 (-2), .int .i64 0, .int .i64 1] 2)))
  have HT := Lib.hid (show trz two = two ∧ two.length = 3 from ⟨two_trz, rfl⟩)
  clear h1 h2 h4 q0 q1 q2 q3
  go_enter Tryz.func6, Tryz.ntmps6
  go_upto_region 2 with (go_at_call 21; (with_reducible refine (HO.out _ _ HI.out.1).mono ?_); rintro e w1 he; rw [HT.out.1] at he; obtain ⟨A, c, rfl, hP, hb⟩ := he; rw [HT.out.2] at hP ⊢; have HP := Lib.hid hP.any; have HB := Lib.hid (bel_tr HI.out.2 hb); clear hP hb)
  go_upto_region 3 with fail
  have HX := Lib.hid (show BtH w1 ((w1.alloc (.cells #[.int .i64 0, .int .i64 1] 24)).alloc (.cells #[.int .i64 2, .int .i64 1] 24)) 0 1 2 1 from BtH.start w1 0 1 2 1)
  obtain ⟨W2, hW2⟩ : ∃ W, W = (w1.alloc (.cells #[.int .i64 0, .int .i64 1] 24)).alloc (.cells #[.int .i64 2, .int .i64 1] 24) := ⟨_, rfl⟩
  rw [← hW2] at HX ⊢
  clear hW2
  obtain ⟨f1, f2, f3, f4⟩ := HX.out.facts
  go_wp2_with (first
    | (go_at_call 16; (with_reducible refine (H1.out _ _ _ (HP.out.bel HX.out.bel)).mono ?_); rintro e w3 ⟨rfl, hb⟩; have HX := Lib.hid (HX.out.next hb); clear hb f1 f2 f3 f4; obtain ⟨f1, f2, f3, f4⟩ := HX.out.facts)
    | (go_at_call 17; (with_reducible refine (H2.out _ _ _ (HP.out.bel HX.out.bel)).mono ?_); rintro e w4 ⟨rfl, hb⟩; have HX := Lib.hid (HX.out.next hb); clear hb f1 f2 f3 f4; obtain ⟨f1, f2, f3, f4⟩ := HX.out.facts)
    | (go_at_call 26; (with_reducible refine (H3.out _ _ _ (HP.out.bel HX.out.bel)).mono ?_); rintro e w5 ⟨xs, rfl, hz, hb⟩; obtain ⟨sa, sc, _, _, _, _, rfl, _⟩ := hz; have HX := Lib.hid (HX.out.next hb); clear hb f1 f2 f3 f4; obtain ⟨f1, f2, f3, f4⟩ := HX.out.facts)
    | (go_at_call 9; (with_reducible refine (H4.out _ _ _ (HP.out.bel HX.out.bel)).mono ?_); rintro e w6 ⟨B, q, rfl, hch, hb⟩; rw [HL.out] at hch ⊢; have HX := Lib.hid (HX.out.next hb); clear hch hb f1 f2 f3 f4))
  go_ret
  exact ⟨rfl, bel_tr HB.out HX.out.bel⟩
end Go.Proofs.YtpobhegllhhdgaaGreat
