/- Proved here: what package big's Text answers. Condition: a number in any form, of at most 50000 digits, that lies in memory, and the library's table of powers of ten at its place. -/
import Derived.Test.YthmpkejdficmgaaDoorRb
import Derived.Test.YthmpkejdficmgaaDoorMf
import Derived.Outline
namespace Go.Proofs.YthmpkejdficmgaaDoor
open Go.RowKit
open Go.Lib (decDigits nDigits repeatL)

/-- What divide answers, with where its digits lie: in a new block. -/
def DivN (x y l : Nat) (w : World) (e : Ending) (w' : World) : Prop := ∃ g zs, e = .returned (.tuple #[.slice (some ⟨g, 0, none⟩) zs.length zs.length, .int .u64 ((x % y : Nat) : Int)]) ∧ Arr w' .u32 (.slice (some ⟨g, 0, none⟩) zs.length zs.length) zs ∧ Eg zs ∧ dw zs = x / y ∧ zs.length = l ∧ Below w.heap.size w w' ∧ w.heap.size ≤ g
set_option maxHeartbeats 2000000 in
set_option maxRecDepth 100000 in
theorem divide_new (v : Value) (xs : List Nat) (y : Nat) (w : World) (hv : Arr w .u32 v xs) (hx : Eg xs) (hxl : xs.length ≤ 100000) (hy : 0 < y) (hyl : y < 18446744073709551616) :
    Calls Tryd.prog 52 #[v, .int .u64 (y : Int)] w (DivN (dw xs) y xs.length w) := by
  obtain ⟨Av, cv, rfl⟩ := hv.slice
  obtain ⟨m, hm⟩ : ∃ m, m = xs.length := ⟨_, rfl⟩
  rw [← hm] at hv hxl
  have HV := Lib.hid hv
  have HX := Lib.hid hx
  have HYL := Lib.hid (And.intro hy hyl)
  have HS := Lib.hid (DivW.start w xs y m hy hm)
  have hmk := fun w => mk32 m (by omega) w (m : Int) rfl
  have HM := Lib.hid hm
  rw [← hm]
  clear hm hv hx hy hyl
  go_enter Tryd.func52, Tryd.ntmps52
  go_wp2_with fail
  go_loopw [7, 8] (fun r i wr => ∃ k rn : Nat, i = .int .i64 ((k : Int) - 1) ∧ r = .int .u64 (rn : Int) ∧ k ≤ m ∧ DivH w wr xs y k rn) (fun _ i _ => (intOf i + 1).toNat)
  case atStart => exact ⟨m, 0, rfl, rfl, Nat.le_refl _, _, HS.out⟩
  case round =>
    obtain ⟨k, rn, hk, rfl, hkm, os, hr⟩ := hrel
    rcases k with _ | k
    · obtain rfl : u8 = .int .i64 (-1) := hk
      have hf := hr.fin (by rw [← HM.out]; omega)
      rw [← HM.out] at hf
      have HF := Lib.hid hf
      have HB := Lib.hid hr.bel
      clear hf hr
      go_wp2_with fail
      go_ret2
      obtain ⟨f1, f2, f3, f4, f5⟩ := HF.out
      exact ⟨w.heap.size, os, by rw [f4, f5]; rfl, by rw [f5]; exact f1, f2, f3, f5, HB.out, Nat.le_refl _⟩
    · obtain rfl : u8 = .int .i64 (k : Int) := by rw [hk]; congr 1; omega
      clear hk
      have HVr := Lib.hid (HV.out.bel hr.bel)
      obtain ⟨ad, rfl, _, hca⟩ := HVr.out.get k (by rw [← HM.out]; omega)
      have hX : dat xs k < 4294967296 := HX.out k
      have hcell := hr.db.cell k (by rw [hr.len, ← HM.out]; omega)
      have hfr := hr.db.fr k
      have HR := Lib.hid hr
      have hrl : rn < 18446744073709551616 := Nat.lt_trans hr.rl HYL.out.2
      clear hr
      obtain ⟨S, hS⟩ : ∃ S, S = rn * 4294967296 % 18446744073709551616 + dat xs k := ⟨_, rfl⟩
      have F1 : bits .or .u64 (IntKind.u64.wrap ((rn : Int) * 4294967296)) (dat xs k : Int) = (S : Int) := by
        have e1 : IntKind.u64.wrap ((rn : Int) * 4294967296) = ((rn * 4294967296 % 18446744073709551616 : Nat) : Int) := by rw [wrap_u64m]; simp
        have e2 : rn * 4294967296 % 18446744073709551616 = 2 ^ 32 * (rn % 4294967296) := by omega
        rw [e1, bits_or_u64_nat _ _ (by omega) (by omega), e2, ← Nat.two_pow_add_eq_or_of_lt (by omega : dat xs k < 2 ^ 32), ← e2, hS]
      have hSl : S < 18446744073709551616 := by omega
      have hdv : rn / 4294967296 * 18446744073709551616 + S = rn * 4294967296 + dat xs k := by omega
      have hlt : rn / 4294967296 < y := Nat.lt_of_le_of_lt (Nat.div_le_self _ _) HR.out.rl
      have hd := fun w => div64_any (rn / 4294967296) S y w hlt hSl HYL.out.2
      rw [hdv] at hd
      obtain ⟨hi, hhi⟩ : ∃ hi, hi = rn / 4294967296 := ⟨_, rfl⟩
      have F0 : (rn : Int) / 4294967296 = (hi : Int) := by rw [hhi]; simp
      obtain ⟨Q, hQ⟩ : ∃ Q, Q = (rn * 4294967296 + dat xs k) / y := ⟨_, rfl⟩
      obtain ⟨R, hR⟩ : ∃ R, R = (rn * 4294967296 + dat xs k) % y := ⟨_, rfl⟩
      have hQl := (HR.out.step (Below.refl _ _) HX.out (by rw [← HM.out]; omega) HYL.out.1 hQ hR).1
      rw [← hhi, ← hQ, ← hR] at hd
      have HD := Lib.hid (fun w => hd w)
      have HQ := Lib.hid (And.intro hQ hR)
      clear hS hSl hdv hlt hd hhi hQ hR
      go_wp2_with (go_at_call 66; (with_reducible refine (HD.out _).mono ?_); rintro e w' ⟨rfl, n1, rfl⟩)
      have hn := (HR.out.step (W := wr.drewN n1) (below_drewN (Below.refl _ _) _) HX.out (by rw [← HM.out]; omega) HYL.out.1 HQ.out.1 HQ.out.2).2
      exact ⟨⟨k, R, rfl, rfl, by omega, _, hn⟩, by simp [intOf]⟩
/-- What divide answers at 10 to the power 19. -/
def ChE (x l : Nat) (w : World) (e : Ending) (w' : World) : Prop := ∃ (g n r : Nat) (zs : List Nat), e = .returned (.tuple #[.slice (some ⟨g, 0, none⟩) n n, .int .u64 (r : Int)]) ∧ r = x % ck ∧ Arr w' .u32 (.slice (some ⟨g, 0, none⟩) n n) zs ∧ Eg zs ∧ dw zs = x / ck ∧ n = l ∧ Below w.heap.size w w' ∧ w.heap.size ≤ g
theorem divide_ck (v : Value) (xs : List Nat) (w : World) (hv : Arr w .u32 v xs) (hx : Eg xs) (hxl : xs.length ≤ 100000) :
    Calls Tryd.prog 52 #[v, .int .u64 10000000000000000000] w (ChE (dw xs) xs.length w) :=
  (divide_new v xs ck w hv hx hxl ck_pos ck_lt).mono fun _ _ ⟨g, zs, h1, h2, h3, h4, h5, h6, h7⟩ => ⟨g, zs.length, _, zs, h1, rfl, h2, h3, h4, h5, h6, h7⟩
/-- What holds at each round's head of Text's first loop; m is what is told, ch the pieces so far. -/
structure Tx1 (w wr : World) (b : Bool) (v : Value) (m L : Nat) (z x : Value) (ch xs : List Nat) : Prop where
  own : wr.ownsRow (w.heap.size + 1) 60 1 z ch.length (cs .u64 ch)
  arr : Arr wr .u32 x xs
  eg : Eg xs
  top : Top xs
  len : xs.length + ch.length ≤ L
  pg : Pg ch
  val : m = pv ch + ck ^ ch.length * dw xs
  last : xs = [] → ∃ h : ch ≠ [], 0 < ch.getLast h
  bx : Bx 24 wr w.heap.size b v
  bel : Below w.heap.size w wr
  size : w.heap.size + 1 ≤ wr.heap.size
def lenOf : Value → Nat
  | .slice _ n _ => n
  | _ => 0
theorem Arr.far_grown {w w2 : World} {k : IntKind} {g m c : Nat} {xs : List Nat} {row : Option Nat} (h : Arr w k (.slice (some ⟨g, 0, none⟩) m c) xs) (hg : w.grownBy w2 row) (hr : row ≠ some g) : Arr w2 k (.slice (some ⟨g, 0, none⟩) m c) xs := by
  obtain ⟨A', c', h1, h2, h3, h4, h5⟩ := h
  refine ⟨A', c', h1, h2, h3, h4, fun ad ha => ⟨Nat.lt_of_lt_of_le (h5 ad ha).1 hg.size, fun j hj => ?_⟩⟩
  injection h1 with e1
  have hb : ad.block = g := by
    rw [← e1] at ha
    injection ha with ha
    rw [← ha]
  have hlt := (h5 ad ha).1
  rw [World.cell?_of_block (hg.block (ad.add j).block (by rw [block_of_add]; exact hlt) (fun e => hr (by rw [← e, block_of_add, hb])))]
  exact (h5 ad ha).2 j hj
/-- One piece is appended to a row of the call's own: what stands in other blocks stays. -/
theorem push_keep {ops : Array Oper} {rest : List Oper} {o : Oper} {a : Act} {Q : Exit → Act → World → Prop} {wr : World} (hgd : o.guard = none) (s x : Operand)
    (ho : o.op = .call { callee := .builtin .append, args := #[s, x], argTypes := #[26, 26] }) (base : Nat) (v : Value) (n : Nat) (zs : List Nat) (d : Nat) (hs : a.eval s = v)
    (hown : wr.ownsRow base 60 1 v n (cs .u64 zs)) (hbase : base ≤ wr.heap.size) (hn : n ≤ 1000000) (hx : a.eval x = .slice (some ⟨wr.heap.size, 0, none⟩) 1 1)
    (h : ∀ A m c w', w'.ownsRow base 60 1 (.slice A m c) (n + 1) (cs .u64 (zs ++ [d])) → Below base wr w' → (wr.alloc (.cells #[.int .u64 (d : Int)] 60)).grownBy w' v.ownBlock → wpList Tryd.prog ops Q rest (a.put o.dst (.slice A m c)) w') :
    wpList Tryd.prog ops Q (o :: rest) a (wr.alloc (.cells #[.int .u64 (d : Int)] 60)) := by
  obtain ⟨i0, hi0, hz0, hz1, hz2⟩ := info_parts Tryd.info60
  refine wpList_append_own _ hgd s x 26 ho base 60 i0 _ 1 8 Tryd.underlying26 hi0 hz0 hz1 hz2 rfl (by decide) v n (cs .u64 zs) hs (hown.alloc _) ⟨wr.heap.size, 0, none⟩ 1 1 [.int .u64 (d : Int)] hx rfl ?_ ?_ ?_ ?_ ?_ ?_
  · exact cell_one_new _ _ _
  · intro u hu
    simp at hu
    subst hu
    rfl
  · unfold maxLen; omega
  · omega
  · simp; omega
  · intro v' w' h1 h2 _
    rw [← cs_snoc] at h1
    obtain ⟨A, c, rfl⟩ := (Arr.of_own (k := .u64) h1).slice
    exact h A _ c w' h1 (((Below.refl _ _).alloc hbase _).grown h2 (by simp; omega) (fun k hk => (hown.lt k hk).1)) h2
theorem Tx1.step {w wr w1 w2 : World} {b : Bool} {v z x z' : Value} {m L k n : Nat} {ch xs zs : List Nat} {A : Option Addr} (h : Tx1 w wr b v m L z x ch xs) (hk : xs.length = k + 1)
    (hb1 : Below wr.heap.size wr w1) (hze : Eg zs) (hzv : dw zs = dw xs / ck) (hown : w2.ownsRow (w.heap.size + 1) 60 1 z' (ch.length + 1) (cs .u64 (ch ++ [dw xs % ck]))) (hb2 : Below (w.heap.size + 1) w1 w2)
    (hz2 : Arr w2 .u32 (.slice A n n) zs) :
    Tx1 w w2 b v m L z' (.slice A (tl zs) n) (ch ++ [dw xs % ck]) (tr zs) ∧ tl zs < k + 1 := by
  have hq : tl zs ≤ k := by
    rw [← tr_len]
    apply top_len32 (tr_top zs)
    rw [tr_dw, hzv]
    apply quo_shorter
    have := dw_lt h.eg
    rw [hk] at this
    exact this
  refine ⟨⟨by simpa using hown, hz2.tr, tr_eg hze, tr_top zs, ?_, ?_, ?_, ?_, ?_, ?_, ?_⟩, by omega⟩
  · have := h.len
    rw [tr_len]
    simp only [List.length_append, List.length_cons, List.length_nil]
    omega
  · intro c hc
    rcases List.mem_append.1 hc with h1 | h1
    · exact h.pg c h1
    · simp at h1
      rw [h1]
      exact Nat.mod_lt _ ck_pos
  · rw [pv_snoc, tr_dw, hzv, h.val, List.length_append, List.length_cons, List.length_nil, Nat.pow_succ]
    have hd := Nat.div_add_mod (dw xs) ck
    generalize dw xs / ck = q at *
    generalize dw xs % ck = r at *
    rw [← hd]
    generalize ck ^ ch.length = P
    rw [Nat.mul_add, Nat.mul_assoc, Nat.add_assoc]
    congr 1
    rw [Nat.add_comm]
  · intro h0
    refine ⟨by simp, ?_⟩
    rw [List.getLast_append_of_ne_nil (by simp) (by simp)]
    show 0 < dw xs % ck
    have h1 : dw xs / ck = 0 := by rw [← hzv, ← tr_dw, h0]; rfl
    have h2 := Nat.div_add_mod (dw xs) ck
    rw [h1] at h2
    have h3 : dw xs ≠ 0 := fun h4 => by
      have := (top_zero32 h.top).1 h4
      rw [this] at hk
      simp at hk
    omega
  · exact (h.bx.bel hb1).below hb2 (by omega)
  · exact (bel_tr h.bel hb1).trans (hb2.mono (by omega))
  · exact Nat.le_trans h.size (Nat.le_trans hb1.size hb2.size)
theorem Tx1.start {w W : World} {b : Bool} {v x : Value} {xs : List Nat} {L : Nat} (hx : Arr W .u32 x xs) (he : Eg xs) (ht : Top xs) (hne : xs ≠ []) (hl : xs.length ≤ L) (hb : Bx 24 W w.heap.size b v) (hbel : Below w.heap.size w W) (hs : w.heap.size + 1 ≤ W.heap.size) :
    Tx1 w W b v (dw xs) L (.slice none 0 0) x [] xs :=
  ⟨World.ownsRow_nil _ _ _ _, hx, he, ht, by simpa using hl, fun c hc => by simp at hc, by simp [pv], fun h => absurd h hne, hb, hbel, hs⟩
/-- Behind the first loop: the pieces of the number. -/
structure Tx2 (w W : World) (b : Bool) (v : Value) (m L : Nat) (z : Value) (ch : List Nat) : Prop where
  arr : Arr W .u64 z ch
  ne : ch ≠ []
  pg : Pg ch
  txt : dch ch = decDigits m
  len : ch.length ≤ L
  bx : Bx 24 W w.heap.size b v
  bel : Below w.heap.size w W
theorem Tx1.fin {w wr : World} {b : Bool} {v z x : Value} {m L : Nat} {ch : List Nat} (h : Tx1 w wr b v m L z x ch []) : Tx2 w wr b v m L z ch := by
  obtain ⟨hne, hpos⟩ := h.last rfl
  have hv := h.val
  simp only [dw, Nat.mul_zero, Nat.add_zero] at hv
  refine ⟨Arr.of_own h.own, hne, h.pg, ?_, by simpa using h.len, h.bx, h.bel⟩
  rw [hv]
  exact (dch_val ch h.pg hne hpos).1
theorem Tx2.next {w W W' : World} {b : Bool} {v z : Value} {m L : Nat} {ch : List Nat} (h : Tx2 w W b v m L z ch) (hb : Below W.heap.size W W') : Tx2 w W' b v m L z ch :=
  ⟨h.arr.bel hb, h.ne, h.pg, h.txt, h.len, h.bx.bel hb, bel_tr h.bel hb⟩
theorem own_keep {w w' : World} {B n : Nat} {e : TypeId} {v : Value} {xs : List Value} (h : w.ownsRow B e 1 v n xs) (hb : Below w.heap.size w w') : w'.ownsRow B e 1 v n xs := by
  refine ⟨h.1, ?_⟩
  rcases h.2 with h0 | ⟨g, cap, cur, hv, hg, hh, rest⟩
  · exact .inl h0
  · have hgl : g < w.heap.size := by
      rcases Nat.lt_or_ge g w.heap.size with h' | h'
      · exact h'
      · rw [Array.getElem?_eq_none h'] at hh; cases hh
    exact .inr ⟨g, cap, cur, hv, hg, by rw [hb.block g hgl]; exact hh, rest⟩
theorem tx_step {w wr w1 w2 : World} {b : Bool} {v z x z' : Value} {m L k n r g : Nat} {ch xs zs : List Nat} (h : Tx1 w wr b v m L z x ch xs) (hk : xs.length = k + 1) (hr : r = dw xs % ck) (hz : Arr w1 .u32 (.slice (some ⟨g, 0, none⟩) n n) zs)
    (hze : Eg zs) (hzv : dw zs = dw xs / ck) (hb1 : Below wr.heap.size wr w1) (hg : wr.heap.size ≤ g) (hown : w2.ownsRow (w.heap.size + 1) 60 1 z' (ch.length + 1) (cs .u64 (ch ++ [r]))) (hb2 : Below (w.heap.size + 1) w1 w2)
    (hgr : (w1.alloc (.cells #[.int .u64 (r : Int)] 60)).grownBy w2 z.ownBlock) :
    Arr w2 .u32 (.slice (some ⟨g, 0, none⟩) n n) zs ∧ Tx1 w w2 b v m L z' (.slice (some ⟨g, 0, none⟩) (tl zs) n) (ch ++ [r]) (tr zs) ∧ tl zs < k + 1 := by
  have hz2 : Arr w2 .u32 (.slice (some ⟨g, 0, none⟩) n n) zs := (hz.alloc (.cells #[.int .u64 (r : Int)] 60)).far_grown hgr (fun e => by have := (h.own.lt g e).2; omega)
  subst hr
  exact ⟨hz2, h.step hk hb1 hze hzv hown hb2 hz2⟩
theorem wb_any (B b : Nat) (l : List UInt8) (w : World) (h : Bld B b l w) (hlen : l.length ≤ 1000000) (hBw : B ≤ w.heap.size) :
    Calls Tryd.prog 53 #[.pointer (some ⟨b, 0, none⟩), .int .u8 45] w fun e w' => e = .returned .nilIface ∧ Bld B b (l ++ [45]) w' ∧ Below B w w' :=
  (wbyte_any B b _ 45 w h (by rw [Lib.byteCells_length]; exact hlen) hBw).mono fun _ _ ⟨h1, h2, h3⟩ => ⟨h1, by unfold Bld; rw [Lib.byteCells_append]; exact h2, h3⟩
theorem ws_any (B b : Nat) (l : List UInt8) (s : ByteArray) (w : World) (h : Bld B b l w) (hlen : l.length + s.size ≤ 1000000) (hBw : B ≤ w.heap.size) :
    Calls Tryd.prog 55 #[.pointer (some ⟨b, 0, none⟩), .string s] w fun e w' => e = .returned (.tuple #[.int .i64 s.size, .nilIface]) ∧ Bld B b (l ++ s.data.toList) w' ∧ Below B w w' :=
  (wstr_any B b _ s w h (by rw [Lib.byteCells_length]; exact hlen) hBw).mono fun _ _ ⟨h1, h2, h3⟩ => ⟨h1, by unfold Bld; rw [Lib.byteCells_append, ← Lib.strCells_eq]; exact h2, h3⟩
theorem Bld.bel {B b : Nat} {l : List UInt8} {w w' : World} (h : Bld B b l w) (hb : Below w.heap.size w w') : Bld B b l w' := by
  rcases h with ⟨hB, v, hbk, ho, hn⟩ | ⟨hB, v, hbk, ho, hn⟩
  all_goals
    have hlt : b < w.heap.size := by
      rcases Nat.lt_or_ge b w.heap.size with h' | h'
      · exact h'
      · simp [Array.getElem?_eq_none h'] at hbk
    have ho' : w'.ownsRow B 5 1 v (Lib.byteCells l).length (Lib.byteCells l) := by
      refine ⟨ho.1, ?_⟩
      rcases ho.2 with h0 | ⟨g, cap, cur, hv, hg, hh, rest⟩
      · exact .inl h0
      · have hgl : g < w.heap.size := by
          rcases Nat.lt_or_ge g w.heap.size with h' | h'
          · exact h'
          · rw [Array.getElem?_eq_none h'] at hh; cases hh
        exact .inr ⟨g, cap, cur, hv, hg, by rw [hb.block g hgl]; exact hh, rest⟩
  · exact .inl ⟨hB, v, (hb.block b hlt).trans hbk, ho', hn⟩
  · exact .inr ⟨hB, v, (hb.block b hlt).trans hbk, ho', hn⟩
theorem Bld.new (w : World) : Bld w.heap.size w.heap.size [] (w.alloc (.cells #[.pointer none, .slice none 0 0] 80)) :=
  .inl ⟨Nat.le_refl _, _, heap_alloc_new w _, World.ownsRow_nil _ _ _ _, by simp [Value.ownBlock]⟩
/-- What holds at each round's head of Text's second loop: the builder holds what is told of the pieces from k on. -/
structure Tx3 (W wr : World) (ch : List Nat) (pre : List UInt8) (k : Nat) : Prop where
  bld : Bld W.heap.size W.heap.size (pre ++ dch (ch.drop k)) wr
  bel : Below W.heap.size W wr
  size : W.heap.size ≤ wr.heap.size
theorem drop_len (ch : List Nat) (hl : Pg ch) (k : Nat) : (dch (ch.drop k)).length ≤ 19 * ch.length := by
  have := dch_len (ch.drop k) (fun c hc => hl c (List.mem_of_mem_drop hc))
  have h2 : (ch.drop k).length ≤ ch.length := by simp
  exact Nat.le_trans this (Nat.mul_le_mul_left _ h2)
theorem decS_size (x : Nat) : (decS x).size = nDigits x := by
  show (decDigits x).toArray.size = _
  rw [List.size_toArray, Lib.decDigits_length]
theorem rep_any (c : Nat) (w : World) (hc : c ≤ 19) : Calls Tryd.prog 56 #[.string ⟨#[48]⟩, .int .i64 (c : Int)] w fun e w' => e = .returned (.string ⟨(repeatL [48] c).toArray⟩) ∧ Below w.heap.size w w' :=
  Tryd.strings_Repeat ⟨#[48]⟩ c w (by omega) (by show 1 * c ≤ _; omega)
theorem rep_sub (T : Nat) (w : World) (hT : T ≤ 19) : Calls Tryd.prog 56 #[.string ⟨#[48]⟩, .int .i64 (19 - (T : Int))] w fun e w' => e = .returned (.string ⟨(repeatL [48] (19 - T)).toArray⟩) ∧ Below w.heap.size w w' := by
  have := rep_any (19 - T) w (by omega)
  rw [show ((19 - T : Nat) : Int) = 19 - (T : Int) by omega] at this
  exact this
theorem Tx3.start {W w' : World} {ch : List Nat} {pre : List UInt8} (h : Bld W.heap.size W.heap.size pre w') (hb : Below W.heap.size W w') : Tx3 W w' ch pre ch.length := by
  refine ⟨?_, hb, hb.size⟩
  rw [List.drop_length]
  simpa [dch] using h
theorem Tx3.last {W wr w' : World} {ch : List Nat} {pre : List UInt8} {k : Nat} (h : Tx3 W wr ch pre (k + 1)) (hk : k + 1 = ch.length)
    (hb : Bld W.heap.size W.heap.size ((pre ++ dch (ch.drop (k + 1))) ++ (decS (dat ch k)).data.toList) w') (hbe : Below W.heap.size wr w') : Tx3 W w' ch pre k := by
  refine ⟨?_, h.bel.trans hbe, Nat.le_trans h.size hbe.size⟩
  rw [dch_last hk]
  have e1 : ch.drop (k + 1) = [] := List.drop_eq_nil_of_le (by omega)
  rw [e1] at hb
  simpa [dch, decS] using hb
theorem Tx3.more {W wr w' : World} {ch : List Nat} {pre : List UInt8} {k T : Nat} (h : Tx3 W wr ch pre (k + 1)) (hk : k + 1 < ch.length) (hT : T = (decS (dat ch k)).size)
    (hb : Bld W.heap.size W.heap.size (((pre ++ dch (ch.drop (k + 1))) ++ (⟨(repeatL [48] (19 - T)).toArray⟩ : ByteArray).data.toList) ++ (decS (dat ch k)).data.toList) w') (hbe : Below W.heap.size wr w') : Tx3 W w' ch pre k := by
  refine ⟨?_, h.bel.trans hbe, Nat.le_trans h.size hbe.size⟩
  rw [dch_drop (by omega) hk]
  rw [hT, decS_size] at hb
  simpa [decS] using hb
theorem rep_size (T : Nat) : (⟨(repeatL [48] (19 - T)).toArray⟩ : ByteArray).size ≤ 19 := by
  show (repeatL [48] (19 - T)).toArray.size ≤ 19
  rw [List.size_toArray, show (repeatL [48] (19 - T)).length = (19 - T) from by simp [Lib.repeatL_length]]
  omega
theorem str_any (B b : Nat) (l : List UInt8) (w : World) (h : Bld B b l w) (hBw : B ≤ w.heap.size) :
    Calls Tryd.prog 57 #[.pointer (some ⟨b, 0, none⟩)] w fun e w' => e = .returned (.string ⟨l.toArray⟩) ∧ Below B w w' := Tryd.Builder_String_any B b l w h hBw
set_option maxHeartbeats 8000000 in
set_option maxRecDepth 100000 in
theorem text_pos_n (v : Value) (xs : List Nat) (w : World) (hv : Arr w .u32 v xs) (hx : Eg xs) (hl : xs.length ≤ 50000) (hpos : dw xs ≠ 0) (ht : Tab w) :
    Calls Tryd.prog 30 #[.agg #[.bool true, v]] w fun e w' => e = .returned (.string ⟨(([45] : List UInt8) ++ decDigits (dw xs)).toArray⟩) ∧ Below w.heap.size w w' := by
  obtain ⟨A, c, rfl⟩ := hv.slice
  obtain ⟨p, hp⟩ : ∃ p, p = xs.length := ⟨_, rfl⟩
  rw [← hp] at hv hl ⊢
  have hne : tr xs ≠ [] := fun h => hpos (by rw [← tr_dw, h]; rfl)
  have hk0 : tl xs ≠ 0 := fun h => hne (List.eq_nil_of_length_eq_zero (by rw [tr_len]; exact h))
  have hb0 : ((tl xs : Int) == 0) = false := by simp; omega
  have HV := Lib.hid (hv.alloc (.cells #[.bool true, .slice A p c] 24))
  have H1 := Lib.hid (Tx1.start (w := w) (b := true) (v := .slice A p c) (x := .slice A (tl xs) c) (L := 50000) HV.out.tr (tr_eg hx) (tr_top xs) hne (by rw [tr_len]; have := tr_le xs; omega) (Bx.new 24 w true (.slice A p c)) (bel_a w _) (by simp))
  rw [tr_dw] at H1
  have HT := Lib.hid ht
  obtain ⟨PRE0, hPRE⟩ : ∃ P : List UInt8, P = ([45] : List UInt8) := ⟨_, rfl⟩
  have hPl : PRE0.length ≤ 1 := by rw [hPRE]; decide
  clear hv hx hpos ht hp hne hk0
  go_enter Tryd.func30, Tryd.ntmps30
  go_wp2_with (go_at_call 37; (with_reducible refine (trim32_w A p c xs _ HV.out).mono ?_); rintro e w1 ⟨rfl, rfl⟩)
  go_loopw [3, 4] (fun x z wr => ∃ ch ys, Tx1 w wr true (.slice A p c) (dw xs) 50000 z x ch ys) (fun x _ _ => lenOf x)
  case atStart => exact ⟨_, _, H1.out⟩
  case round =>
    obtain ⟨ch, ys, hr⟩ := hrel
    obtain ⟨A', c', rfl⟩ := hr.arr.slice
    have HR := Lib.hid hr
    clear hr
    obtain ⟨n, hn⟩ : ∃ n, n = ys.length := ⟨_, rfl⟩
    rw [← hn] at HR ⊢
    have hnl : n ≤ 50000 := by have := HR.out.len; omega
    have hcl : ch.length ≤ 50000 := by have := HR.out.len; omega
    have HN := Lib.hid hn
    clear hn
    rcases n with _ | n
    · have hys : ys = [] := List.eq_nil_of_length_eq_zero HN.out.symm
      subst hys
      have h2 := HR.out.fin
      obtain ⟨Az, cz, rfl⟩ := h2.arr.slice
      have hAl : Arr (wr.alloc (.cells #[.pointer none, .slice none 0 0] 80)) .u64 (.slice Az ch.length cz) ch := h2.arr.alloc _
      have HAl := Lib.hid hAl
      have hbx := h2.bx.bel (bel_a wr (.cells #[.pointer none, .slice none 0 0] 80))
      have g0 := hbx.c0
      have H2 := Lib.hid h2
      have HTW := Lib.hid (HT.out.below (w' := wr) h2.bel)
      have HB := Lib.hid (Bld.new wr)
      have HBA := Lib.hid (bel_a wr (.cells #[.pointer none, .slice none 0 0] 80))
      have hq0 : ch.length ≠ 0 := fun h => h2.ne (List.eq_nil_of_length_eq_zero h)
      have HDL := Lib.hid (fun k => drop_len ch h2.pg k)
      clear h2 hAl hbx
      obtain ⟨q, hq⟩ : ∃ q, q = ch.length := ⟨_, rfl⟩
      rw [← hq] at hcl hq0 ⊢ HAl HDL
      have HQ := Lib.hid hq
      clear hq
      go_wp2_with (go_at_call 53; (with_reducible refine (wb_any wr.heap.size wr.heap.size [] _ HB.out (by decide) (by simp)).mono ?_); rintro e w1 ⟨rfl, hb1, hbe1⟩; have HST := Lib.hid (Tx3.start (ch := ch) hb1 (HBA.out.trans hbe1)); rw [List.nil_append, ← hPRE, ← HQ.out] at HST; clear hb1 hbe1)
      obtain ⟨WW, hWW⟩ : ∃ W, W = wr := ⟨_, rfl⟩
      subst wr
      go_loopw [9] (fun i wv => ∃ k : Nat, i = .int .i64 ((k : Int) - 1) ∧ k ≤ q ∧ Tx3 WW wv ch PRE0 k) (fun i _ => (intOf i + 1).toNat)
      case atStart => exact ⟨q, rfl, Nat.le_refl _, HST.out⟩
      case round =>
        obtain ⟨k, hk, hkq, hr⟩ := hrel
        rcases k with _ | k
        · obtain rfl : u9 = .int .i64 (-1) := hk
          have HF := Lib.hid hr
          clear hr
          go_wp2_with (go_at_call 57; (with_reducible refine (str_any WW.heap.size WW.heap.size _ _ HF.out.bld HF.out.size).mono ?_); rintro e w3 ⟨rfl, hbe⟩)
          go_ret
          refine ⟨?_, bel_tr H2.out.bel (HF.out.bel.trans hbe)⟩
          rw [← H2.out.txt]
          first | rfl | (subst hPRE; rfl) | (rw [hPRE]; rfl)
        · obtain rfl : u9 = .int .i64 (k : Int) := by rw [hk]; congr 1; omega
          clear hk
          have HVr := Lib.hid ((H2.out.arr).bel hr.bel)
          obtain ⟨ad, rfl, _, hca⟩ := HVr.out.get k (by rw [← HQ.out]; omega)
          have hdl : dat ch k < ck := by
            have hkl : k < ch.length := by rw [← HQ.out]; omega
            have := H2.out.pg ch[k] (List.getElem_mem hkl)
            simpa [dat, hkl] using this
          have HTR := Lib.hid (HTW.out.below hr.bel)
          have hT : (decS (dat ch k)).size ≤ 19 := by rw [decS_size]; exact pg_nd hdl
          have HD64 := Lib.hid (Nat.lt_trans hdl ck_lt)
          have HR2 := Lib.hid hr
          have hL : (PRE0 ++ dch (ch.drop (k + 1))).length ≤ 1 + 950000 := by
            rw [List.length_append]
            have := HDL.out (k + 1)
            have h3 : 19 * ch.length ≤ 950000 := by rw [← HQ.out]; omega
            omega
          clear hr hdl
          rcases Nat.lt_or_ge (k + 1) q with hlast | hlast
          · have hd : decide ((k : Int) < (q : Int) - 1) = true := decide_eq_true (by omega)
            have hl5 : ((PRE0 ++ dch (ch.drop (k + 1))) ++ repeatL [48] (19 - (decS (dat ch k)).size)).length + (decS (dat ch k)).size ≤ 1000000 := by
              rw [List.length_append, show (repeatL [48] (19 - (decS (dat ch k)).size)).length = 19 - (decS (dat ch k)).size from by simp [Lib.repeatL_length]]
              omega
            go_wp2_with (first
              | (go_at_call 54; (with_reducible refine (fmt_any (dat ch k) _ HD64.out HTR.out).mono ?_); rintro e w3 ⟨rfl, hbe3⟩; have HB3 := Lib.hid (HR2.out.bld.bel hbe3); have hs3 : WW.heap.size ≤ w3.heap.size := Nat.le_trans HR2.out.size hbe3.size; have HE3 := Lib.hid (hbe3.mono HR2.out.size); clear hbe3)
              | (go_at_call 56; (with_reducible refine (rep_sub _ _ hT).mono ?_); rintro e w4 ⟨rfl, hbe4⟩; have HB4 := Lib.hid (HB3.out.bel hbe4); have hs4 : WW.heap.size ≤ w4.heap.size := Nat.le_trans hs3 hbe4.size; have HE4 := Lib.hid (HE3.out.trans (hbe4.mono hs3)); clear hbe4)
              | (go_at_call 55; (with_reducible refine (ws_any WW.heap.size WW.heap.size _ _ _ HB4.out (by have := rep_size (decS (dat ch k)).size; omega) hs4).mono ?_); rintro e w5 ⟨rfl, hb5, hbe5⟩; have HB5 := Lib.hid hb5; have hs5 : WW.heap.size ≤ w5.heap.size := Nat.le_trans hs4 hbe5.size; have HE5 := Lib.hid (HE4.out.trans hbe5); clear hb5 hbe5)
              | (go_at_call 55; (with_reducible refine (ws_any WW.heap.size WW.heap.size _ (decS (dat ch k)) _ HB5.out hl5 hs5).mono ?_); rintro e w6 ⟨rfl, hb6, hbe6⟩; have HB6 := Lib.hid hb6; have HE6 := Lib.hid (HE5.out.trans hbe6); clear hb6 hbe6))
            exact ⟨⟨k, rfl, by omega, HR2.out.more (by rw [← HQ.out]; exact hlast) rfl HB6.out HE6.out⟩, by simp [intOf]⟩
          · have hd : decide ((k : Int) < (q : Int) - 1) = false := decide_eq_false (by omega)
            go_wp2_with (first
              | (go_at_call 54; (with_reducible refine (fmt_any (dat ch k) _ HD64.out HTR.out).mono ?_); rintro e w3 ⟨rfl, hbe3⟩; have HB3 := Lib.hid (HR2.out.bld.bel hbe3); have hs3 : WW.heap.size ≤ w3.heap.size := Nat.le_trans HR2.out.size hbe3.size; have HE3 := Lib.hid (hbe3.mono HR2.out.size); clear hbe3)
              | (go_at_call 55; (with_reducible refine (ws_any WW.heap.size WW.heap.size _ (decS (dat ch k)) _ HB3.out (by omega) hs3).mono ?_); rintro e w6 ⟨rfl, hb6, hbe6⟩; have HB6 := Lib.hid hb6; have HE6 := Lib.hid (HE3.out.trans hbe6); clear hb6 hbe6))
            exact ⟨⟨k, rfl, by omega, HR2.out.last (by rw [← HQ.out]; omega) HB6.out HE6.out⟩, by simp [intOf]⟩
    · have hdv := Lib.hid (divide_ck (.slice A' (n + 1) c') ys wr HR.out.arr HR.out.eg (by rw [← HN.out]; omega))
      obtain ⟨Az, cz, rfl⟩ := (Arr.of_own (k := .u64) HR.out.own).slice
      go_wp2_with (first
        | (go_at_call 52; (with_reducible refine hdv.out.mono ?_); rintro e w1 ⟨g, nn, r, zs, rfl, hr1, hz, hze, hzv, hnn, hb1, hgg⟩; have HZ := Lib.hid (And.intro hr1 (And.intro hz (And.intro hze (And.intro hzv (And.intro hnn (And.intro hb1 hgg)))))); have hown1 := Lib.hid (own_keep HR.out.own hb1); have hs1 : w.heap.size + 1 ≤ w1.heap.size := Nat.le_trans HR.out.size hb1.size; clear hr1 hz hze hzv hnn hb1 hgg)
        | (at_builtin; go_must (refine push_keep rfl (.tmp 25) (.tmp 27) rfl (w.heap.size + 1) (.slice Az ch.length cz) ch.length ch r rfl hown1.out hs1 (by omega) rfl ?_); intro A2 m2 c2 w2 hown2 hb2 hg2; have HW := Lib.hid (tx_step HR.out HN.out.symm HZ.out.1 HZ.out.2.1 HZ.out.2.2.1 HZ.out.2.2.2.1 HZ.out.2.2.2.2.2.1 HZ.out.2.2.2.2.2.2 hown2 hb2 hg2); have HZ2 := Lib.hid (HW.out.1); clear hown2 hb2 hg2)
        | (go_at_call 37; (with_reducible refine (trim32_w (some ⟨g, 0, none⟩) nn nn zs _ HZ2.out).mono ?_); rintro e w1 ⟨rfl, rfl⟩))
      exact ⟨⟨_, _, HW.out.2.1⟩, HW.out.2.2⟩
end Go.Proofs.YthmpkejdficmgaaDoor
