/- Proved here: what the reference package's To answers and leaves in memory. Condition: a number in its one form, of at most 100000 digits, that lies in memory. -/
import Derived.Test.YthmpkejdficmgaaDoorQc
namespace Go.Proofs.YthmpkejdficmgaaDoor
open Go.RowKit

/-- One digit of package big is appended to a row of the call's own, at a step of a region that draws its order. -/
theorem step_one0 {ops : Array Oper} {o : Oper} {a : Act} {K : Act → World → Prop} {Q : Exit → Act → World → Prop} {E0 : Prop} {wr : World} (hgd : o.guard = none) (s x : Operand)
    (ho : o.op = .call { callee := .builtin .append, args := #[s, x], argTypes := #[22, 22] }) (base : Nat) (v : Value) (n : Nat) (zs : List Nat) (d : Nat) (hs : a.eval s = v)
    (hown : wr.ownsRow base 61 1 v n (cs .u32 zs)) (D : Int) (hD : D = (d : Int)) (hbase : base ≤ wr.heap.size) (hn : n ≤ 1000000) (hx : a.eval x = .slice (some ⟨wr.heap.size, 0, none⟩) 1 1)
    (h : ∀ A m c w', w'.ownsRow base 61 1 (.slice A m c) (n + 1) (cs .u32 (zs ++ [d])) → Below base wr w' → K (a.put o.dst (.slice A m c)) w') :
    if Region.wanted o (yielded ops a.tmps) = true then Oper.wp Tryd.prog o a (wr.alloc (.cells #[.int .u32 D] 61)) K Q else E0 := by
  have hw : Region.wanted o (yielded ops a.tmps) = true := by simp [Region.wanted, hgd]
  rw [if_pos hw]
  subst hD
  obtain ⟨i0, hi0, hz0, hz1, hz2⟩ := info_parts Tryd.info61
  have ha : Arr (wr.alloc (.cells #[.int .u32 (d : Int)] 61)) .u32 (.slice (some ⟨wr.heap.size, 0, none⟩) 1 1) [d] := (DB.new .u32 61 wr [d]).arr (by simp)
  refine wp_append_own _ s x 22 ho base 61 i0 _ 1 4 Tryd.underlying22 hi0 hz0 hz1 hz2 rfl (by decide) v n (cs .u32 zs) hs (hown.alloc _) ⟨wr.heap.size, 0, none⟩ 1 1 (cs .u32 [d]) hx (arr_cells ha).1 (arr_cells ha).2 (cs_one .u32 _) ?_ ?_ ?_ ?_
  · unfold maxLen; omega
  · omega
  · simp; omega
  · intro v' w' h1 h2 _
    have e1 : cs .u32 zs ++ cs .u32 [d] = cs .u32 (zs ++ [d]) := by simp [cs]
    rw [e1] at h1
    obtain ⟨A, c, rfl⟩ := (Arr.of_own (k := .u32) h1).slice
    exact h A _ c w' h1 (((Below.refl _ _).alloc hbase _).grown h2 (by simp; omega) (fun k hk => (hown.lt k hk).1))
theorem step_one {ops : Array Oper} {o : Oper} {a : Act} {K : Act → World → Prop} {Q : Exit → Act → World → Prop} {E0 : Prop} {wr : World} (hgd : o.guard = none) (s x : Operand)
    (ho : o.op = .call { callee := .builtin .append, args := #[s, x], argTypes := #[22, 22] }) (base : Nat) (v : Value) (n : Nat) (zs : List Nat) (d : Nat) (hs : a.eval s = v)
    (hown : wr.ownsRow base 61 1 v n (cs .u32 zs)) (D : Int) (hD : D = (d : Int)) (hbase : base ≤ wr.heap.size) (hn : n ≤ 1000000) (hx : a.eval x = .slice (some ⟨wr.heap.size, 0, none⟩) 1 1)
    (h : ∀ A m c w', w'.ownsRow base 61 1 (.slice A m c) (n + 1) (cs .u32 (zs ++ [d])) → Below base wr w' → K (a.put o.dst (.slice A m c)) w') :
    if Region.wanted o (yielded ops a.tmps) = true then Oper.wp Tryd.prog o a (wr.alloc (.cells #[.int .u32 D] 61)).drew K Q else E0 :=
  step_one0 (wr := wr.drew) hgd s x ho base v n zs d hs hown D hD hbase hn hx fun A m c w' h1 h2 => h A m c w' h1 (((Below.refl base wr).drew).trans h2)
/-- What holds at each round's head of To. -/
structure ToR (w wr : World) (b : Bool) (A : Option Addr) (p c : Nat) (xs : List Nat) (k : Nat) (z : Value) : Prop where
  own : wr.ownsRow (w.heap.size + 1 + 1 + 1) 61 1 z k (cs .u32 ((pairs xs).take k))
  a : Bx 28 wr w.heap.size b (.slice A p c)
  c : Bx 24 wr (w.heap.size + 1) false (.slice none 0 0)
  o : Bx 24 wr (w.heap.size + 1 + 1) b z
  bel : Below w.heap.size w wr
  size : w.heap.size + 1 + 1 + 1 ≤ wr.heap.size
theorem own_far {w : World} {base n s : Nat} {e : TypeId} {v : Value} {xs : List Value} (h : w.ownsRow base e s v n xs) {p : Addr} (hp : p.block < base) (u : Value) : (w.setCell p u).ownsRow base e s v n xs := by
  refine ⟨h.1, ?_⟩
  rcases h.2 with h0 | ⟨g, cap, cur, hv, hg, hh, rest⟩
  · exact .inl h0
  · refine .inr ⟨g, cap, cur, hv, hg, ?_, rest⟩
    rw [Below.heap_setCell w p u g (by omega)]
    exact hh
theorem ToR.step {w wr w' : World} {b : Bool} {A : Option Addr} {p c k : Nat} {xs : List Nat} {z z' : Value} (h : ToR w wr b A p c xs k z) (hk : 2 * k < xs.length)
    (hown : w'.ownsRow (w.heap.size + 1 + 1 + 1) 61 1 z' (k + 1) (cs .u32 ((pairs xs).take k ++ [dat xs (2 * k) + dat xs (2 * k + 1) * 65536]))) (hb : Below (w.heap.size + 1 + 1 + 1) wr w') :
    ToR w (w'.setCell ⟨w.heap.size + 1 + 1, 1, none⟩ z') b A p c xs (k + 1) z' := by
  refine ⟨?_, (h.a.below hb (by omega)).far (by simp; omega) _, (h.c.below hb (by omega)).far (by simp) _, (h.o.below hb (by omega)).set1 z', bel_set (h.bel.trans (hb.mono (by omega))) (by omega) _ _, by simpa using Nat.le_trans h.size hb.size⟩
  rw [pairs_take_succ xs k hk]
  exact own_far hown (by simp) _
theorem ToR.step' {w wr w' : World} {b : Bool} {A : Option Addr} {p c k i0 : Nat} {xs : List Nat} {z z' : Value} (h : ToR w wr b A p c xs k z) (hi : i0 = 2 * k) (hk : i0 < xs.length)
    (hown : w'.ownsRow (w.heap.size + 1 + 1 + 1) 61 1 z' (k + 1) (cs .u32 ((pairs xs).take k ++ [dat xs i0 + dat xs (i0 + 1) * 65536]))) (hb : Below (w.heap.size + 1 + 1 + 1) wr w') :
    ToR w (w'.setCell ⟨w.heap.size + 1 + 1, 1, none⟩ z') b A p c xs (k + 1) z' := by
  subst hi
  exact h.step hk hown hb
theorem ToR.fin {w wr : World} {b : Bool} {A : Option Addr} {p c k l : Nat} {xs : List Nat} {z : Value} (h : ToR w wr b A p c xs k z) (hx : Dg xs) (hc : Can b xs) (hk : xs.length ≤ 2 * k) (hl : xs.length ≤ l) :
    BigE (sv b (dv xs)) ((l + 1) / 2) w (.returned (.agg #[.bool b, z])) ((wr.setCell ⟨w.heap.size + 1, 0, none⟩ (.bool b)).setCell ⟨w.heap.size + 1, 1, none⟩ z) := by
  have ha := Arr.of_own (k := .u32) h.own
  rw [List.take_of_length_le (by rw [pairs_len]; omega)] at ha
  exact ⟨_, rfl, ⟨b, z, pairs xs, rfl, (ha.box h.c 0 _).box (h.c.set0 b) 1 _, pairs_eg hx, ⟨pairs_top hc.1, fun h0 => hc.2 (pairs_nil h0)⟩, by rw [pairs_len]; omega, by rw [pairs_val]⟩, bel_set (bel_set h.bel (by omega) _ _) (by omega) _ _⟩
theorem ToR.drew {w wr : World} {b : Bool} {A : Option Addr} {p c k : Nat} {xs : List Nat} {z : Value} (h : ToR w wr b A p c xs k z) : ToR w wr.drew b A p c xs k z :=
  ⟨h.own, h.a, h.c, h.o, h.bel.drew, h.size⟩
theorem ToR.start (w : World) (b : Bool) (A : Option Addr) (p c : Nat) (xs : List Nat) : ToR w (((w.alloc (.cells #[.bool b, .slice A p c] 28)).alloc (.cells #[.bool false, .slice none 0 0] 24)).alloc (.cells #[.bool b, .slice none 0 0] 24)) b A p c xs 0 (.slice none 0 0) := by
  refine ⟨World.ownsRow_nil _ _ _ _, ((Bx.new 28 w b (.slice A p c)).alloc _).alloc _, ?_, ?_, (((Below.refl _ w).alloc (Nat.le_refl _) _).alloc (by simp) _).alloc (by simp; omega) _, by simp⟩
  · have := (Bx.new 24 (w.alloc (.cells #[.bool b, .slice A p c] 28)) false (.slice none 0 0)).alloc (.cells #[.bool b, .slice none 0 0] 24)
    simpa using this
  · have := Bx.new 24 ((w.alloc (.cells #[.bool b, .slice A p c] 28)).alloc (.cells #[.bool false, .slice none 0 0] 24)) b (.slice none 0 0)
    simpa using this
theorem ToR.slice {w wr : World} {b : Bool} {A : Option Addr} {p c k : Nat} {xs : List Nat} {z : Value} (h : ToR w wr b A p c xs k z) : ∃ B m d, z = .slice B m d := by
  obtain ⟨B, d, e⟩ := (Arr.of_own (k := .u32) h.own).slice
  exact ⟨B, _, d, e⟩
theorem pair_val {a b : Nat} (ha : a < 65536) (hb : b < 65536) : IntKind.u32.wrap (IntKind.u64.wrap ((a : Int) + IntKind.u64.wrap ((b : Int) * 65536))) = ((a + b * 65536 : Nat) : Int) := by
  rw [wrapN (x := (b : Int) * 65536) (n := b * 65536) (by simp) (by omega), wrapN (n := a + b * 65536) (by simp) (by omega)]
  exact IntWalk.u32_in _ ⟨by omega, by omega⟩
theorem at16_next (v : Value) (xs : List Nat) (i : Nat) (w : World) (h : Arr w .u64 v xs) : Calls Tryd.prog 42 #[v, .int .i64 ((i : Int) + 1)] w fun e w' => e = .returned (.int .u64 (dat xs (i + 1) : Int)) ∧ w = w' := by
  rw [show ((i : Int) + 1) = ((i + 1 : Nat) : Int) by simp]
  exact at16_any v xs (i + 1) w h
set_option maxHeartbeats 4000000 in
set_option maxRecDepth 100000 in
theorem to_any (X : Value) (x : Int) (l : Nat) (w : World) (hX : NumC w X x l) (hl : l ≤ 200000) : Calls Tryd.prog 12 #[X] w (BigE x ((l + 1) / 2) w) := by
  obtain ⟨b, v, xs, rfl, hv, hx, hcx, hxl, rfl⟩ := hX
  obtain ⟨A, c, rfl⟩ := hv.slice
  have HX := Lib.hid (And.intro hx (And.intro hxl hcx))
  obtain ⟨p, hp⟩ : ∃ p, p = xs.length := ⟨_, rfl⟩
  have hpl : p ≤ 200000 := by omega
  rw [← hp] at hv ⊢
  have HV := Lib.hid hv
  have HP := Lib.hid hp
  have HS := Lib.hid (ToR.start w b A p c xs)
  clear hv hx hxl hcx hp hl
  go_enter Tryd.func12, Tryd.ntmps12
  go_wp2_with fail
  go_loopw [4] (fun i wr => ∃ (k i0 : Nat) (z : Value), i = .int .i64 (i0 : Int) ∧ i0 = 2 * k ∧ i0 ≤ p + 1 ∧ ToR w wr b A p c xs k z) (fun i _ => p + 1 - (intOf i).toNat)
  case atStart => exact ⟨0, 0, _, rfl, rfl, Nat.zero_le _, HS.out⟩
  case round =>
    obtain ⟨k, i0, z, rfl, hi0, hk, hr⟩ := hrel
    obtain ⟨B, m, d, rfl⟩ := hr.slice
    have HI := Lib.hid hi0
    have hk2 : k ≤ 200001 := by omega
    clear hi0
    have f0 := hr.a.c0
    have f1 := hr.a.c1
    by_cases hgo : i0 < p
    · have g1 := hr.o.c1
      have gf := hr.o.fr 1
      have n1 := World.new_ne wr _ g1
      have n2 := World.new_ne wr _ f1
      have n3 : w.heap.size + 1 + 1 < wr.heap.size := by have := hr.size; omega
      have n4 : w.heap.size < wr.heap.size := by have := hr.size; omega
      have hown := Lib.hid hr.own
      have hbas := hr.size
      have HVr := Lib.hid (HV.out.bel hr.bel)
      have hA : dat xs i0 < 65536 := HX.out.1 i0
      have hB : dat xs (i0 + 1) < 65536 := HX.out.1 (i0 + 1)
      have c1 := Lib.hid (fun W h => at16_any (.slice A p c) xs i0 W h)
      have c2 := Lib.hid (fun W h => at16_next (.slice A p c) xs i0 W h)
      have e1 : IntKind.i64.wrap ((i0 : Int) + 1) = (i0 : Int) + 1 := IntWalk.i64_in _ (by omega)
      have HR := Lib.hid hr
      clear hr f0
      go_wp2_with fail
      go_region_law (first
        | (refine step_one rfl (.tmp 16) (.tmp 29) rfl (w.heap.size + 1 + 1 + 1) (.slice B m d) k ((pairs xs).take k) (dat xs i0 + dat xs (i0 + 1) * 65536) rfl hown.out _ (pair_val hA hB) hbas (by omega) rfl ?_; intro A' m' c' w' hown' hb'; have q1 := (HR.out.o.below hb' (by omega)).c1; have q2 := (HR.out.o.below hb' (by omega)).fr 1)
        | (go_simp; go_at_call 42; (with_reducible refine (c1.out _ HVr.out.drew).mono ?_); rintro e w1 ⟨rfl, rfl⟩)
        | (go_simp; go_at_call 42; (with_reducible refine (c2.out _ HVr.out.drew).mono ?_); rintro e w1 ⟨rfl, rfl⟩))
      all_goals
        go_wp2_with fail
        exact ⟨⟨k + 1, i0 + 2, _, by simp, by have := HI.out; omega, by omega, HR.out.step' HI.out (by rw [← HP.out]; exact hgo) hown' hb'⟩, by simp [intOf]; omega⟩
    · have hf := hr.fin HX.out.1 HX.out.2.2 (by rw [← HP.out]; have := HI.out; omega) HX.out.2.1
      have g0 := hr.o.c0
      have g1 := hr.o.c1
      have q0 := hr.c.c0
      have q1 := hr.c.c1
      have q2 := hr.c.fr 0
      have q3 := hr.c.fr 1
      have HR := Lib.hid hr
      have HF := Lib.hid hf
      clear hr hf
      go_wp2_with fail
      exact bodyPost_ret (ret_bx24 rfl rfl ((HR.out.c.set0 b).set1 _)) rfl HF.out
end Go.Proofs.YthmpkejdficmgaaDoor
