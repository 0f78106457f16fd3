/- Proved here: what the document's numbers of any size answer and leave in memory (ported). Conditions stand at each. -/
import Derived.Test.YtpobhegllhhdgaaGreatGE
namespace Go.Proofs.YtpobhegllhhdgaaGreat
open Go.RowKit

/-- One digit of package big is appended to a row of the call's own, at a step of a region that draws its order. -/
theorem step_one0 {ops : Array Oper} {o : Oper} {a : Act} {K : Act → World → Prop} {Q : Exit → Act → World → Prop} {E0 : Prop} {wr : World} (hgd : o.guard = none) (s x : Operand)
    (ho : o.op = .call { callee := .builtin .append, args := #[s, x], argTypes := #[58, 58] }) (base : Nat) (v : Value) (n : Nat) (zs : List Nat) (d : Nat) (hs : a.eval s = v)
    (hown : wr.ownsRow base 105 1 v n (cs .u32 zs)) (D : Int) (hD : D = (d : Int)) (hbase : base ≤ wr.heap.size) (hn : n ≤ 1000000) (hx : a.eval x = .slice (some ⟨wr.heap.size, 0, none⟩) 1 1)
    (h : ∀ A m c w', w'.ownsRow base 105 1 (.slice A m c) (n + 1) (cs .u32 (zs ++ [d])) → Below base wr w' → K (a.put o.dst (.slice A m c)) w') :
    if Region.wanted o (yielded ops a.tmps) = true then Oper.wp Tryz.prog o a (wr.alloc (.cells #[.int .u32 D] 105)) K Q else E0 := by
  have hw : Region.wanted o (yielded ops a.tmps) = true := by simp [Region.wanted, hgd]
  rw [if_pos hw]
  subst hD
  obtain ⟨i0, hi0, hz0, hz1, hz2⟩ := info_parts Tryz.info105
  have ha : Arr (wr.alloc (.cells #[.int .u32 (d : Int)] 105)) .u32 (.slice (some ⟨wr.heap.size, 0, none⟩) 1 1) [d] := (DB.new .u32 105 wr [d]).arr (by simp)
  refine wp_append_own _ s x 58 ho base 105 i0 _ 1 4 Tryz.underlying58 hi0 hz0 hz1 hz2 rfl (by decide) v n (cs .u32 zs) hs (hown.alloc _) ⟨wr.heap.size, 0, none⟩ 1 1 (cs .u32 [d]) hx (arr_cells ha).1 (arr_cells ha).2 (cs_one .u32 _) ?_ ?_ ?_ ?_
  · unfold maxLen; omega
  · omega
  · simp; omega
  · intro v' w' h1 h2 _
    have e1 : cs .u32 zs ++ cs .u32 [d] = cs .u32 (zs ++ [d]) := by simp [cs]
    rw [e1] at h1
    obtain ⟨A, c, rfl⟩ := (Arr.of_own (k := .u32) h1).slice
    exact h A _ c w' h1 (((Below.refl _ _).alloc hbase _).grown h2 (by simp; omega) (fun k hk => (hown.lt k hk).1))
theorem step_one {ops : Array Oper} {o : Oper} {a : Act} {K : Act → World → Prop} {Q : Exit → Act → World → Prop} {E0 : Prop} {wr : World} (hgd : o.guard = none) (s x : Operand)
    (ho : o.op = .call { callee := .builtin .append, args := #[s, x], argTypes := #[58, 58] }) (base : Nat) (v : Value) (n : Nat) (zs : List Nat) (d : Nat) (hs : a.eval s = v)
    (hown : wr.ownsRow base 105 1 v n (cs .u32 zs)) (D : Int) (hD : D = (d : Int)) (hbase : base ≤ wr.heap.size) (hn : n ≤ 1000000) (hx : a.eval x = .slice (some ⟨wr.heap.size, 0, none⟩) 1 1)
    (h : ∀ A m c w', w'.ownsRow base 105 1 (.slice A m c) (n + 1) (cs .u32 (zs ++ [d])) → Below base wr w' → K (a.put o.dst (.slice A m c)) w') :
    if Region.wanted o (yielded ops a.tmps) = true then Oper.wp Tryz.prog o a (wr.alloc (.cells #[.int .u32 D] 105)).drew K Q else E0 :=
  step_one0 (wr := wr.drew) hgd s x ho base v n zs d hs hown D hD hbase hn hx fun A m c w' h1 h2 => h A m c w' h1 (((Below.refl base wr).drew).trans h2)
/-- What holds at each round's head of To. -/
structure ToR (w wr : World) (b : Bool) (A : Option Addr) (p c : Nat) (xs : List Nat) (k : Nat) (z : Value) : Prop where
  own : wr.ownsRow (w.heap.size + 1 + 1 + 1) 105 1 z k (cs .u32 ((pairs xs).take k))
  a : Bx 69 wr w.heap.size b (.slice A p c)
  c : Bx 60 wr (w.heap.size + 1) false (.slice none 0 0)
  o : Bx 60 wr (w.heap.size + 1 + 1) b z
  bel : Below w.heap.size w wr
  size : w.heap.size + 1 + 1 + 1 ≤ wr.heap.size
theorem own_far {w : World} {base n s : Nat} {e : TypeId} {v : Value} {xs : List Value} (h : w.ownsRow base e s v n xs) {p : Addr} (hp : p.block < base) (u : Value) : (w.setCell p u).ownsRow base e s v n xs := by
  refine ⟨h.1, ?_⟩
  rcases h.2 with h0 | ⟨g, cap, cur, hv, hg, hh, rest⟩
  · exact .inl h0
  · refine .inr ⟨g, cap, cur, hv, hg, ?_, rest⟩
    rw [Below.heap_setCell w p u g (by omega)]
    exact hh
theorem ToR.step {w wr w' : World} {b : Bool} {A : Option Addr} {p c k : Nat} {xs : List Nat} {z z' : Value} (h : ToR w wr b A p c xs k z) (hk : 2 * k < xs.length)
    (hown : w'.ownsRow (w.heap.size + 1 + 1 + 1) 105 1 z' (k + 1) (cs .u32 ((pairs xs).take k ++ [dat xs (2 * k) + dat xs (2 * k + 1) * 65536]))) (hb : Below (w.heap.size + 1 + 1 + 1) wr w') :
    ToR w (w'.setCell ⟨w.heap.size + 1 + 1, 1, none⟩ z') b A p c xs (k + 1) z' := by
  refine ⟨?_, (h.a.below hb (by omega)).far (by simp; omega) _, (h.c.below hb (by omega)).far (by simp) _, (h.o.below hb (by omega)).set1 z', bel_set (h.bel.trans (hb.mono (by omega))) (by omega) _ _, by simpa using Nat.le_trans h.size hb.size⟩
  rw [pairs_take_succ xs k hk]
  exact own_far hown (by simp) _
theorem ToR.step' {w wr w' : World} {b : Bool} {A : Option Addr} {p c k i0 : Nat} {xs : List Nat} {z z' : Value} (h : ToR w wr b A p c xs k z) (hi : i0 = 2 * k) (hk : i0 < xs.length)
    (hown : w'.ownsRow (w.heap.size + 1 + 1 + 1) 105 1 z' (k + 1) (cs .u32 ((pairs xs).take k ++ [dat xs i0 + dat xs (i0 + 1) * 65536]))) (hb : Below (w.heap.size + 1 + 1 + 1) wr w') :
    ToR w (w'.setCell ⟨w.heap.size + 1 + 1, 1, none⟩ z') b A p c xs (k + 1) z' := by
  subst hi
  exact h.step hk hown hb
theorem ToR.fin {w wr : World} {b : Bool} {A : Option Addr} {p c k l : Nat} {xs : List Nat} {z : Value} (h : ToR w wr b A p c xs k z) (hx : Dg xs) (hc : Can b xs) (hk : xs.length ≤ 2 * k) (hl : xs.length ≤ l) :
    BigE (sv b (dv xs)) ((l + 1) / 2) w (.returned (.agg #[.bool b, z])) ((wr.setCell ⟨w.heap.size + 1, 0, none⟩ (.bool b)).setCell ⟨w.heap.size + 1, 1, none⟩ z) := by
  have ha := Arr.of_own (k := .u32) h.own
  rw [List.take_of_length_le (by rw [pairs_len]; omega)] at ha
  exact ⟨_, rfl, ⟨b, z, pairs xs, rfl, (ha.box h.c 0 _).box (h.c.set0 b) 1 _, pairs_eg hx, ⟨pairs_top hc.1, fun h0 => hc.2 (pairs_nil h0)⟩, by rw [pairs_len]; omega, by rw [pairs_val]⟩, bel_set (bel_set h.bel (by omega) _ _) (by omega) _ _⟩
theorem ToR.drew {w wr : World} {b : Bool} {A : Option Addr} {p c k : Nat} {xs : List Nat} {z : Value} (h : ToR w wr b A p c xs k z) : ToR w wr.drew b A p c xs k z :=
  ⟨h.own, h.a, h.c, h.o, h.bel.drew, h.size⟩
theorem ToR.start (w : World) (b : Bool) (A : Option Addr) (p c : Nat) (xs : List Nat) : ToR w (((w.alloc (.cells #[.bool b, .slice A p c] 69)).alloc (.cells #[.bool false, .slice none 0 0] 60)).alloc (.cells #[.bool b, .slice none 0 0] 60)) b A p c xs 0 (.slice none 0 0) := by
  refine ⟨World.ownsRow_nil _ _ _ _, ((Bx.new 69 w b (.slice A p c)).alloc _).alloc _, ?_, ?_, (((Below.refl _ w).alloc (Nat.le_refl _) _).alloc (by simp) _).alloc (by simp; omega) _, by simp⟩
  · have := (Bx.new 60 (w.alloc (.cells #[.bool b, .slice A p c] 69)) false (.slice none 0 0)).alloc (.cells #[.bool b, .slice none 0 0] 60)
    simpa using this
  · have := Bx.new 60 ((w.alloc (.cells #[.bool b, .slice A p c] 69)).alloc (.cells #[.bool false, .slice none 0 0] 60)) b (.slice none 0 0)
    simpa using this
theorem ToR.slice {w wr : World} {b : Bool} {A : Option Addr} {p c k : Nat} {xs : List Nat} {z : Value} (h : ToR w wr b A p c xs k z) : ∃ B m d, z = .slice B m d := by
  obtain ⟨B, d, e⟩ := (Arr.of_own (k := .u32) h.own).slice
  exact ⟨B, _, d, e⟩
theorem pair_val {a b : Nat} (ha : a < 65536) (hb : b < 65536) : IntKind.u32.wrap (IntKind.u64.wrap ((a : Int) + IntKind.u64.wrap ((b : Int) * 65536))) = ((a + b * 65536 : Nat) : Int) := by
  rw [wrapN (x := (b : Int) * 65536) (n := b * 65536) (by simp) (by omega), wrapN (n := a + b * 65536) (by simp) (by omega)]
  exact IntWalk.u32_in _ ⟨by omega, by omega⟩
theorem at16_next (v : Value) (xs : List Nat) (i : Nat) (w : World) (h : Arr w .u64 v xs) : Calls Tryz.prog 75 #[v, .int .i64 ((i : Int) + 1)] w fun e w' => e = .returned (.int .u64 (dat xs (i + 1) : Int)) ∧ w = w' := by
  rw [show ((i : Int) + 1) = ((i + 1 : Nat) : Int) by simp]
  exact at16_any v xs (i + 1) w h
set_option maxHeartbeats 4000000 in
set_option maxRecDepth 100000 in
theorem to_any (X : Value) (x : Int) (l : Nat) (w : World) (hX : NumC w X x l) (hl : l ≤ 200000) : Calls Tryz.prog 38 #[X] w (BigE x ((l + 1) / 2) w) := by
  obtain ⟨b, v, xs, rfl, hv, hx, hcx, hxl, rfl⟩ := hX
  obtain ⟨A, c, rfl⟩ := hv.slice
  have HX := Lib.hid (And.intro hx (And.intro hxl hcx))
  obtain ⟨p, hp⟩ : ∃ p, p = xs.length := ⟨_, rfl⟩
  have hpl : p ≤ 200000 := by omega
  rw [← hp] at hv ⊢
  have HV := Lib.hid hv
  have HP := Lib.hid hp
  have HS := Lib.hid (ToR.start w b A p c xs)
  clear hv hx hxl hcx hp hl
  go_enter Tryz.func38, Tryz.ntmps38
  go_wp2_with fail
  go_loopw [4] (fun i wr => ∃ (k i0 : Nat) (z : Value), i = .int .i64 (i0 : Int) ∧ i0 = 2 * k ∧ i0 ≤ p + 1 ∧ ToR w wr b A p c xs k z) (fun i _ => p + 1 - (intOf i).toNat)
  case atStart => exact ⟨0, 0, _, rfl, rfl, Nat.zero_le _, HS.out⟩
  case round =>
    obtain ⟨k, i0, z, rfl, hi0, hk, hr⟩ := hrel
    obtain ⟨B, m, d, rfl⟩ := hr.slice
    have HI := Lib.hid hi0
    have hk2 : k ≤ 200001 := by omega
    clear hi0
    have f0 := hr.a.c0
    have f1 := hr.a.c1
    by_cases hgo : i0 < p
    · have g1 := hr.o.c1
      have gf := hr.o.fr 1
      have n1 := World.new_ne wr _ g1
      have n2 := World.new_ne wr _ f1
      have n3 : w.heap.size + 1 + 1 < wr.heap.size := by have := hr.size; omega
      have n4 : w.heap.size < wr.heap.size := by have := hr.size; omega
      have hown := Lib.hid hr.own
      have hbas := hr.size
      have HVr := Lib.hid (HV.out.bel hr.bel)
      have hA : dat xs i0 < 65536 := HX.out.1 i0
      have hB : dat xs (i0 + 1) < 65536 := HX.out.1 (i0 + 1)
      have c1 := Lib.hid (fun W h => at16_any (.slice A p c) xs i0 W h)
      have c2 := Lib.hid (fun W h => at16_next (.slice A p c) xs i0 W h)
      have e1 : IntKind.i64.wrap ((i0 : Int) + 1) = (i0 : Int) + 1 := IntWalk.i64_in _ (by omega)
      have HR := Lib.hid hr
      clear hr f0
      go_wp2_with fail
      go_region_law (first
        | (refine step_one rfl (.tmp 16) (.tmp 29) rfl (w.heap.size + 1 + 1 + 1) (.slice B m d) k ((pairs xs).take k) (dat xs i0 + dat xs (i0 + 1) * 65536) rfl hown.out _ (pair_val hA hB) hbas (by omega) rfl ?_; intro A' m' c' w' hown' hb'; have q1 := (HR.out.o.below hb' (by omega)).c1; have q2 := (HR.out.o.below hb' (by omega)).fr 1)
        | (go_simp; go_at_call 75; (with_reducible refine (c1.out _ HVr.out.drew).mono ?_); rintro e w1 ⟨rfl, rfl⟩)
        | (go_simp; go_at_call 75; (with_reducible refine (c2.out _ HVr.out.drew).mono ?_); rintro e w1 ⟨rfl, rfl⟩))
      all_goals
        go_wp2_with fail
        exact ⟨⟨k + 1, i0 + 2, _, by simp, by have := HI.out; omega, by omega, HR.out.step' HI.out (by rw [← HP.out]; exact hgo) hown' hb'⟩, by simp [intOf]; omega⟩
    · have hf := hr.fin HX.out.1 HX.out.2.2 (by rw [← HP.out]; have := HI.out; omega) HX.out.2.1
      have g0 := hr.o.c0
      have g1 := hr.o.c1
      have q0 := hr.c.c0
      have q1 := hr.c.c1
      have q2 := hr.c.fr 0
      have q3 := hr.c.fr 1
      have HR := Lib.hid hr
      have HF := Lib.hid hf
      clear hr hf
      go_wp2_with fail
      exact bodyPost_ret (ret_bx24 rfl rfl ((HR.out.c.set0 b).set1 _)) rfl HF.out
end Go.Proofs.YtpobhegllhhdgaaGreat

namespace Go.Proofs.YtpobhegllhhdgaaGreat
open Go.RowKit

set_option maxHeartbeats 2000000 in
set_option maxRecDepth 100000 in
theorem same_core (n : Bool) (v u : Value) (xs ys : List Nat) (w : World) (hv : Arr w .u32 v xs) (hu : Arr w .u32 u ys) (hl : xs.length = ys.length) (hd : ∀ j, dat xs j = dat ys j) (hxl : xs.length ≤ 1000000) :
    Calls Tryz.prog 37 #[.agg #[.bool n, v], .agg #[.bool n, u]] w fun e w' => e = .returned (.bool true) ∧ Below w.heap.size w w' := by
  obtain ⟨A, c, rfl⟩ := hv.slice
  obtain ⟨B, d, rfl⟩ := hu.slice
  obtain ⟨p, hp⟩ : ∃ p, p = xs.length := ⟨_, rfl⟩
  rw [← hp] at hv hl hxl
  rw [← hl] at hu
  rw [← hl, ← hp]
  have hb0 : Below w.heap.size w ((w.alloc (.cells #[.bool n, .slice A p c] 60)).alloc (.cells #[.bool n, .slice B p d] 60)) := (bel_a w _).alloc (by simp) _
  have HB := Lib.hid hb0
  have HV := Lib.hid (hv.bel hb0)
  have HU := Lib.hid (hu.bel hb0)
  have HX1 := Lib.hid ((Bx.new 60 w n (.slice A p c)).alloc (.cells #[.bool n, .slice B p d] 60))
  have HX2 := Lib.hid (show Bx 60 ((w.alloc (.cells #[.bool n, .slice A p c] 60)).alloc (.cells #[.bool n, .slice B p d] 60)) (w.heap.size + 1) n (.slice B p d) by simpa using Bx.new 60 (w.alloc (.cells #[.bool n, .slice A p c] 60)) n (.slice B p d))
  have HP := Lib.hid (And.intro hp hl)
  have HD := Lib.hid hd
  clear hv hu hb0 hp hl hd
  go_enter Tryz.func37, Tryz.ntmps37
  go_wp2_with fail
  obtain ⟨W0, hW0⟩ : ∃ W0, W0 = ((w.alloc (.cells #[.bool n, .slice A p c] 60)).alloc (.cells #[.bool n, .slice B p d] 60)) := ⟨_, rfl⟩
  rw [← hW0] at HB HV HU HX1 HX2 ⊢
  clear hW0
  go_loopw [5] (fun i wr => ∃ k : Nat, i = .int .i64 (k : Int) ∧ k ≤ p ∧ ∃ nd, wr = W0.drewN nd) (fun i _ => p - (intOf i).toNat)
  case atStart => exact ⟨0, rfl, Nat.zero_le _, 0, rfl⟩
  case round =>
    obtain ⟨k, rfl, hk, nd, hwr⟩ := hrel
    have HW := Lib.hid hwr
    have f1 : wr.cell? ⟨w.heap.size, 1, none⟩ = some (.slice A p c) := by rw [hwr]; exact HX1.out.c1
    have f2 : wr.cell? ⟨w.heap.size + 1, 1, none⟩ = some (.slice B p d) := by rw [hwr]; exact HX2.out.c1
    clear hwr
    by_cases hgo : k < p
    · have HVr := Lib.hid (show Arr wr .u32 (.slice A p c) xs by rw [HW.out]; exact HV.out.drewN nd)
      have HUr := Lib.hid (show Arr wr .u32 (.slice B p d) ys by rw [HW.out]; exact HU.out.drewN nd)
      obtain ⟨ad, rfl, _, hx1⟩ := HVr.out.get k (by rw [← HP.out.1]; exact hgo)
      obtain ⟨bd, rfl, _, hx2⟩ := HUr.out.get k (by rw [← HP.out.2]; exact hgo)
      rw [← HD.out k] at hx2
      go_wp2_with fail
      go_quiet (fail)
      go_wp2_with fail
      exact ⟨⟨k + 1, by simp, by omega, nd + nq, by rw [HW.out, World.drewN_drewN]⟩, by simp [intOf]; omega⟩
    · go_wp2_with fail
      go_ret
      exact ⟨rfl, by rw [HW.out]; exact below_drewN HB.out nd⟩
theorem same_any (X Y : Value) (x : Int) (l k : Nat) (w : World) (hX : BigC w X x l) (hY : BigC w Y x k) (hl : l ≤ 1000000) : Calls Tryz.prog 37 #[X, Y] w fun e w' => e = .returned (.bool true) ∧ Below w.heap.size w w' := by
  obtain ⟨n, v, xs, rfl, hv, hx, hcx, hxl, hvx⟩ := hX
  obtain ⟨m, u, ys, rfl, hu, hy, hcy, hyl, hvy⟩ := hY
  obtain ⟨h1, h2, h3⟩ := can32 hcx hcy hx hy (hvx.trans hvy.symm)
  subst h1
  exact same_core n v u xs ys w hv hu h2 h3 (by omega)
/-- The digit in base 2 of a number's digits. -/
theorem bit_dat {xs : List Nat} (h : Dg xs) (i : Nat) : dat xs (i / 16) / 2 ^ (i % 16) % 2 = dv xs / 2 ^ i % 2 := by
  have h1 : dat xs (i / 16) = dv xs / 65536 ^ (i / 16) % 65536 := (dv_digit h (i / 16)).symm
  have hm : ∀ X b, b < 16 → X % 65536 / 2 ^ b % 2 = X / 2 ^ b % 2 := by
    intro X b hb
    have : b = 0 ∨ b = 1 ∨ b = 2 ∨ b = 3 ∨ b = 4 ∨ b = 5 ∨ b = 6 ∨ b = 7 ∨ b = 8 ∨ b = 9 ∨ b = 10 ∨ b = 11 ∨ b = 12 ∨ b = 13 ∨ b = 14 ∨ b = 15 := by omega
    rcases this with rfl | rfl | rfl | rfl | rfl | rfl | rfl | rfl | rfl | rfl | rfl | rfl | rfl | rfl | rfl | rfl <;> omega
  rw [h1, hm _ _ (Nat.mod_lt _ (by decide)), show 65536 = 2 ^ 16 from rfl, ← Nat.pow_mul, Nat.div_div_eq_div_mul, ← Nat.pow_add, Nat.div_add_mod]
theorem bit_eq (x k : Nat) : ((x : Int) / 2 ^ k).tmod 2 = ((x / 2 ^ k % 2 : Nat) : Int) := by
  have h : (x : Int) / 2 ^ k = ((x / 2 ^ k : Nat) : Int) := by simp
  rw [h, Int.tmod_eq_emod_of_nonneg (Int.natCast_nonneg _)]
  simp
end Go.Proofs.YtpobhegllhhdgaaGreat

namespace Go.Proofs.YtpobhegllhhdgaaGreat
open Go.RowKit

/-- What holds ahead of each row of a product, and inside a row; g is the product's block. -/
structure RmO (w wr : World) (g : Nat) (xs ys os : List Nat) (i : Nat) : Prop where
  db : DB .u64 95 wr g os
  dg : Dg os
  len : os.length = xs.length + ys.length + 1
  zero : ∀ j, i + ys.length ≤ j → dat os j = 0
  val : dv os = dv (xs.take i) * dv ys
structure RmI (w wr : World) (g : Nat) (xs ys os : List Nat) (i j q : Nat) : Prop where
  db : DB .u64 95 wr g os
  dg : Dg os
  len : os.length = xs.length + ys.length + 1
  zero : ∀ k, i + max j ys.length ≤ k → dat os k = 0
  val : dv os + q * 65536 ^ (i + j) = dv (xs.take i) * dv ys + xs.getD i 0 * 65536 ^ i * dv (ys.take j)
  ql : q ≤ 65535
  qz : ys.length < j → q = 0
  jl : j ≤ ys.length + 1
theorem RmO.start (w W : World) (xs ys : List Nat) (L : Nat) (hL : L = xs.length + ys.length + 1) : RmO w (W.alloc (.cells (cs .u64 (List.replicate L 0)).toArray 95)) W.heap.size xs ys (List.replicate L 0) 0 :=
  ⟨DB.new _ _ W _, dg_zeros L, by simp [hL], fun j _ => dw_zeros_ L j, by rw [dv_zeros]; simp [dv]⟩
theorem RmO.inner {w wr : World} {g : Nat} {xs ys os : List Nat} {i : Nat} (h : RmO w wr g xs ys os i) : RmI w wr g xs ys os i 0 0 :=
  ⟨h.db, h.dg, h.len, fun j hj => h.zero j (by omega), by rw [h.val]; simp [dv], by omega, fun _ => rfl, by omega⟩
theorem RmI.outer {w wr : World} {g : Nat} {xs ys os : List Nat} {i j : Nat} (h : RmI w wr g xs ys os i j 0) (hj : ys.length ≤ j) : RmO w wr g xs ys os (i + 1) := by
  have hv := h.val
  have hjl := h.jl
  rw [dv_take_all (l := ys) (i := j) hj] at hv
  refine ⟨h.db, h.dg, h.len, fun k hk => h.zero k (by omega), ?_⟩
  rw [dv_take_succ]
  generalize 65536 ^ i = P at *
  generalize dv ys = B at *
  grind
theorem RmI.next {w wr W : World} {g : Nat} {xs ys os : List Nat} {i j q S : Nat} (h : RmI w wr g xs ys os i j q) (hW : DB .u64 95 W g os) (hx : Dg xs) (hy : Dg ys) (hi : i < xs.length) (hgo : j < ys.length ∨ 0 < q) (hS : S = dat os (i + j) + dat xs i * dat ys j + q) :
    S < 4294967296 ∧ RmI w (W.setCell ⟨g, i + j, none⟩ (.int .u64 ((S % 65536 : Nat) : Int))) g xs ys (os.set (i + j) (S % 65536)) i (j + 1) (S / 65536) := by
  have hA : dat xs i < 65536 := hx i
  have hB : dat ys j < 65536 := hy j
  have hO : dat os (i + j) < 65536 := h.dg (i + j)
  have hP : dat xs i * dat ys j ≤ 65535 * 65535 := Nat.mul_le_mul (by omega) (by omega)
  have hq := h.ql
  have hjl := h.jl
  have hj : j ≤ ys.length := by
    rcases Nat.lt_or_ge ys.length j with hlt | hge
    · have := h.qz hlt
      omega
    · exact hge
  have hlen : i + j < os.length := by rw [h.len]; omega
  have st := @times_step xs ys os i j q hlen h.val
  have eS : os.getD (i + j) 0 + xs.getD i 0 * ys.getD j 0 + q = S := hS.symm
  rw [eS] at st
  refine ⟨by omega, DB.set_ hW (i + j) _, dg_set h.dg _ (Nat.mod_lt _ (by decide)), by simp [h.len], fun k hk => ?_, st, by omega, fun hlt => ?_, by omega⟩
  · have := h.zero k (by omega)
    simp only [dat, List.getD_eq_getElem?_getD] at this ⊢
    rw [List.getElem?_set_ne (by omega)]
    exact this
  · obtain rfl : j = ys.length := by omega
    have e1 : dat ys ys.length = 0 := dat_beyond (Nat.le_refl _)
    have e2 : dat os (i + ys.length) = 0 := h.zero _ (by omega)
    rw [e1, e2] at hS
    omega
theorem RmO.fin {w wr : World} {g : Nat} {xs ys os : List Nat} (h : RmO w wr g xs ys os xs.length) (hl : xs.length + ys.length + 1 ≤ 1000000) :
    Arr wr .u64 (.slice (some ⟨g, 0, none⟩) (xs.length + ys.length + 1) (xs.length + ys.length + 1)) os ∧ Dg os ∧ os.length = xs.length + ys.length + 1 ∧ dv os = dv xs * dv ys := by
  have hv := h.val
  rw [dv_take_all (Nat.le_refl _)] at hv
  have ha := h.db.arr (by rw [h.len]; exact hl)
  rw [h.len] at ha
  exact ⟨ha, h.dg, h.len, hv⟩
def RmOH (w wr : World) (g : Nat) (xs ys : List Nat) (i : Nat) : Prop := ∃ os, RmO w wr g xs ys os i
def RmIH (w wr : World) (g : Nat) (xs ys : List Nat) (i j q : Nat) : Prop := ∃ os, RmI w wr g xs ys os i j q
theorem B3.far {T : TypeId} {w W : World} {n m : Bool} {v u : Value} (h : B3 T w W n v m u) {g : Nat} (hg : w.heap.size + 1 + 1 < g) (j : Nat) (x : Value) : B3 T w (W.setCell ⟨g, j, none⟩ x) n v m u :=
  ⟨h.a.far (by simp; omega) _, h.b.far (by simp; omega) _, h.c.far (by simp; omega) _, bel_set h.bel (by omega) _ _⟩
set_option maxHeartbeats 4000000 in
set_option maxRecDepth 100000 in
theorem rmul_any (X Y : Value) (x y : Int) (l k : Nat) (w : World) (hX : NumC w X x l) (hY : NumC w Y y k) (hl : l ≤ 100000) (hk : k ≤ 100000) : Calls Tryz.prog 70 #[X, Y] w (NumE (x * y) (l + k + 1) w) := by
  obtain ⟨n, v, xs, rfl, hv, hx, _, hxl, rfl⟩ := hX
  obtain ⟨m, u, ys, rfl, hu, hy, _, hyl, rfl⟩ := hY
  obtain ⟨A, c, rfl⟩ := hv.slice
  obtain ⟨B, d, rfl⟩ := hu.slice
  obtain ⟨p, hp⟩ : ∃ p, p = xs.length := ⟨_, rfl⟩
  obtain ⟨q, hq⟩ : ∃ q, q = ys.length := ⟨_, rfl⟩
  rw [← hp] at hv hxl ⊢
  rw [← hq] at hu hyl ⊢
  have HV := Lib.hid hv
  have HU := Lib.hid hu
  have HX := Lib.hid (And.intro hx hy)
  have H0 := Lib.hid (B3.start 69 w n (.slice A p c) m (.slice B q d))
  obtain ⟨L, hL⟩ : ∃ L, L = p + q + 1 := ⟨_, rfl⟩
  have hpl : p ≤ 100000 := by omega
  have hql : q ≤ 100000 := by omega
  have hLl : L ≤ 200001 := by omega
  have hmk := fun w => mk16 L (by omega) w ((p : Int) + (q : Int) + 1) (by omega)
  have HS := Lib.hid (And.intro (show RmOH w ((((w.alloc (.cells #[.bool n, .slice A p c] 69)).alloc (.cells #[.bool m, .slice B q d] 69)).alloc (.cells #[.bool false, .slice none 0 0] 69)).alloc (.cells (cs .u64 (List.replicate L 0)).toArray 95)) (w.heap.size + 1 + 1 + 1) xs ys 0 from
    ⟨_, by simpa using RmO.start w (((w.alloc (.cells #[.bool n, .slice A p c] 69)).alloc (.cells #[.bool m, .slice B q d] 69)).alloc (.cells #[.bool false, .slice none 0 0] 69)) xs ys L (by omega)⟩) (H0.out.next (bel_a _ (.cells (cs .u64 (List.replicate L 0)).toArray 95))))
  have HL := Lib.hid hL
  have HP := Lib.hid (And.intro hp hq)
  have HB := Lib.hid (And.intro hxl hyl)
  clear hv hu hx hy hp hq hL hxl hyl hl hk
  go_enter Tryz.func70, Tryz.ntmps70
  go_wp2_with fail
  go_loopw [6] (fun i wr => ∃ i0 : Nat, i = .int .i64 (i0 : Int) ∧ i0 ≤ p ∧ RmOH w wr (w.heap.size + 1 + 1 + 1) xs ys i0 ∧ B3 69 w wr n (.slice A p c) m (.slice B q d)) (fun i _ => p - (intOf i).toNat)
  case atStart => exact ⟨0, rfl, Nat.zero_le _, HS.out.1, HS.out.2⟩
  case round =>
    obtain ⟨i, rfl, hi, hr, hb3⟩ := hrel
    obtain ⟨f1, f2, f3, f4, f5, f6, f7, f8⟩ := hb3.facts
    by_cases hgo : i < p
    · have HI := Lib.hid (show RmIH w wr (w.heap.size + 1 + 1 + 1) xs ys i 0 0 by obtain ⟨os, h⟩ := hr; exact ⟨os, h.inner⟩)
      have HB3 := Lib.hid hb3
      obtain ⟨wo, rfl⟩ : ∃ wo : World, wo = wr := ⟨_, rfl⟩
      clear hr hb3 f1 f3 f5 f6 f7 f8
      go_wp2_with fail
      go_loopw [7, 8] (fun cy j wr => ∃ q0 j0 : Nat, cy = .int .u64 (q0 : Int) ∧ j = .int .i64 (j0 : Int) ∧ RmIH w wr (w.heap.size + 1 + 1 + 1) xs ys i j0 q0 ∧ B3 69 w wr n (.slice A p c) m (.slice B q d)) (fun _ j _ => q + 2 - (intOf j).toNat)
      case atStart => exact ⟨0, 0, rfl, rfl, HI.out, HB3.out⟩
      case round =>
        obtain ⟨q0, j, rfl, rfl, ⟨os, hr3⟩, hb3⟩ := hrel
        obtain ⟨f1, f2, f3, f4, f5, f6, f7, f8⟩ := hb3.facts
        by_cases hg2 : j < q ∨ 0 < q0
        · have hjq : j ≤ q := by
            rcases Nat.lt_or_ge q j with hlt | hge
            · have := hr3.qz (by rw [← HP.out.2]; exact hlt)
              omega
            · exact hge
          have HVr := Lib.hid (HV.out.bel hb3.bel)
          have HUr := Lib.hid (HU.out.bel hb3.bel)
          obtain ⟨ad, rfl, _, hca⟩ := HVr.out.get i (by rw [← HP.out.1]; exact hgo)
          have hlen : os.length = L := by rw [hr3.len, HL.out, HP.out.1, HP.out.2]
          have hij : i + j < L := by have := HL.out; omega
          have hcell := hr3.db.cell (i + j) (by rw [hlen]; exact hij)
          have hfr := hr3.db.fr (i + j)
          have hA : dat xs i < 65536 := HX.out.1 i
          have hB : dat ys j < 65536 := HX.out.2 j
          have hO : dat os (i + j) < 65536 := hr3.dg (i + j)
          have hq0 := hr3.ql
          obtain ⟨S, hS⟩ : ∃ S, S = dat os (i + j) + dat xs i * dat ys j + q0 := ⟨_, rfl⟩
          have hSl := (hr3.next hr3.db HX.out.1 HX.out.2 (by rw [← HP.out.1]; exact hgo) (by rw [← HP.out.2]; exact hg2) hS).1
          obtain ⟨P, hPe⟩ : ∃ P, P = dat xs i * dat ys j := ⟨_, rfl⟩
          obtain ⟨R, hRe⟩ : ∃ R, R = dat os (i + j) + P := ⟨_, rfl⟩
          have F1 : IntKind.u64.wrap ((dat xs i : Int) * (dat ys j : Int)) = (P : Int) := wrap_nat (by rw [hPe]; simp) (by omega)
          have F2 : IntKind.u64.wrap ((dat os (i + j) : Int) + (P : Int)) = (R : Int) := wrap_nat (by omega) (by omega)
          have F3 : IntKind.u64.wrap ((R : Int) + (q0 : Int)) = (S : Int) := wrap_nat (by omega) (by omega)
          have e1 : IntKind.i64.wrap ((i : Int) + (j : Int)) = (i : Int) + (j : Int) := IntWalk.i64_in _ (by omega)
          have HSE := Lib.hid hS
          have HR3 := Lib.hid hr3
          have HB4 := Lib.hid hb3
          clear hr3 hS hPe hRe hb3 f1 f3 f5 f6 f7 f8 hlen hA hB hO
          go_wp2_with fail
          all_goals
            go_quiet ((go_at_call 75; exact Calls.quiet_of_same (at16_q (.slice B q d) ys j _ (HUr.out.drewN _))))
            obtain ⟨W, hW⟩ : ∃ W, W = wr.drewN nq := ⟨_, rfl⟩
            have hcW : W.cell? ⟨w.heap.size + 1 + 1 + 1, i + j, none⟩ = some (.int .u64 (dat os (i + j) : Int)) := by rw [hW]; exact hcell
            have hfW : W.frozen? ⟨w.heap.size + 1 + 1 + 1, i + j, none⟩ = false := by rw [hW]; exact hfr
            have hnx := (HR3.out.next (W := W) (by rw [hW]; exact HR3.out.db) HX.out.1 HX.out.2 (by rw [← HP.out.1]; exact hgo) (by rw [← HP.out.2]; exact hg2) HSE.out).2
            have hbx : B3 69 w W n (.slice (some ad) p c) m (.slice B q d) := by rw [hW]; exact HB4.out.drewN nq
            rw [show ((S % 65536 : Nat) : Int) = (S : Int) % 65536 by simp] at hnx
            have HN := Lib.hid (And.intro hnx (hbx.far (g := w.heap.size + 1 + 1 + 1) (by omega) (i + j) (.int .u64 ((S : Int) % 65536))))
            rw [← hW]
            clear hW hcell hfr hca hnx hbx f2 f4
            go_wp2_with fail
            exact ⟨⟨S / 65536, j + 1, by simp, by simp, ⟨_, HN.out.1⟩, HN.out.2⟩, by simp [intOf]; omega⟩
        · obtain rfl : q0 = 0 := by omega
          have HO := Lib.hid (show RmOH w wr (w.heap.size + 1 + 1 + 1) xs ys (i + 1) from ⟨os, hr3.outer (by rw [← HP.out.2]; omega)⟩)
          have HB4 := Lib.hid hb3
          clear hr3 hb3 f1 f3 f5 f6 f7 f8
          go_wp2_with fail
          exact ⟨⟨i + 1, by simp, by omega, HO.out, HB4.out⟩, by simp [intOf]; omega⟩
    · obtain rfl : i = p := by omega
      have hf : ∃ os, RmO w wr (w.heap.size + 1 + 1 + 1) xs ys os xs.length := by rw [← HP.out.1]; exact hr
      obtain ⟨os, hf⟩ := hf
      have hf2 := hf.fin (by rw [← HP.out.1, ← HP.out.2]; omega)
      rw [← HP.out.1, ← HP.out.2, ← HL.out] at hf2
      have HF := Lib.hid hf2
      have HB4 := Lib.hid hb3
      clear hf hf2 hr hb3
      go_wp2_with (go_at_call 65; (with_reducible refine (norm_parts _ (.slice (some ⟨w.heap.size + 1 + 1 + 1, 0, none⟩) L L) os wr HF.out.1 HF.out.2.1).mono ?_); rintro e w3 ⟨b', C, p', q', ss, rfl, hs, hb⟩; have HX3 := Lib.hid (HB4.out.next hb); have HSS := Lib.hid hs; clear hs hb f1 f2 f3 f4 f5 f6 f7 f8; obtain ⟨f1, f2, f3, f4, f5, f6, f7, f8⟩ := HX3.out.facts)
      exact bodyPost_ret (ret_bx28 rfl rfl (HX3.out.fin b' _)) rfl (num_fin HX3.out HSS.out (by rw [HF.out.2.2.2, sv_mul]) (by rw [HF.out.2.2.1, HL.out]; have := HB.out; omega))
end Go.Proofs.YtpobhegllhhdgaaGreat
