/- Proved here: what package big's Neg, Of, Bits, Small and Div answer and leave in memory. Condition: numbers in any form, of at most 50000 digits, that lie in memory. -/
import Derived.Test.YthmpkejdficmgaaDoorNq
namespace Go.Proofs.YthmpkejdficmgaaDoor
open Go.RowKit

/-- One number in a box, and one for the answer. -/
structure B2' (T U : TypeId) (w W : World) (n : Bool) (v : Value) : Prop where
  a : Bx T W w.heap.size n v
  c : Bx U W (w.heap.size + 1) false (.slice none 0 0)
  bel : Below w.heap.size w W
section
variable {T U : TypeId} {w W W' : World} {n m : Bool} {v u : Value}
theorem B2'.start (T U : TypeId) (w : World) (n : Bool) (v : Value) : B2' T U w ((w.alloc (.cells #[.bool n, v] T)).alloc (.cells #[.bool false, .slice none 0 0] U)) n v := by
  refine ⟨(Bx.new T w n v).alloc _, ?_, ((Below.refl _ w).alloc (Nat.le_refl _) _).alloc (by simp) _⟩
  have := Bx.new U (w.alloc (.cells #[.bool n, v] T)) false (.slice none 0 0)
  simpa using this
theorem B2'.drew (h : B2' T U w W n v) : B2' T U w W.drew n v := ⟨h.a, h.c, h.bel.drew⟩
theorem B2'.drewN (h : B2' T U w W n v) (k : Nat) : B2' T U w (W.drewN k) n v := ⟨h.a, h.c, below_drewN h.bel k⟩
theorem B2'.next (h : B2' T U w W n v) (hb : Below W.heap.size W W') : B2' T U w W' n v := ⟨h.a.bel hb, h.c.bel hb, bel_tr h.bel hb⟩
theorem B2'.facts (h : B2' T U w W n v) : W.cell? ⟨w.heap.size, 0, none⟩ = some (.bool n) ∧ W.cell? ⟨w.heap.size, 1, none⟩ = some v ∧
    W.cell? ⟨w.heap.size + 1, 0, none⟩ = some (.bool false) ∧ W.cell? ⟨w.heap.size + 1, 1, none⟩ = some (.slice none 0 0) ∧ W.frozen? ⟨w.heap.size + 1, 0, none⟩ = false ∧ W.frozen? ⟨w.heap.size + 1, 1, none⟩ = false :=
  ⟨h.a.c0, h.a.c1, h.c.c0, h.c.c1, h.c.fr 0, h.c.fr 1⟩
theorem B2'.fin (h : B2' T U w W n v) (k : Bool) (x : Value) : Bx U ((W.setCell ⟨w.heap.size + 1, 0, none⟩ (.bool k)).setCell ⟨w.heap.size + 1, 1, none⟩ x) (w.heap.size + 1) k x := (h.c.set0 k).set1 x
theorem B2'.end_ (h : B2' T U w W n v) (x y : Value) : Below w.heap.size w ((W.setCell ⟨w.heap.size + 1, 0, none⟩ x).setCell ⟨w.heap.size + 1, 1, none⟩ y) := bel_set (bel_set h.bel (by omega) _ _) (by omega) _ _
theorem big_fin2 {b : Bool} {x : Value} {ss : List Nat} {l l' : Nat} {z z' : Int} (hX : B2' T U w W n v) (hS : Arr W .u32 x ss ∧ Eg ss ∧ Can b ss ∧ ss.length ≤ l ∧ sv b (dw ss) = z) (hz : z = z') (hl : l ≤ l') :
    BigE z' l' w (.returned (.agg #[.bool b, x])) ((W.setCell ⟨w.heap.size + 1, 0, none⟩ (.bool b)).setCell ⟨w.heap.size + 1, 1, none⟩ x) := by
  obtain ⟨h1, h2, h3, h4, h5⟩ := hS
  subst hz
  exact ⟨_, rfl, ⟨b, x, ss, rfl, (h1.box hX.c 0 _).box (hX.c.set0 b) 1 _, h2, h3, Nat.le_trans h4 hl, h5⟩, hX.end_ _ _⟩
theorem num_fin2 {b : Bool} {x : Value} {ss : List Nat} {l l' : Nat} {z z' : Int} (hX : B2' T U w W n v) (hS : Arr W .u64 x ss ∧ Dg ss ∧ Can b ss ∧ ss.length ≤ l ∧ sv b (dv ss) = z) (hz : z = z') (hl : l ≤ l') :
    NumE z' l' w (.returned (.agg #[.bool b, x])) ((W.setCell ⟨w.heap.size + 1, 0, none⟩ (.bool b)).setCell ⟨w.heap.size + 1, 1, none⟩ x) := by
  obtain ⟨h1, h2, h3, h4, h5⟩ := hS
  subst hz
  exact ⟨_, rfl, ⟨b, x, ss, rfl, (h1.box hX.c 0 _).box (hX.c.set0 b) 1 _, h2, h3, Nat.le_trans h4 hl, h5⟩, hX.end_ _ _⟩
end
/-- One for the answer alone. -/
structure B0 (U : TypeId) (w W : World) : Prop where
  c : Bx U W w.heap.size false (.slice none 0 0)
  bel : Below w.heap.size w W
theorem B0.start (U : TypeId) (w : World) : B0 U w (w.alloc (.cells #[.bool false, .slice none 0 0] U)) := ⟨Bx.new U w _ _, bel_a w _⟩
theorem B0.next {U : TypeId} {w W W' : World} (h : B0 U w W) (hb : Below W.heap.size W W') : B0 U w W' := ⟨h.c.bel hb, bel_tr h.bel hb⟩
theorem B0.facts {U : TypeId} {w W : World} (h : B0 U w W) : W.cell? ⟨w.heap.size, 0, none⟩ = some (.bool false) ∧ W.cell? ⟨w.heap.size, 1, none⟩ = some (.slice none 0 0) ∧ W.frozen? ⟨w.heap.size, 0, none⟩ = false ∧ W.frozen? ⟨w.heap.size, 1, none⟩ = false :=
  ⟨h.c.c0, h.c.c1, h.c.fr 0, h.c.fr 1⟩
theorem B0.fin {U : TypeId} {w W : World} (h : B0 U w W) (k : Bool) (x : Value) : Bx U ((W.setCell ⟨w.heap.size, 0, none⟩ (.bool k)).setCell ⟨w.heap.size, 1, none⟩ x) w.heap.size k x := (h.c.set0 k).set1 x
theorem big_fin0 {U : TypeId} {w W : World} {b : Bool} {x : Value} {ss : List Nat} {l l' : Nat} {z z' : Int} (hX : B0 U w W) (hS : Arr W .u32 x ss ∧ Eg ss ∧ Can b ss ∧ ss.length ≤ l ∧ sv b (dw ss) = z) (hz : z = z') (hl : l ≤ l') :
    BigE z' l' w (.returned (.agg #[.bool b, x])) ((W.setCell ⟨w.heap.size, 0, none⟩ (.bool b)).setCell ⟨w.heap.size, 1, none⟩ x) := by
  obtain ⟨h1, h2, h3, h4, h5⟩ := hS
  subst hz
  exact ⟨_, rfl, ⟨b, x, ss, rfl, (h1.box hX.c 0 _).box (hX.c.set0 b) 1 _, h2, h3, Nat.le_trans h4 hl, h5⟩, bel_set (bel_set hX.bel (Nat.le_refl _) _ _) (Nat.le_refl _) _ _⟩
theorem num_fin0 {U : TypeId} {w W : World} {b : Bool} {x : Value} {ss : List Nat} {l l' : Nat} {z z' : Int} (hX : B0 U w W) (hS : Arr W .u64 x ss ∧ Dg ss ∧ Can b ss ∧ ss.length ≤ l ∧ sv b (dv ss) = z) (hz : z = z') (hl : l ≤ l') :
    NumE z' l' w (.returned (.agg #[.bool b, x])) ((W.setCell ⟨w.heap.size, 0, none⟩ (.bool b)).setCell ⟨w.heap.size, 1, none⟩ x) := by
  obtain ⟨h1, h2, h3, h4, h5⟩ := hS
  subst hz
  exact ⟨_, rfl, ⟨b, x, ss, rfl, (h1.box hX.c 0 _).box (hX.c.set0 b) 1 _, h2, h3, Nat.le_trans h4 hl, h5⟩, bel_set (bel_set hX.bel (Nat.le_refl _) _ _) (Nat.le_refl _) _ _⟩
set_option maxHeartbeats 2000000 in
set_option maxRecDepth 100000 in
theorem neg_any (X : Value) (x : Int) (l : Nat) (w : World) (hX : BigA w X x l) (hl : l ≤ 100000) : Calls Tryd.prog 18 #[X] w (BigE (-x) l w) := by
  obtain ⟨n, v, xs, rfl, hv, hx, hxl, rfl⟩ := hX
  obtain ⟨A, c, rfl⟩ := hv.slice
  have HX := Lib.hid (And.intro hx (show (tr xs).length ≤ l by rw [tr_len]; have := tr_le xs; omega))
  obtain ⟨p, hp⟩ : ∃ p, p = xs.length := ⟨_, rfl⟩
  rw [← hp] at hv ⊢
  have HV := Lib.hid hv
  have HL := Lib.hid hl
  clear hv hx hxl hp hl
  go_enter Tryd.func18, Tryd.ntmps18
  go_wp2_with fail
  obtain ⟨W0, hW0⟩ : ∃ W0, W0 = ((w.alloc (.cells #[.bool n, .slice A p c] 24)).alloc (.cells #[.bool false, .slice none 0 0] 24)) := ⟨_, rfl⟩
  rw [← hW0]
  have HX0 := Lib.hid (hW0 ▸ B2'.start 24 24 w n (.slice A p c))
  clear hW0
  obtain ⟨f1, f2, f3, f4, f5, f6⟩ := HX0.out.facts
  have HV0 := Lib.hid (HV.out.bel HX0.out.bel)
  have l1 := HX0.out.c.lt
  have ne1 : ¬ w.heap.size + 1 = w.heap.size := by omega
  have ne2 : ¬ w.heap.size = w.heap.size + 1 := by omega
  clear f3 f4 f5 f6
  go_region_held3 (fun w' => w'.cell? ⟨w.heap.size, 0, none⟩ = some (.bool n) ∧ w'.cell? ⟨w.heap.size, 1, none⟩ = some (.slice A p c))
    (first | (go_split_ands; refine ⟨?_, ?_⟩ <;> first | (rw [hb3.cell (by have := hb2.size; simp at this ⊢; omega)]; assumption) | (rw [hb2.cell (by simp; omega)]; assumption)) | go_keep)
    (first
      | (go_at_call 37; (with_reducible refine (trim32_w A p c xs _ HV0.out.drew).mono ?_); rintro e w1 ⟨rfl, rfl⟩)
      | (go_at_call 47; (with_reducible refine (clone_any (.slice A (tl xs) c) (tr xs) _ HV0.out.drew.tr (Nat.le_trans HX.out.2 (Nat.le_trans HL.out (by decide)))).mono ?_); rintro e w2 ⟨z, rfl, hz, hb2⟩; have HX2 := Lib.hid (HX0.out.drew.next hb2); have HZ := Lib.hid hz; clear hz)
      | (go_at_call 38; (with_reducible refine (form_parts _ z (tr xs) w2 HZ.out (tr_eg HX.out.1)).mono ?_); rintro e w3 ⟨b, C, p', q', ss, rfl, hs, hb3⟩; have HX3 := Lib.hid (HX2.out.next hb3); have HS := Lib.hid hs; clear hs; obtain ⟨_, _, f3, f4, f5, f6⟩ := HX3.out.facts))
  all_goals
    go_wp2_with fail
    exact bodyPost_ret (ret_bx24 rfl rfl (HX3.out.fin b _)) rfl (big_fin2 HX3.out HS.out (by rw [tr_dw, sv_not]) HX.out.2)
theorem two_val (s : Nat) : dw [s % 4294967296, s / 4294967296] = s := by simp [dw]; omega
theorem two_eg {s : Nat} (h : s < 18446744073709551616) : Eg [s % 4294967296, s / 4294967296] := fun j => by
  rcases j with _ | _ | j <;> simp <;> omega
theorem two_arr (W : World) (s g : Nat) (hg : g = W.heap.size) : Arr (W.alloc (.cells #[.int .u32 ((s : Int) % 4294967296), .int .u32 ((s : Int) / 4294967296)] 61)) .u32 (.slice (some ⟨g, 0, none⟩) 2 2) [s % 4294967296, s / 4294967296] := by
  subst hg
  have h := DB.new .u32 61 W [s % 4294967296, s / 4294967296]
  have e : (cs .u32 [s % 4294967296, s / 4294967296]).toArray = #[.int .u32 ((s : Int) % 4294967296), .int .u32 ((s : Int) / 4294967296)] := by simp [cs]
  rw [e] at h
  exact h.arr (by simp)
theorem sv_abs (n : Int) : sv (decide (n < 0)) n.natAbs = n := by
  by_cases h : n < 0 <;> simp [h, sv] <;> omega
set_option maxHeartbeats 2000000 in
set_option maxRecDepth 100000 in
theorem of_any (n : Int) (w : World) (h1 : -9223372036854775808 ≤ n) (h2 : n ≤ 9223372036854775807) : Calls Tryd.prog 25 #[.int .i64 n] w (BigE n 2 w) := by
  obtain ⟨s, hs⟩ : ∃ s, s = n.natAbs := ⟨_, rfl⟩
  have hsl : s < 18446744073709551616 := by omega
  have HA := Lib.hid (fun W => abs_any n W h1 h2)
  rw [← hs] at HA
  have HV := Lib.hid (show sv (decide (n < 0)) s = n by rw [hs]; exact sv_abs n)
  have HE := Lib.hid (two_eg hsl)
  have H0 := Lib.hid ((B0.start 24 w).next (bel_a (w.alloc (.cells #[.bool false, .slice none 0 0] 24)) (.cells #[.int .u32 ((s : Int) % 4294967296), .int .u32 ((s : Int) / 4294967296)] 61)))
  have HR := Lib.hid (two_arr (w.alloc (.cells #[.bool false, .slice none 0 0] 24)) s (w.heap.size + 1) (by simp))
  clear hs h1 h2
  go_enter Tryd.func25, Tryd.ntmps25
  go_wp2_with (first | (go_at_call 50; (with_reducible refine (HA.out _).mono ?_); rintro e w1 ⟨rfl, rfl⟩) | (go_at_call 38; (with_reducible refine (form_parts (decide (n < 0)) (.slice (some ⟨w.heap.size + 1, 0, none⟩) 2 2) [s % 4294967296, s / 4294967296] _ HR.out HE.out).mono ?_); rintro e w3 ⟨b, C, p', q', ss, rfl, hs, hb3⟩; have HX3 := Lib.hid (H0.out.next hb3); have HS := Lib.hid hs; clear hs hb3; obtain ⟨f3, f4, f5, f6⟩ := HX3.out.facts))
  exact bodyPost_ret (ret_bx24 rfl rfl (HX3.out.fin b _)) rfl (big_fin0 HX3.out HS.out (by rw [two_val]; exact HV.out) (by simp))
end Go.Proofs.YthmpkejdficmgaaDoor
