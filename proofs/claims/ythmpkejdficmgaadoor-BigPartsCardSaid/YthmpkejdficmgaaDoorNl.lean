/- Proved here: what package big's Sign, Add and Sub answer and leave in memory. Condition: numbers in any form, of at most 50000 digits, that lie in memory. -/
import Derived.Test.YthmpkejdficmgaaDoorNk
namespace Go.Proofs.YthmpkejdficmgaaDoor
open Go.RowKit

/-- How many digits are left without the zeros at the top. -/
def tl : List Nat → Nat
  | [] => 0
  | d :: r => if tl r = 0 then (if d = 0 then 0 else 1) else tl r + 1
theorem tl_spec (xs : List Nat) : Tl xs (tl xs) := by
  induction xs with
  | nil => exact ⟨Nat.le_refl _, fun j _ => by simp [dat], .inl rfl⟩
  | cons d r ih =>
    obtain ⟨h1, h2, h3⟩ := ih
    unfold tl
    by_cases h0 : tl r = 0
    · rw [if_pos h0]
      rw [h0] at h2
      by_cases hd : d = 0
      · rw [if_pos hd]
        refine ⟨Nat.zero_le _, fun j _ => ?_, .inl rfl⟩
        rcases j with _ | j
        · simpa [dat] using hd
        · have := h2 j (Nat.zero_le _)
          simpa [dat] using this
      · rw [if_neg hd]
        refine ⟨by simp, fun j hj => ?_, .inr (by simpa [dat] using hd)⟩
        obtain ⟨j, rfl⟩ : ∃ i, j = i + 1 := ⟨j - 1, by omega⟩
        have := h2 j (Nat.zero_le _)
        simpa [dat] using this
    · rw [if_neg h0]
      refine ⟨by simpa using h1, fun j hj => ?_, .inr ?_⟩
      · obtain ⟨j, rfl⟩ : ∃ i, j = i + 1 := ⟨j - 1, by omega⟩
        have := h2 j (by omega)
        simpa [dat] using this
      · have := h3.resolve_left h0
        obtain ⟨k, hk⟩ : ∃ k, tl r = k + 1 := ⟨tl r - 1, by omega⟩
        rw [hk] at this ⊢
        simpa [dat] using this
theorem tl_one {xs : List Nat} {n m : Nat} (h : Tl xs n) (h' : Tl xs m) : n = m := by
  rcases Nat.lt_trichotomy n m with h1 | h1 | h1
  · have := h'.2.2.resolve_left (by omega)
    exact absurd (h.2.1 (m - 1) (by omega)) this
  · exact h1
  · have := h.2.2.resolve_left (by omega)
    exact absurd (h'.2.1 (n - 1) (by omega)) this
/-- The digits without the zeros at the top. -/
def tr (xs : List Nat) : List Nat := xs.take (tl xs)
theorem tr_len (xs : List Nat) : (tr xs).length = tl xs := List.length_take_of_le (tl_spec xs).1
theorem tr_le (xs : List Nat) : tl xs ≤ xs.length := (tl_spec xs).1
theorem tr_top (xs : List Nat) : Top (tr xs) := (tl_spec xs).top
theorem tr_dw (xs : List Nat) : dw (tr xs) = dw xs := (tl_spec xs).dw
theorem tr_dv (xs : List Nat) : dv (tr xs) = dv xs := (tl_spec xs).dv
theorem tr_eg {xs : List Nat} (h : Eg xs) : Eg (tr xs) := eg_take h _
theorem tr_dg {xs : List Nat} (h : Dg xs) : Dg (tr xs) := dg_take h _
theorem Arr.tr {w : World} {k : IntKind} {A : Option Addr} {m c : Nat} {xs : List Nat} (h : Arr w k (.slice A m c) xs) : Arr w k (.slice A (tl xs) c) (tr xs) := h.take (tr_le xs)
theorem trim32_q (A : Option Addr) (m c : Nat) (xs : List Nat) (w : World) (h : Arr w .u32 (.slice A m c) xs) : Calls Tryd.prog 37 #[.slice A m c] w fun e w' => e = .returned (.slice A (tl xs) c) ∧ w' = w :=
  (trim32_any A m c xs w h).mono fun _ _ ⟨n, h1, h2, h3⟩ => ⟨by rw [h1, tl_one h2 (tl_spec xs)], h3.symm⟩
theorem trim32_w (A : Option Addr) (m c : Nat) (xs : List Nat) (w : World) (h : Arr w .u32 (.slice A m c) xs) : Calls Tryd.prog 37 #[.slice A m c] w fun e w' => e = .returned (.slice A (tl xs) c) ∧ w = w' :=
  (trim32_q A m c xs w h).mono fun _ _ h => ⟨h.1, h.2.symm⟩
theorem trim16_w (A : Option Addr) (m c : Nat) (xs : List Nat) (w : World) (h : Arr w .u64 (.slice A m c) xs) : Calls Tryd.prog 61 #[.slice A m c] w fun e w' => e = .returned (.slice A (tl xs) c) ∧ w = w' :=
  (trim16_any A m c xs w h).mono fun _ _ ⟨n, h1, h2, h3⟩ => ⟨by rw [h1, tl_one h2 (tl_spec xs)], h3⟩

/-- One number in a box. -/
def B1 (T : TypeId) (w W : World) (n : Bool) (v : Value) : Prop := Bx T W w.heap.size n v ∧ Below w.heap.size w W
/-- Two numbers in boxes, and one for the answer. -/
structure B3 (T : TypeId) (w W : World) (n : Bool) (v : Value) (m : Bool) (u : Value) : Prop where
  a : Bx T W w.heap.size n v
  b : Bx T W (w.heap.size + 1) m u
  c : Bx T W (w.heap.size + 2) false (.slice none 0 0)
  bel : Below w.heap.size w W
section
variable {T : TypeId} {w W W' : World} {n m : Bool} {v u : Value}
theorem B3.start (T : TypeId) (w : World) (n : Bool) (v : Value) (m : Bool) (u : Value) : B3 T w (((w.alloc (.cells #[.bool n, v] T)).alloc (.cells #[.bool m, u] T)).alloc (.cells #[.bool false, .slice none 0 0] T)) n v m u := by
  refine ⟨((Bx.new T w n v).alloc _).alloc _, ?_, ?_, (((Below.refl _ w).alloc (Nat.le_refl _) _).alloc (by simp) _).alloc (by simp; omega) _⟩
  · have := (Bx.new T (w.alloc (.cells #[.bool n, v] T)) m u).alloc (.cells #[.bool false, .slice none 0 0] T)
    simpa using this
  · have := Bx.new T ((w.alloc (.cells #[.bool n, v] T)).alloc (.cells #[.bool m, u] T)) false (.slice none 0 0)
    simpa using this
theorem B3.drew (h : B3 T w W n v m u) : B3 T w W.drew n v m u := ⟨h.a, h.b, h.c, h.bel.drew⟩
theorem B3.drewN (h : B3 T w W n v m u) (k : Nat) : B3 T w (W.drewN k) n v m u := ⟨h.a, h.b, h.c, below_drewN h.bel k⟩
theorem B3.next (h : B3 T w W n v m u) (hb : Below W.heap.size W W') : B3 T w W' n v m u := ⟨h.a.bel hb, h.b.bel hb, h.c.bel hb, bel_tr h.bel hb⟩
theorem B3.flip (h : B3 T w W n v m u) (k : Bool) : B3 T w (W.setCell ⟨w.heap.size + 1, 0, none⟩ (.bool k)) n v k u :=
  ⟨h.a.far (by simp) _, h.b.set0 k, h.c.far (by simp) _, bel_set h.bel (by omega) _ _⟩
theorem B3.facts (h : B3 T w W n v m u) : W.cell? ⟨w.heap.size, 0, none⟩ = some (.bool n) ∧ W.cell? ⟨w.heap.size, 1, none⟩ = some v ∧ W.cell? ⟨w.heap.size + 1, 0, none⟩ = some (.bool m) ∧ W.cell? ⟨w.heap.size + 1, 1, none⟩ = some u ∧
    W.cell? ⟨w.heap.size + 1 + 1, 0, none⟩ = some (.bool false) ∧ W.cell? ⟨w.heap.size + 1 + 1, 1, none⟩ = some (.slice none 0 0) ∧ W.frozen? ⟨w.heap.size + 1 + 1, 0, none⟩ = false ∧ W.frozen? ⟨w.heap.size + 1 + 1, 1, none⟩ = false :=
  ⟨h.a.c0, h.a.c1, h.b.c0, h.b.c1, h.c.c0, h.c.c1, h.c.fr 0, h.c.fr 1⟩
theorem B3.fin (h : B3 T w W n v m u) (k : Bool) (x : Value) : Bx T ((W.setCell ⟨w.heap.size + 2, 0, none⟩ (.bool k)).setCell ⟨w.heap.size + 2, 1, none⟩ x) (w.heap.size + 2) k x := (h.c.set0 k).set1 x
theorem B3.end_ (h : B3 T w W n v m u) (x y : Value) : Below w.heap.size w ((W.setCell ⟨w.heap.size + 2, 0, none⟩ x).setCell ⟨w.heap.size + 2, 1, none⟩ y) := bel_set (bel_set h.bel (by omega) _ _) (by omega) _ _
end
theorem BigE.to {z z' : Int} {l l' : Nat} {w : World} {e : Ending} {w' : World} (h : BigE z l w e w') (hz : z = z') (hl : l ≤ l') : BigE z' l' w e w' := by
  subst hz
  obtain ⟨Z, h1, h2, h3⟩ := h
  exact ⟨Z, h1, h2.le hl, h3⟩
theorem NumE.to {z z' : Int} {l l' : Nat} {w : World} {e : Ending} {w' : World} (h : NumE z l w e w') (hz : z = z') (hl : l ≤ l') : NumE z' l' w e w' := by
  subst hz
  obtain ⟨Z, h1, h2, h3⟩ := h
  exact ⟨Z, h1, h2.le hl, h3⟩
/-- form's answer in parts. -/
theorem form_parts (n : Bool) (v : Value) (xs : List Nat) (w : World) (h : Arr w .u32 v xs) (hx : Eg xs) : Calls Tryd.prog 38 #[.bool n, v] w fun e w' => ∃ b C p q zs, e = .returned (.agg #[.bool b, .slice C p q]) ∧ (Arr w' .u32 (.slice C p q) zs ∧ Eg zs ∧ Can b zs ∧ zs.length ≤ xs.length ∧ sv b (dw zs) = sv n (dw xs)) ∧ Below w.heap.size w w' :=
  (form_any n v xs w h hx).mono fun _ _ ⟨Z, h1, ⟨b, u, zs, h2, h3⟩, h4⟩ => by
    obtain ⟨C, q, rfl⟩ := h3.1.slice
    exact ⟨b, C, _, q, zs, by rw [h1, h2], h3, h4⟩
theorem norm_parts (n : Bool) (v : Value) (xs : List Nat) (w : World) (h : Arr w .u64 v xs) (hx : Dg xs) : Calls Tryd.prog 36 #[.bool n, v] w fun e w' => ∃ b C p q zs, e = .returned (.agg #[.bool b, .slice C p q]) ∧ (Arr w' .u64 (.slice C p q) zs ∧ Dg zs ∧ Can b zs ∧ zs.length ≤ xs.length ∧ sv b (dv zs) = sv n (dv xs)) ∧ Below w.heap.size w w' :=
  (norm_any n v xs w h hx).mono fun _ _ ⟨Z, h1, ⟨b, u, zs, h2, h3⟩, h4⟩ => by
    obtain ⟨C, q, rfl⟩ := h3.1.slice
    exact ⟨b, C, _, q, zs, by rw [h1, h2], h3, h4⟩
theorem sv_add_same (n : Bool) (x y : Nat) : sv n (x + y) = sv n x + sv n y := by cases n <;> simp [sv] <;> omega
theorem sv_add_diff {n m : Bool} {x y : Nat} (h : n ≠ m) (hle : y ≤ x) : sv n (x - y) = sv n x + sv m y := by cases n <;> cases m <;> simp [sv] at h ⊢ <;> omega
theorem Bx.not_int {T : TypeId} {w : World} {g : Nat} {n : Bool} {A : Option Addr} {m c : Nat} {k : IntKind} {d : Int} {p : Addr} (h : Bx T w g n (.slice A m c)) (hp : w.cell? p = some (.int k d)) : p.block ≠ g := by
  rintro rfl
  unfold Bx at h
  simp only [World.cell?, h] at hp
  split at hp
  · cases hp
  · rcases hj : p.off with _ | _ | j <;> rw [hj] at hp <;> simp at hp
theorem Arr.box {T : TypeId} {W : World} {k : IntKind} {v : Value} {xs : List Nat} {g : Nat} {n : Bool} {A : Option Addr} {m c : Nat} (h : Arr W k v xs) (hX : Bx T W g n (.slice A m c)) (j : Nat) (x : Value) : Arr (W.setCell ⟨g, j, none⟩ x) k v xs := by
  obtain ⟨A', c', h1, h2, h3, h4, h5⟩ := h
  refine ⟨A', c', h1, h2, h3, h4, fun ad ha => ⟨by simpa using (h5 ad ha).1, fun i hi => ?_⟩⟩
  have hc := (h5 ad ha).2 i hi
  rw [World.cell?_setCell_other]
  · exact hc
  · intro e
    exact hX.not_int hc (by rw [← e])
theorem big_fin {w W : World} {n m b : Bool} {v u x : Value} {ss : List Nat} {l l' : Nat} {z z' : Int} (hX : B3 24 w W n v m u) (hS : Arr W .u32 x ss ∧ Eg ss ∧ Can b ss ∧ ss.length ≤ l ∧ sv b (dw ss) = z) (hz : z = z') (hl : l ≤ l') :
    BigE z' l' w (.returned (.agg #[.bool b, x])) ((W.setCell ⟨w.heap.size + 2, 0, none⟩ (.bool b)).setCell ⟨w.heap.size + 2, 1, none⟩ x) := by
  obtain ⟨h1, h2, h3, h4, h5⟩ := hS
  subst hz
  exact ⟨_, rfl, ⟨b, x, ss, rfl, (h1.box hX.c 0 _).box (hX.c.set0 b) 1 _, h2, h3, Nat.le_trans h4 hl, h5⟩, hX.end_ _ _⟩
theorem num_fin {w W : World} {n m b : Bool} {v u x : Value} {ss : List Nat} {l l' : Nat} {z z' : Int} (hX : B3 28 w W n v m u) (hS : Arr W .u64 x ss ∧ Dg ss ∧ Can b ss ∧ ss.length ≤ l ∧ sv b (dv ss) = z) (hz : z = z') (hl : l ≤ l') :
    NumE z' l' w (.returned (.agg #[.bool b, x])) ((W.setCell ⟨w.heap.size + 2, 0, none⟩ (.bool b)).setCell ⟨w.heap.size + 2, 1, none⟩ x) := by
  obtain ⟨h1, h2, h3, h4, h5⟩ := hS
  subst hz
  exact ⟨_, rfl, ⟨b, x, ss, rfl, (h1.box hX.c 0 _).box (hX.c.set0 b) 1 _, h2, h3, Nat.le_trans h4 hl, h5⟩, hX.end_ _ _⟩
set_option maxHeartbeats 2000000 in
set_option maxRecDepth 100000 in
theorem add_same (n : Bool) (v u : Value) (xs ys : List Nat) (w : World) (hv : Arr w .u32 v xs) (hu : Arr w .u32 u ys) (hx : Eg xs) (hy : Eg ys) (hxl : xs.length ≤ 100000) (hyl : ys.length ≤ 100000) :
    Calls Tryd.prog 11 #[.agg #[.bool n, v], .agg #[.bool n, u]] w (BigE (sv n (dw xs) + sv n (dw ys)) (max xs.length ys.length + 1) w) := by
  obtain ⟨A, c, rfl⟩ := hv.slice
  obtain ⟨B, d, rfl⟩ := hu.slice
  obtain ⟨m, hm⟩ : ∃ m, m = xs.length := ⟨_, rfl⟩
  obtain ⟨k, hk⟩ : ∃ k, k = ys.length := ⟨_, rfl⟩
  rw [← hm] at hv
  rw [← hk] at hu
  have HV := Lib.hid hv
  have HU := Lib.hid hu
  have HX := Lib.hid (And.intro (And.intro hx (show (tr xs).length ≤ 100000 by rw [tr_len]; exact Nat.le_trans (tr_le xs) hxl)) (And.intro hy (show (tr ys).length ≤ 100000 by rw [tr_len]; exact Nat.le_trans (tr_le ys) hyl)))
  have HM := Lib.hid (And.intro hm hk)
  rw [← hm, ← hk]
  clear hm hk hv hu hx hy hxl hyl
  go_enter Tryd.func11, Tryd.ntmps11
  go_wp2_with fail
  obtain ⟨W0, hW0⟩ : ∃ W0, W0 = (((w.alloc (.cells #[.bool n, .slice A m c] 24)).alloc (.cells #[.bool n, .slice B k d] 24)).alloc (.cells #[.bool false, .slice none 0 0] 24)) := ⟨_, rfl⟩
  rw [← hW0]
  have HX0 := Lib.hid (hW0 ▸ B3.start 24 w n (.slice A m c) n (.slice B k d))
  clear hW0
  obtain ⟨f1, f2, f3, f4, f5, f6, f7, f8⟩ := HX0.out.facts
  have HV0 := Lib.hid (HV.out.bel HX0.out.bel)
  have HU0 := Lib.hid (HU.out.bel HX0.out.bel)
  go_quiet ((first | (go_at_call 37; with_reducible exact Calls.quiet_of_same (trim32_q A m c xs _ (HV0.out.drewN _))) | (go_at_call 37; with_reducible exact Calls.quiet_of_same (trim32_q B k d ys _ (HU0.out.drewN _)))))
  obtain ⟨W1, hW1⟩ : ∃ W1, W1 = W0.drewN nq := ⟨_, rfl⟩
  have HX1 := Lib.hid (show B3 24 w W1 n (.slice A m c) n (.slice B k d) by rw [hW1]; exact HX0.out.drewN nq)
  have HV1 := Lib.hid (show Arr W1 .u32 (.slice A (tl xs) c) (tr xs) by rw [hW1]; exact (HV0.out.drewN nq).tr)
  have HU1 := Lib.hid (show Arr W1 .u32 (.slice B (tl ys) d) (tr ys) by rw [hW1]; exact (HU0.out.drewN nq).tr)
  rw [← hW1]
  clear hW1 HX0 HV0 HU0 f1 f2 f3 f4 f5 f6 f7 f8
  obtain ⟨f1, f2, f3, f4, f5, f6, f7, f8⟩ := HX1.out.facts
  go_wp2_with fail
  go_region_with (first
    | (go_at_call 39; (with_reducible refine (plus32_any (.slice A (tl xs) c) (.slice B (tl ys) d) (tr xs) (tr ys) _ HV1.out.drew HU1.out.drew (tr_eg HX.out.1.1) (tr_eg HX.out.2.1) HX.out.1.2 HX.out.2.2).mono ?_); rintro e w2 ⟨z, zs, rfl, hz1, hz2, hz3, hz4, hb⟩; have HX2 := Lib.hid (HX1.out.drew.next hb); have HZ := Lib.hid (And.intro hz1 (And.intro hz2 (And.intro hz3 hz4))); clear hz1 hz2 hz3 hz4 hb f1 f2 f3 f4 f5 f6 f7 f8; obtain ⟨f1, f2, f3, f4, f5, f6, f7, f8⟩ := HX2.out.facts)
    | (go_at_call 38; (with_reducible refine (form_parts n z zs w2 HZ.out.1 HZ.out.2.1).mono ?_); rintro e w3 ⟨b, C, p, q, ss, rfl, hs, hb⟩; have HX3 := Lib.hid (HX2.out.next hb); have HS := Lib.hid hs; clear hs hb f1 f2 f3 f4 f5 f6 f7 f8; obtain ⟨f1, f2, f3, f4, f5, f6, f7, f8⟩ := HX3.out.facts))
  all_goals
    go_wp2_with fail
    exact bodyPost_ret (ret_bx24 rfl rfl (HX3.out.fin b _)) rfl (big_fin HX3.out HS.out (by rw [HZ.out.2.2.1, tr_dw, tr_dw, sv_add_same]) (by have h := HZ.out.2.2.2; rw [tr_len, tr_len] at h; rw [HM.out.1, HM.out.2]; have := tr_le xs; have := tr_le ys; omega))
end Go.Proofs.YthmpkejdficmgaaDoor
