/- Proved here: what package big's compare and the reference package's less answer. Condition: lists of digits without zeros at the top, that lie in memory. · how math/bits.Div64 finds its two digits. Condition: numbers of 64 bits, the high one below the divisor. · what math/bits.Div64 answers. Condition: numbers of 64 bits, the high one below the divisor. · what package big's times answers and leaves in memory. Condition: lists of digits that lie in memory. · what package big's Sign, Add and Sub answer and leave in memory. Condition: numbers in any form, of at most 50000 digits, that lie in memory. · what package big's Add, Sub, Sign, Cmp, Mul answer and leave in memory. Condition: numbers in any form, of at most 50000 digits, that lie in memory. · what package big's Mul answers and leaves in memory. Condition: numbers in any form, of at most 50000 digits, that lie in memory. · what package big's Neg, Of, Bits, Small and Div answer and leave in memory. Condition: numbers in any form, of at most 50000 digits, that lie in memory. · what package big's Bits and Small answer. Condition: numbers in any form that lie in memory. · what package big's Div answers and leaves in memory. Condition: numbers in any form, of at most 50000 digits, that lie in memory. -/
import Derived.Test.YtjjinncecfilpaaDoorGB
import Derived.Test.YtjjinncecfilpaaDoorGA
import Derived.Laws.Bits64b
import Derived.IntWalk
import Derived.Deep.CutBlock
import Derived.Deep.DeepCutAuto
import Derived.Deep.CutRange
namespace Go.Proofs.YtjjinncecfilpaaDoor
open Go.RowKit

/-- From k on the digits are the same. -/
def SameFrom (xs ys : List Nat) (k : Nat) : Prop := ∀ j, k ≤ j → dat xs j = dat ys j
theorem SameFrom.start {xs ys : List Nat} {m : Nat} (hx : xs.length ≤ m) (hy : ys.length ≤ m) : SameFrom xs ys m := fun j hj => by
  rw [dat_beyond (by omega), dat_beyond (by omega)]
theorem SameFrom.succ {xs ys : List Nat} {k : Nat} (h : SameFrom xs ys (k + 1)) (h0 : dat xs k = dat ys k) : SameFrom xs ys k := fun j hj => by
  rcases Nat.lt_or_ge k j with h1 | h1
  · exact h j h1
  · obtain rfl : j = k := by omega
    exact h0
theorem cmp_dw_eq {xs ys : List Nat} (h : SameFrom xs ys 0) : cmpI (dw xs) (dw ys) = 0 := cmpI_eq (by rw [dw_ext fun j => h j (Nat.zero_le _)])
theorem cmp_dw {xs ys : List Nat} {k : Nat} (hx : Eg xs) (hy : Eg ys) (h : SameFrom xs ys (k + 1)) (hne : dat xs k ≠ dat ys k) : cmpI (dw xs) (dw ys) = cmpI (dat xs k) (dat ys k) := by
  rcases Nat.lt_or_gt_of_ne hne with h1 | h1
  · have := lessw_of hx h1 fun j hj => h j hj
    rw [cmpI_lt (by omega), cmpI_lt (by omega)]
  · have := lessw_of hy h1 fun j hj => (h j hj).symm
    rw [cmpI_gt (by omega), cmpI_gt (by omega)]
theorem cmp_dw_len {xs ys : List Nat} (hx : Eg xs) (hy : Eg ys) (tx : Top xs) (ty : Top ys) (hne : xs.length ≠ ys.length) : cmpI (dw xs) (dw ys) = cmpI xs.length ys.length := by
  rcases Nat.lt_or_gt_of_ne hne with h1 | h1
  · have := len_lt32 ty hx h1
    rw [cmpI_lt (by omega), cmpI_lt (by omega)]
  · have := len_lt32 tx hy h1
    rw [cmpI_gt (by omega), cmpI_gt (by omega)]
theorem cmp_dv_eq {xs ys : List Nat} (h : SameFrom xs ys 0) : cmpI (dv xs) (dv ys) = 0 := cmpI_eq (by rw [dv_ext fun j => h j (Nat.zero_le _)])
def LessR (xs ys : List Nat) (m : Nat) (i : Value) : Prop := ∃ k : Nat, i = .int .i64 ((k : Int) - 1) ∧ k ≤ m ∧ SameFrom xs ys k
theorem cmp_dv {xs ys : List Nat} {k : Nat} (hx : Dg xs) (hy : Dg ys) (h : SameFrom xs ys (k + 1)) (hne : dat xs k ≠ dat ys k) : cmpI (dv xs) (dv ys) = cmpI (dat xs k) (dat ys k) := by
  rcases Nat.lt_or_gt_of_ne hne with h1 | h1
  · have := less_of hx h1 fun j hj => h j hj
    rw [cmpI_lt (by omega), cmpI_lt (by omega)]
  · have := less_of hy h1 fun j hj => (h j hj).symm
    rw [cmpI_gt (by omega), cmpI_gt (by omega)]
theorem cmp_dv_len {xs ys : List Nat} (hx : Dg xs) (hy : Dg ys) (tx : Top xs) (ty : Top ys) (hne : xs.length ≠ ys.length) : cmpI (dv xs) (dv ys) = cmpI xs.length ys.length := by
  rcases Nat.lt_or_gt_of_ne hne with h1 | h1
  · have := len_lt16 ty hx h1
    rw [cmpI_lt (by omega), cmpI_lt (by omega)]
  · have := len_lt16 tx hy h1
    rw [cmpI_gt (by omega), cmpI_gt (by omega)]
set_option maxHeartbeats 2000000 in
set_option maxRecDepth 100000 in
theorem less_any (v u : Value) (xs ys : List Nat) (w : World) (hv : Arr w .u64 v xs) (hu : Arr w .u64 u ys) (hx : Dg xs) (hy : Dg ys) (tx : Top xs) (ty : Top ys) (hxl : xs.length ≤ 1000000) :
    Calls Tryd.prog 68 #[v, u] w fun e w' => e = .returned (.int .i64 (cmpI (dv xs) (dv ys))) ∧ ∃ n, w' = w.drewN n := by
  obtain ⟨Av, cv, rfl⟩ := hv.slice
  obtain ⟨Au, cu, rfl⟩ := hu.slice
  obtain ⟨m, hm⟩ : ∃ m, m = xs.length := ⟨_, rfl⟩
  obtain ⟨n, hn⟩ : ∃ n, n = ys.length := ⟨_, rfl⟩
  rw [← hm] at hv hxl
  rw [← hn] at hu
  have HV := Lib.hid hv
  have HU := Lib.hid hu
  have HX := Lib.hid hx
  have HY := Lib.hid hy
  have HT := Lib.hid (And.intro tx ty)
  have HM := Lib.hid hm
  have HN := Lib.hid hn
  rw [← hm, ← hn]
  clear hv hu hx hy tx ty hm hn
  by_cases hmn : m = n
  · obtain rfl := hmn
    go_enter Tryd.func68, Tryd.ntmps68
    go_wp2_with fail
    go_loopw [5] (fun i wr => LessR xs ys m i ∧ ∃ n, wr = w.drewN n) (fun i _ => (intOf i + 1).toNat)
    case atStart => exact ⟨⟨m, rfl, Nat.le_refl _, SameFrom.start (by rw [← HM.out]; exact Nat.le_refl _) (by rw [← HN.out]; exact Nat.le_refl _)⟩, 0, rfl⟩
    case round =>
      obtain ⟨⟨k, hk, hkm, hs⟩, nd, hwr⟩ := hrel
      have HS := Lib.hid hs
      have HW := Lib.hid hwr
      clear hs hwr
      rcases k with _ | k
      · obtain rfl : u5 = .int .i64 (-1) := hk
        go_wp2_with fail
        go_ret
        exact ⟨ret_int (cmp_dv_eq HS.out).symm, nd, HW.out⟩
      · obtain rfl : u5 = .int .i64 (k : Int) := by rw [hk]; congr 1; omega
        clear hk
        have HVr := Lib.hid (show Arr wr .u64 (.slice Av m cv) xs by rw [HW.out]; exact HV.out.drewN nd)
        have HUr := Lib.hid (show Arr wr .u64 (.slice Au m cu) ys by rw [HW.out]; exact HU.out.drewN nd)
        obtain ⟨ad, rfl, _, hx1⟩ := HVr.out.get k (by rw [← HM.out]; omega)
        obtain ⟨bd, rfl, _, hx2⟩ := HUr.out.get k (by rw [← HN.out]; omega)
        rcases Nat.lt_trichotomy (dat xs k) (dat ys k) with hlt | heq | hgt
        · have HC := Lib.hid ((cmp_dv HX.out HY.out HS.out (by omega)).trans (cmpI_lt (by omega)))
          go_wp2_with fail
          go_quiet (fail)
          go_wp2_with fail
          go_ret
          exact ⟨ret_int HC.out.symm, nd + nq, by rw [HW.out, World.drewN_drewN]⟩
        · have hR : LessR xs ys m (.int .i64 ((k : Int) - 1)) := ⟨k, rfl, by omega, HS.out.succ heq⟩
          have HR := Lib.hid hR
          have h1 : ¬ dat xs k < dat ys k := by omega
          have h2 : ¬ dat ys k < dat xs k := by omega
          clear hR heq
          go_wp2_with fail
          go_quiet (fail)
          obtain ⟨W, hW⟩ : ∃ W, W = wr.drewN nq := ⟨_, rfl⟩
          have hx1' : W.cell? (ad.add k) = some (.int .u64 (dat xs k : Int)) := by rw [hW]; exact hx1
          have hx2' : W.cell? (bd.add k) = some (.int .u64 (dat ys k : Int)) := by rw [hW]; exact hx2
          rw [← hW]
          have HW2 := Lib.hid (show ∃ n1, W = wr.drewN n1 from ⟨nq, hW⟩)
          clear hW hx1 hx2 HVr HUr
          go_wp2_with fail
          go_quiet (fail)
          go_wp2_with fail
          obtain ⟨n1, hn1⟩ := HW2.out
          exact ⟨⟨HR.out, nd + (n1 + nq), by rw [hn1, HW.out, World.drewN_drewN, World.drewN_drewN]⟩, by simp [intOf]⟩
        · have HC := Lib.hid ((cmp_dv HX.out HY.out HS.out (by omega)).trans (cmpI_gt (by omega)))
          have h1 : ¬ dat xs k < dat ys k := by omega
          go_wp2_with fail
          go_quiet (fail)
          obtain ⟨W, hW⟩ : ∃ W, W = wr.drewN nq := ⟨_, rfl⟩
          have hx1' : W.cell? (ad.add k) = some (.int .u64 (dat xs k : Int)) := by rw [hW]; exact hx1
          have hx2' : W.cell? (bd.add k) = some (.int .u64 (dat ys k : Int)) := by rw [hW]; exact hx2
          rw [← hW]
          have HW2 := Lib.hid (show ∃ n1, W = wr.drewN n1 from ⟨nq, hW⟩)
          clear hW hx1 hx2 HVr HUr
          go_wp2_with fail
          go_quiet (fail)
          go_wp2_with fail
          go_ret
          obtain ⟨n1, hn1⟩ := HW2.out
          exact ⟨ret_int HC.out.symm, nd + (n1 + nq), by rw [hn1, HW.out, World.drewN_drewN, World.drewN_drewN]⟩
  · have HC := Lib.hid (cmp_dv_len HX.out HY.out HT.out.1 HT.out.2 (by rw [← HM.out, ← HN.out]; exact hmn))
    rw [← HM.out, ← HN.out] at HC
    have hb : ((m : Int) != (n : Int)) = true := by simp; omega
    rcases Nat.lt_or_gt_of_ne hmn with hlt | hgt
    · have HC2 := Lib.hid (HC.out.trans (cmpI_lt (by omega)))
      go_enter Tryd.func68, Tryd.ntmps68
      go_wp2_with fail
      go_ret
      exact ⟨ret_int HC2.out.symm, 0, rfl⟩
    · have HC2 := Lib.hid (HC.out.trans (cmpI_gt (by omega)))
      have h1 : ¬ m < n := by omega
      go_enter Tryd.func68, Tryd.ntmps68
      go_wp2_with fail
      go_ret
      exact ⟨ret_int HC2.out.symm, 0, rfl⟩
end Go.Proofs.YtjjinncecfilpaaDoor
namespace Go.Proofs.YtjjinncecfilpaaDoor
open Go.RowKit

/-- What a product of 64 bits is where it doesn't go round. -/
theorem wrapN {x : Int} {n : Nat} (h : x = (n : Int)) (hn : n < 18446744073709551616) : IntKind.u64.wrap x = (n : Int) := by
  rw [h]
  exact IntWalk.u64_in _ ⟨Int.natCast_nonneg _, by omega⟩
end Go.Proofs.YtjjinncecfilpaaDoor
namespace Go.Proofs.YtjjinncecfilpaaDoor
open Go.RowKit

theorem wrap_u64m (x : Int) : IntKind.u64.wrap x = x % 18446744073709551616 := IntKind.wrap_u64 x
end Go.Proofs.YtjjinncecfilpaaDoor
namespace Go.Proofs.YtjjinncecfilpaaDoor
open Go.RowKit

theorem wrap_nat {x : Int} {n : Nat} (h : x = (n : Int)) (hn : n < 18446744073709551616) : IntKind.u64.wrap x = (n : Int) := wrapN h hn
end Go.Proofs.YtjjinncecfilpaaDoor
namespace Go.Proofs.YtjjinncecfilpaaDoor
open Go.RowKit

/-- How many digits are left without the zeros at the top. -/
def tl : List Nat → Nat
  | [] => 0
  | d :: r => if tl r = 0 then (if d = 0 then 0 else 1) else tl r + 1
theorem tl_spec (xs : List Nat) : Tl xs (tl xs) := by
  induction xs with
  | nil => exact ⟨Nat.le_refl _, fun j _ => by simp [dat], .inl rfl⟩
  | cons d r ih =>
    obtain ⟨h1, h2, h3⟩ := ih
    unfold tl
    by_cases h0 : tl r = 0
    · rw [if_pos h0]
      rw [h0] at h2
      by_cases hd : d = 0
      · rw [if_pos hd]
        refine ⟨Nat.zero_le _, fun j _ => ?_, .inl rfl⟩
        rcases j with _ | j
        · simpa [dat] using hd
        · have := h2 j (Nat.zero_le _)
          simpa [dat] using this
      · rw [if_neg hd]
        refine ⟨by simp, fun j hj => ?_, .inr (by simpa [dat] using hd)⟩
        obtain ⟨j, rfl⟩ : ∃ i, j = i + 1 := ⟨j - 1, by omega⟩
        have := h2 j (Nat.zero_le _)
        simpa [dat] using this
    · rw [if_neg h0]
      refine ⟨by simpa using h1, fun j hj => ?_, .inr ?_⟩
      · obtain ⟨j, rfl⟩ : ∃ i, j = i + 1 := ⟨j - 1, by omega⟩
        have := h2 j (by omega)
        simpa [dat] using this
      · have := h3.resolve_left h0
        obtain ⟨k, hk⟩ : ∃ k, tl r = k + 1 := ⟨tl r - 1, by omega⟩
        rw [hk] at this ⊢
        simpa [dat] using this
theorem tl_one {xs : List Nat} {n m : Nat} (h : Tl xs n) (h' : Tl xs m) : n = m := by
  rcases Nat.lt_trichotomy n m with h1 | h1 | h1
  · have := h'.2.2.resolve_left (by omega)
    exact absurd (h.2.1 (m - 1) (by omega)) this
  · exact h1
  · have := h.2.2.resolve_left (by omega)
    exact absurd (h'.2.1 (n - 1) (by omega)) this
/-- The digits without the zeros at the top. -/
def tr (xs : List Nat) : List Nat := xs.take (tl xs)
theorem tr_len (xs : List Nat) : (tr xs).length = tl xs := List.length_take_of_le (tl_spec xs).1
theorem tr_le (xs : List Nat) : tl xs ≤ xs.length := (tl_spec xs).1
theorem tr_top (xs : List Nat) : Top (tr xs) := (tl_spec xs).top
theorem tr_dw (xs : List Nat) : dw (tr xs) = dw xs := (tl_spec xs).dw
theorem tr_dv (xs : List Nat) : dv (tr xs) = dv xs := (tl_spec xs).dv
theorem tr_eg {xs : List Nat} (h : Eg xs) : Eg (tr xs) := eg_take h _
theorem tr_dg {xs : List Nat} (h : Dg xs) : Dg (tr xs) := dg_take h _
theorem Arr.tr {w : World} {k : IntKind} {A : Option Addr} {m c : Nat} {xs : List Nat} (h : Arr w k (.slice A m c) xs) : Arr w k (.slice A (tl xs) c) (tr xs) := h.take (tr_le xs)
theorem trim16_w (A : Option Addr) (m c : Nat) (xs : List Nat) (w : World) (h : Arr w .u64 (.slice A m c) xs) : Calls Tryd.prog 80 #[.slice A m c] w fun e w' => e = .returned (.slice A (tl xs) c) ∧ w = w' :=
  (trim16_any A m c xs w h).mono fun _ _ ⟨n, h1, h2, h3⟩ => ⟨by rw [h1, tl_one h2 (tl_spec xs)], h3⟩

/-- One number in a box. -/
def B1 (T : TypeId) (w W : World) (n : Bool) (v : Value) : Prop := Bx T W w.heap.size n v ∧ Below w.heap.size w W
/-- Two numbers in boxes, and one for the answer. -/
structure B3 (T : TypeId) (w W : World) (n : Bool) (v : Value) (m : Bool) (u : Value) : Prop where
  a : Bx T W w.heap.size n v
  b : Bx T W (w.heap.size + 1) m u
  c : Bx T W (w.heap.size + 2) false (.slice none 0 0)
  bel : Below w.heap.size w W
section
variable {T : TypeId} {w W W' : World} {n m : Bool} {v u : Value}
theorem B3.start (T : TypeId) (w : World) (n : Bool) (v : Value) (m : Bool) (u : Value) : B3 T w (((w.alloc (.cells #[.bool n, v] T)).alloc (.cells #[.bool m, u] T)).alloc (.cells #[.bool false, .slice none 0 0] T)) n v m u := by
  refine ⟨((Bx.new T w n v).alloc _).alloc _, ?_, ?_, (((Below.refl _ w).alloc (Nat.le_refl _) _).alloc (by simp) _).alloc (by simp; omega) _⟩
  · have := (Bx.new T (w.alloc (.cells #[.bool n, v] T)) m u).alloc (.cells #[.bool false, .slice none 0 0] T)
    simpa using this
  · have := Bx.new T ((w.alloc (.cells #[.bool n, v] T)).alloc (.cells #[.bool m, u] T)) false (.slice none 0 0)
    simpa using this
theorem B3.drew (h : B3 T w W n v m u) : B3 T w W.drew n v m u := ⟨h.a, h.b, h.c, h.bel.drew⟩
theorem B3.drewN (h : B3 T w W n v m u) (k : Nat) : B3 T w (W.drewN k) n v m u := ⟨h.a, h.b, h.c, below_drewN h.bel k⟩
theorem B3.next (h : B3 T w W n v m u) (hb : Below W.heap.size W W') : B3 T w W' n v m u := ⟨h.a.bel hb, h.b.bel hb, h.c.bel hb, bel_tr h.bel hb⟩
theorem B3.flip (h : B3 T w W n v m u) (k : Bool) : B3 T w (W.setCell ⟨w.heap.size + 1, 0, none⟩ (.bool k)) n v k u :=
  ⟨h.a.far (by simp) _, h.b.set0 k, h.c.far (by simp) _, bel_set h.bel (by omega) _ _⟩
theorem B3.facts (h : B3 T w W n v m u) : W.cell? ⟨w.heap.size, 0, none⟩ = some (.bool n) ∧ W.cell? ⟨w.heap.size, 1, none⟩ = some v ∧ W.cell? ⟨w.heap.size + 1, 0, none⟩ = some (.bool m) ∧ W.cell? ⟨w.heap.size + 1, 1, none⟩ = some u ∧
    W.cell? ⟨w.heap.size + 1 + 1, 0, none⟩ = some (.bool false) ∧ W.cell? ⟨w.heap.size + 1 + 1, 1, none⟩ = some (.slice none 0 0) ∧ W.frozen? ⟨w.heap.size + 1 + 1, 0, none⟩ = false ∧ W.frozen? ⟨w.heap.size + 1 + 1, 1, none⟩ = false :=
  ⟨h.a.c0, h.a.c1, h.b.c0, h.b.c1, h.c.c0, h.c.c1, h.c.fr 0, h.c.fr 1⟩
theorem B3.fin (h : B3 T w W n v m u) (k : Bool) (x : Value) : Bx T ((W.setCell ⟨w.heap.size + 2, 0, none⟩ (.bool k)).setCell ⟨w.heap.size + 2, 1, none⟩ x) (w.heap.size + 2) k x := (h.c.set0 k).set1 x
theorem B3.end_ (h : B3 T w W n v m u) (x y : Value) : Below w.heap.size w ((W.setCell ⟨w.heap.size + 2, 0, none⟩ x).setCell ⟨w.heap.size + 2, 1, none⟩ y) := bel_set (bel_set h.bel (by omega) _ _) (by omega) _ _
end
theorem BigE.to {z z' : Int} {l l' : Nat} {w : World} {e : Ending} {w' : World} (h : BigE z l w e w') (hz : z = z') (hl : l ≤ l') : BigE z' l' w e w' := by
  subst hz
  obtain ⟨Z, h1, h2, h3⟩ := h
  exact ⟨Z, h1, h2.le hl, h3⟩
theorem NumE.to {z z' : Int} {l l' : Nat} {w : World} {e : Ending} {w' : World} (h : NumE z l w e w') (hz : z = z') (hl : l ≤ l') : NumE z' l' w e w' := by
  subst hz
  obtain ⟨Z, h1, h2, h3⟩ := h
  exact ⟨Z, h1, h2.le hl, h3⟩
theorem norm_parts (n : Bool) (v : Value) (xs : List Nat) (w : World) (h : Arr w .u64 v xs) (hx : Dg xs) : Calls Tryd.prog 66 #[.bool n, v] w fun e w' => ∃ b C p q zs, e = .returned (.agg #[.bool b, .slice C p q]) ∧ (Arr w' .u64 (.slice C p q) zs ∧ Dg zs ∧ Can b zs ∧ zs.length ≤ xs.length ∧ sv b (dv zs) = sv n (dv xs)) ∧ Below w.heap.size w w' :=
  (norm_any n v xs w h hx).mono fun _ _ ⟨Z, h1, ⟨b, u, zs, h2, h3⟩, h4⟩ => by
    obtain ⟨C, q, rfl⟩ := h3.1.slice
    exact ⟨b, C, _, q, zs, by rw [h1, h2], h3, h4⟩
theorem sv_add_same (n : Bool) (x y : Nat) : sv n (x + y) = sv n x + sv n y := by cases n <;> simp [sv] <;> omega
theorem sv_add_diff {n m : Bool} {x y : Nat} (h : n ≠ m) (hle : y ≤ x) : sv n (x - y) = sv n x + sv m y := by cases n <;> cases m <;> simp [sv] at h ⊢ <;> omega
theorem Bx.not_int {T : TypeId} {w : World} {g : Nat} {n : Bool} {A : Option Addr} {m c : Nat} {k : IntKind} {d : Int} {p : Addr} (h : Bx T w g n (.slice A m c)) (hp : w.cell? p = some (.int k d)) : p.block ≠ g := by
  rintro rfl
  unfold Bx at h
  simp only [World.cell?, h] at hp
  split at hp
  · cases hp
  · rcases hj : p.off with _ | _ | j <;> rw [hj] at hp <;> simp at hp
theorem Arr.box {T : TypeId} {W : World} {k : IntKind} {v : Value} {xs : List Nat} {g : Nat} {n : Bool} {A : Option Addr} {m c : Nat} (h : Arr W k v xs) (hX : Bx T W g n (.slice A m c)) (j : Nat) (x : Value) : Arr (W.setCell ⟨g, j, none⟩ x) k v xs := by
  obtain ⟨A', c', h1, h2, h3, h4, h5⟩ := h
  refine ⟨A', c', h1, h2, h3, h4, fun ad ha => ⟨by simpa using (h5 ad ha).1, fun i hi => ?_⟩⟩
  have hc := (h5 ad ha).2 i hi
  rw [World.cell?_setCell_other]
  · exact hc
  · intro e
    exact hX.not_int hc (by rw [← e])
theorem num_fin {w W : World} {n m b : Bool} {v u x : Value} {ss : List Nat} {l l' : Nat} {z z' : Int} (hX : B3 65 w W n v m u) (hS : Arr W .u64 x ss ∧ Dg ss ∧ Can b ss ∧ ss.length ≤ l ∧ sv b (dv ss) = z) (hz : z = z') (hl : l ≤ l') :
    NumE z' l' w (.returned (.agg #[.bool b, x])) ((W.setCell ⟨w.heap.size + 2, 0, none⟩ (.bool b)).setCell ⟨w.heap.size + 2, 1, none⟩ x) := by
  obtain ⟨h1, h2, h3, h4, h5⟩ := hS
  subst hz
  exact ⟨_, rfl, ⟨b, x, ss, rfl, (h1.box hX.c 0 _).box (hX.c.set0 b) 1 _, h2, h3, Nat.le_trans h4 hl, h5⟩, hX.end_ _ _⟩
end Go.Proofs.YtjjinncecfilpaaDoor
namespace Go.Proofs.YtjjinncecfilpaaDoor
open Go.RowKit

theorem sv_not (n : Bool) (x : Nat) : sv (!n) x = - sv n x := by cases n <;> simp [sv]
theorem BigE.open_ {z : Int} {l : Nat} {w : World} {e : Ending} {w' : World} (h : BigE z l w e w') : ∃ b C p q zs, e = .returned (.agg #[.bool b, .slice C p q]) ∧ (Arr w' .u32 (.slice C p q) zs ∧ Eg zs ∧ Can b zs ∧ zs.length ≤ l ∧ sv b (dw zs) = z) ∧ Below w.heap.size w w' := by
  obtain ⟨Z, h1, ⟨b, u, zs, h2, h3⟩, h4⟩ := h
  obtain ⟨C, q, rfl⟩ := h3.1.slice
  exact ⟨b, C, _, q, zs, by rw [h1, h2], h3, h4⟩
theorem NumE.open_ {z : Int} {l : Nat} {w : World} {e : Ending} {w' : World} (h : NumE z l w e w') : ∃ b C p q zs, e = .returned (.agg #[.bool b, .slice C p q]) ∧ (Arr w' .u64 (.slice C p q) zs ∧ Dg zs ∧ Can b zs ∧ zs.length ≤ l ∧ sv b (dv zs) = z) ∧ Below w.heap.size w w' := by
  obtain ⟨Z, h1, ⟨b, u, zs, h2, h3⟩, h4⟩ := h
  obtain ⟨C, q, rfl⟩ := h3.1.slice
  exact ⟨b, C, _, q, zs, by rw [h1, h2], h3, h4⟩
def isNeg (n : Bool) (x : Nat) : Int := if x = 0 then 0 else if n then -1 else 1
theorem sign_val (n : Bool) (x : Nat) : isNeg n x = cmpI (sv n x) 0 := by
  unfold isNeg cmpI
  cases n <;> simp only [sv_true, sv_false] <;> split <;> simp <;> (try split) <;> (try split) <;> omega
/-- What Sign answers. -/
def sgn (x : Int) : Int := cmpI x 0
end Go.Proofs.YtjjinncecfilpaaDoor
namespace Go.Proofs.YtjjinncecfilpaaDoor
open Go.RowKit

theorem sv_mul (n m : Bool) (x y : Nat) : sv (!(n == m)) (x * y) = sv n x * sv m y := by
  cases n <;> cases m <;> simp [sv, Int.neg_mul, Int.mul_neg]
end Go.Proofs.YtjjinncecfilpaaDoor
namespace Go.Proofs.YtjjinncecfilpaaDoor
open Go.RowKit

/-- One number in a box, and one for the answer. -/
structure B2' (T U : TypeId) (w W : World) (n : Bool) (v : Value) : Prop where
  a : Bx T W w.heap.size n v
  c : Bx U W (w.heap.size + 1) false (.slice none 0 0)
  bel : Below w.heap.size w W
section
variable {T U : TypeId} {w W W' : World} {n m : Bool} {v u : Value}
theorem B2'.start (T U : TypeId) (w : World) (n : Bool) (v : Value) : B2' T U w ((w.alloc (.cells #[.bool n, v] T)).alloc (.cells #[.bool false, .slice none 0 0] U)) n v := by
  refine ⟨(Bx.new T w n v).alloc _, ?_, ((Below.refl _ w).alloc (Nat.le_refl _) _).alloc (by simp) _⟩
  have := Bx.new U (w.alloc (.cells #[.bool n, v] T)) false (.slice none 0 0)
  simpa using this
theorem B2'.drew (h : B2' T U w W n v) : B2' T U w W.drew n v := ⟨h.a, h.c, h.bel.drew⟩
theorem B2'.drewN (h : B2' T U w W n v) (k : Nat) : B2' T U w (W.drewN k) n v := ⟨h.a, h.c, below_drewN h.bel k⟩
theorem B2'.next (h : B2' T U w W n v) (hb : Below W.heap.size W W') : B2' T U w W' n v := ⟨h.a.bel hb, h.c.bel hb, bel_tr h.bel hb⟩
theorem B2'.facts (h : B2' T U w W n v) : W.cell? ⟨w.heap.size, 0, none⟩ = some (.bool n) ∧ W.cell? ⟨w.heap.size, 1, none⟩ = some v ∧
    W.cell? ⟨w.heap.size + 1, 0, none⟩ = some (.bool false) ∧ W.cell? ⟨w.heap.size + 1, 1, none⟩ = some (.slice none 0 0) ∧ W.frozen? ⟨w.heap.size + 1, 0, none⟩ = false ∧ W.frozen? ⟨w.heap.size + 1, 1, none⟩ = false :=
  ⟨h.a.c0, h.a.c1, h.c.c0, h.c.c1, h.c.fr 0, h.c.fr 1⟩
theorem B2'.fin (h : B2' T U w W n v) (k : Bool) (x : Value) : Bx U ((W.setCell ⟨w.heap.size + 1, 0, none⟩ (.bool k)).setCell ⟨w.heap.size + 1, 1, none⟩ x) (w.heap.size + 1) k x := (h.c.set0 k).set1 x
theorem B2'.end_ (h : B2' T U w W n v) (x y : Value) : Below w.heap.size w ((W.setCell ⟨w.heap.size + 1, 0, none⟩ x).setCell ⟨w.heap.size + 1, 1, none⟩ y) := bel_set (bel_set h.bel (by omega) _ _) (by omega) _ _
theorem big_fin2 {b : Bool} {x : Value} {ss : List Nat} {l l' : Nat} {z z' : Int} (hX : B2' T U w W n v) (hS : Arr W .u32 x ss ∧ Eg ss ∧ Can b ss ∧ ss.length ≤ l ∧ sv b (dw ss) = z) (hz : z = z') (hl : l ≤ l') :
    BigE z' l' w (.returned (.agg #[.bool b, x])) ((W.setCell ⟨w.heap.size + 1, 0, none⟩ (.bool b)).setCell ⟨w.heap.size + 1, 1, none⟩ x) := by
  obtain ⟨h1, h2, h3, h4, h5⟩ := hS
  subst hz
  exact ⟨_, rfl, ⟨b, x, ss, rfl, (h1.box hX.c 0 _).box (hX.c.set0 b) 1 _, h2, h3, Nat.le_trans h4 hl, h5⟩, hX.end_ _ _⟩
theorem num_fin2 {b : Bool} {x : Value} {ss : List Nat} {l l' : Nat} {z z' : Int} (hX : B2' T U w W n v) (hS : Arr W .u64 x ss ∧ Dg ss ∧ Can b ss ∧ ss.length ≤ l ∧ sv b (dv ss) = z) (hz : z = z') (hl : l ≤ l') :
    NumE z' l' w (.returned (.agg #[.bool b, x])) ((W.setCell ⟨w.heap.size + 1, 0, none⟩ (.bool b)).setCell ⟨w.heap.size + 1, 1, none⟩ x) := by
  obtain ⟨h1, h2, h3, h4, h5⟩ := hS
  subst hz
  exact ⟨_, rfl, ⟨b, x, ss, rfl, (h1.box hX.c 0 _).box (hX.c.set0 b) 1 _, h2, h3, Nat.le_trans h4 hl, h5⟩, hX.end_ _ _⟩
end
/-- One for the answer alone. -/
structure B0 (U : TypeId) (w W : World) : Prop where
  c : Bx U W w.heap.size false (.slice none 0 0)
  bel : Below w.heap.size w W
theorem B0.start (U : TypeId) (w : World) : B0 U w (w.alloc (.cells #[.bool false, .slice none 0 0] U)) := ⟨Bx.new U w _ _, bel_a w _⟩
theorem B0.next {U : TypeId} {w W W' : World} (h : B0 U w W) (hb : Below W.heap.size W W') : B0 U w W' := ⟨h.c.bel hb, bel_tr h.bel hb⟩
theorem B0.facts {U : TypeId} {w W : World} (h : B0 U w W) : W.cell? ⟨w.heap.size, 0, none⟩ = some (.bool false) ∧ W.cell? ⟨w.heap.size, 1, none⟩ = some (.slice none 0 0) ∧ W.frozen? ⟨w.heap.size, 0, none⟩ = false ∧ W.frozen? ⟨w.heap.size, 1, none⟩ = false :=
  ⟨h.c.c0, h.c.c1, h.c.fr 0, h.c.fr 1⟩
theorem B0.fin {U : TypeId} {w W : World} (h : B0 U w W) (k : Bool) (x : Value) : Bx U ((W.setCell ⟨w.heap.size, 0, none⟩ (.bool k)).setCell ⟨w.heap.size, 1, none⟩ x) w.heap.size k x := (h.c.set0 k).set1 x
theorem big_fin0 {U : TypeId} {w W : World} {b : Bool} {x : Value} {ss : List Nat} {l l' : Nat} {z z' : Int} (hX : B0 U w W) (hS : Arr W .u32 x ss ∧ Eg ss ∧ Can b ss ∧ ss.length ≤ l ∧ sv b (dw ss) = z) (hz : z = z') (hl : l ≤ l') :
    BigE z' l' w (.returned (.agg #[.bool b, x])) ((W.setCell ⟨w.heap.size, 0, none⟩ (.bool b)).setCell ⟨w.heap.size, 1, none⟩ x) := by
  obtain ⟨h1, h2, h3, h4, h5⟩ := hS
  subst hz
  exact ⟨_, rfl, ⟨b, x, ss, rfl, (h1.box hX.c 0 _).box (hX.c.set0 b) 1 _, h2, h3, Nat.le_trans h4 hl, h5⟩, bel_set (bel_set hX.bel (Nat.le_refl _) _ _) (Nat.le_refl _) _ _⟩
theorem num_fin0 {U : TypeId} {w W : World} {b : Bool} {x : Value} {ss : List Nat} {l l' : Nat} {z z' : Int} (hX : B0 U w W) (hS : Arr W .u64 x ss ∧ Dg ss ∧ Can b ss ∧ ss.length ≤ l ∧ sv b (dv ss) = z) (hz : z = z') (hl : l ≤ l') :
    NumE z' l' w (.returned (.agg #[.bool b, x])) ((W.setCell ⟨w.heap.size, 0, none⟩ (.bool b)).setCell ⟨w.heap.size, 1, none⟩ x) := by
  obtain ⟨h1, h2, h3, h4, h5⟩ := hS
  subst hz
  exact ⟨_, rfl, ⟨b, x, ss, rfl, (h1.box hX.c 0 _).box (hX.c.set0 b) 1 _, h2, h3, Nat.le_trans h4 hl, h5⟩, bel_set (bel_set hX.bel (Nat.le_refl _) _ _) (Nat.le_refl _) _ _⟩
theorem two_val (s : Nat) : dw [s % 4294967296, s / 4294967296] = s := by simp [dw]; omega
theorem two_eg {s : Nat} (h : s < 18446744073709551616) : Eg [s % 4294967296, s / 4294967296] := fun j => by
  rcases j with _ | _ | j <;> simp <;> omega
theorem two_arr (W : World) (s g : Nat) (hg : g = W.heap.size) : Arr (W.alloc (.cells #[.int .u32 ((s : Int) % 4294967296), .int .u32 ((s : Int) / 4294967296)] 125)) .u32 (.slice (some ⟨g, 0, none⟩) 2 2) [s % 4294967296, s / 4294967296] := by
  subst hg
  have h := DB.new .u32 125 W [s % 4294967296, s / 4294967296]
  have e : (cs .u32 [s % 4294967296, s / 4294967296]).toArray = #[.int .u32 ((s : Int) % 4294967296), .int .u32 ((s : Int) / 4294967296)] := by simp [cs]
  rw [e] at h
  exact h.arr (by simp)
theorem sv_abs (n : Int) : sv (decide (n < 0)) n.natAbs = n := by
  by_cases h : n < 0 <;> simp [h, sv] <;> omega
end Go.Proofs.YtjjinncecfilpaaDoor
namespace Go.Proofs.YtjjinncecfilpaaDoor
open Go.RowKit

theorem natAbs_sv (n : Bool) (x : Nat) : (sv n x).natAbs = x := by cases n <;> simp [sv]
end Go.Proofs.YtjjinncecfilpaaDoor
namespace Go.Proofs.YtjjinncecfilpaaDoor
open Go.RowKit

theorem ret_bx28_2 {fn : Func} {p u : Tmp} {tmps : Array Value} {W : World} {g : Nat} {n : Bool} {v x : Value} (h : fn.results = #[.cell p 65, .tmp u]) (hp : tmps.getD p undef = .pointer (some ⟨g, 0, none⟩)) (hx : tmps.getD u undef = x) (hb : Bx 65 W g n v) :
    (results fn tmps).run Tryd.prog W = .ok (.tuple #[.agg #[.bool n, v], x]) W := by
  have hc0 := hb.c0
  have hc1 := hb.c1
  rw [Array.getD_eq_getD_getElem?] at hp hx
  simp [results, h, hp, hx, go_sem, hc0, hc1]
theorem sv_tdiv (b : Bool) (m : Nat) (n : Int) : sv (!(b == decide (n < 0))) (m / n.natAbs) = (sv b m).tdiv n := by
  obtain ⟨k, rfl | rfl⟩ := Int.eq_nat_or_neg n
  · have h : ¬ (k : Int) < 0 := by omega
    cases b <;> simp [sv, h, Int.neg_tdiv]
  · rcases Nat.eq_zero_or_pos k with h0 | h0
    · subst h0
      cases b <;> simp [sv]
    · have h : k ≠ 0 := by omega
      cases b <;> simp [sv, Int.tdiv_neg, Int.neg_tdiv] <;> exact fun e => absurd e h
theorem tmod_nat (m k : Nat) : (m : Int).tmod (k : Int) = (m : Int) % (k : Int) := Int.tmod_eq_emod_of_nonneg (Int.natCast_nonneg _)
theorem sv_tmod (b : Bool) (m : Nat) (n : Int) : sv b (m % n.natAbs) = (sv b m).tmod n := by
  obtain ⟨k, rfl | rfl⟩ := Int.eq_nat_or_neg n
  · cases b <;> simp [sv, Int.neg_tmod, tmod_nat]
  · cases b <;> simp [sv, Int.tmod_neg, Int.neg_tmod, tmod_nat]
/-- What Div answers. -/
def DivBE (x n : Int) (l : Nat) (w : World) (e : Ending) (w' : World) : Prop := ∃ Z, e = .returned (.tuple #[Z, .int .i64 (x.tmod n), .int .i64 0]) ∧ BigC w' Z (x.tdiv n) l ∧ Below w.heap.size w w'
theorem divbe_of {x n r : Int} {l l' : Nat} {w w' : World} {v : Value} (hE : BigE (x.tdiv n) l w (.returned v) w') (hr : r = x.tmod n) (hl : l ≤ l') : DivBE x n l' w (.returned (.tuple #[v, .int .i64 r, .int .i64 0])) w' := by
  obtain ⟨Z, h1, h2, h3⟩ := hE
  injection h1 with h1
  subst h1 hr
  exact ⟨_, rfl, h2.le hl, h3⟩
end Go.Proofs.YtjjinncecfilpaaDoor
