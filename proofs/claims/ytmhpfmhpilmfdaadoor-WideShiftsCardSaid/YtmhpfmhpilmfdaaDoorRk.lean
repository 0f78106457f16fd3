/- Proved here: what the reference package's Divide answers and leaves in memory. Condition: eight digits, and a divisor that isn't 0. -/
import Derived.Test.YtmhpfmhpilmfdaaDoorRi
namespace Go.Proofs.YtmhpfmhpilmfdaaDoor
open Go.RowKit

/-- The block g holds just the digits xs. -/
def DB (w : World) (g : Nat) (xs : List Nat) : Prop := w.heap[g]? = some (.cells (dc xs).toArray 22 (0, 0))
section
variable {w w' : World} {g : Nat} {xs : List Nat}
theorem DB.lt (h : DB w g xs) : g < w.heap.size := by
  rcases Nat.lt_or_ge g w.heap.size with hl | hl
  · exact hl
  · unfold DB at h; rw [Array.getElem?_eq_none hl] at h; cases h
theorem DB.cell (h : DB w g xs) (i : Nat) (hi : i < xs.length) : w.cell? ⟨g, i, none⟩ = some (.int .u64 (dat xs i : Int)) := by
  rw [cell_of_row w g i _ 22 (0, 0) h, ← dc_get xs i hi]
  simp
theorem DB.fr (h : DB w g xs) (j : Nat) : w.frozen? ⟨g, j, none⟩ = false := by
  unfold DB at h
  simp [World.frozen?, h]
theorem DB.below {B : Nat} (h : DB w g xs) (hb : Below B w w') (hg : g < B) : DB w' g xs := (hb.block g hg).trans h
theorem DB.set_ (h : DB w g xs) (i d : Nat) : DB (w.setCell ⟨g, i, none⟩ (.int .u64 (d : Int))) g (xs.set i d) := by
  unfold DB at h ⊢
  simp [World.setCell, Array.getElem?_modify, h, dc, List.map_set]
theorem DB.row (h : DB w g xs) (hl : xs.length ≤ 1000) : Row w (.slice (some ⟨g, 0, none⟩) xs.length xs.length) xs :=
  ⟨by rw [dc_len, Nat.mul_one], .inr ⟨g, xs.length, (dc xs).toArray, rfl, Nat.zero_le _, h, Nat.le_refl _, by unfold maxLen; omega, by simp [dc_len], by simp [← dc_len xs]⟩⟩
theorem DB.new (w : World) (xs : List Nat) : DB (w.alloc (.cells (dc xs).toArray 22)) w.heap.size xs := heap_alloc_new w _
end
theorem bit_mod (X b : Nat) (hb : b < 16) : X % 65536 / 2 ^ b % 2 = X / 2 ^ b % 2 := by
  have : b = 0 ∨ b = 1 ∨ b = 2 ∨ b = 3 ∨ b = 4 ∨ b = 5 ∨ b = 6 ∨ b = 7 ∨ b = 8 ∨ b = 9 ∨ b = 10 ∨ b = 11 ∨ b = 12 ∨ b = 13 ∨ b = 14 ∨ b = 15 := by omega
  rcases this with rfl | rfl | rfl | rfl | rfl | rfl | rfl | rfl | rfl | rfl | rfl | rfl | rfl | rfl | rfl | rfl <;> omega
/-- The digit in base 2. -/
def bt (x i : Nat) : Nat := x / 2 ^ i % 2
theorem bt_dat {xs : List Nat} (h : Dg xs) (i : Nat) : dat xs (i / 16) / 2 ^ (i % 16) % 2 = bt (dv xs) i := by
  have h1 : dat xs (i / 16) = dv xs / 65536 ^ (i / 16) % 65536 := (dv_digit h (i / 16)).symm
  rw [h1, bit_mod _ _ (Nat.mod_lt _ (by decide)), bt, show 65536 = 2 ^ 16 from rfl, ← Nat.pow_mul, Nat.div_div_eq_div_mul, ← Nat.pow_add, Nat.div_add_mod]
theorem bit_num (v : Value) (x l i : Nat) (w : World) (h : Num w v x l) (hi : i < 65536) :
    Calls Tryd.prog 40 #[v, .int .i64 (i : Int)] w fun e w' => e = .returned (.int .u64 (bt x i : Int)) ∧ w = w' := by
  obtain ⟨xs, h1, h2, rfl, _⟩ := h
  rw [← bt_dat h2]
  exact bit_any v xs i w h1 hi
theorem bt_lt (x i : Nat) : bt x i < 2 := Nat.mod_lt _ (by decide)
theorem num_one (w : World) (d : Nat) (hd : d < 2) : Num (w.alloc (.cells #[.int .u64 (d : Int)] 22)) (.slice (some ⟨w.heap.size, 0, none⟩) 1 1) d 1 := by
  have h : DB (w.alloc (.cells #[.int .u64 (d : Int)] 22)) w.heap.size [d] := DB.new w [d]
  refine ⟨[d], h.row (by simp), fun j => ?_, by simp [dv], rfl⟩
  rcases j with _ | j <;> simp <;> omega
/-- What holds at each round's head of Divide: the quotient of the number without its last m digits in base 2. -/
structure DivR (w wr : World) (x y : Nat) (qs : List Nat) (r : Value) (rv lr m Q : Nat) : Prop where
  db : DB wr w.heap.size qs
  dg : Dg qs
  len : qs.length = 8
  num : Num wr r rv lr
  lrl : lr ≤ 2 * (128 - m)
  bel : Below w.heap.size w wr
  val : dv qs = Q * 2 ^ m
  eq : x / 2 ^ m = Q * y + rv
  lt : rv < y
def DivH (w wr : World) (x y : Nat) (r : Value) (m : Nat) : Prop := ∃ qs rv lr Q, DivR w wr x y qs r rv lr m Q
theorem half_step (x k : Nat) : x / 2 ^ k = 2 * (x / 2 ^ (k + 1)) + bt x k := by
  have h : x / 2 ^ (k + 1) = x / 2 ^ k / 2 := by rw [Nat.pow_succ, Nat.div_div_eq_div_mul]
  rw [h, bt]
  omega
/-- The bit that is set isn't there yet, so that the digit stays one. -/
theorem set_bit {qs : List Nat} {Q k : Nat} (h : Dg qs) (hl : qs.length = 8) (hk : k < 128) (hv : dv qs = Q * 2 ^ (k + 1)) :
    dat qs (k / 16) + 2 ^ (k % 16) < 65536 ∧ dv (qs.set (k / 16) (dat qs (k / 16) + 2 ^ (k % 16))) = (2 * Q + 1) * 2 ^ k := by
  have h1 : dat qs (k / 16) = dv qs / 65536 ^ (k / 16) % 65536 := (dv_digit h (k / 16)).symm
  have e1 : 65536 ^ (k / 16) * 2 ^ (k % 16) = 2 ^ k := by
    rw [show 65536 = 2 ^ 16 from rfl, ← Nat.pow_mul, ← Nat.pow_add, Nat.div_add_mod]
  have e2 : dv qs = 2 * Q * 2 ^ (k % 16) * 65536 ^ (k / 16) := by
    rw [hv, Nat.pow_succ, ← e1]
    grind
  have hs := dv_set (l := qs) (dat qs (k / 16) + 2 ^ (k % 16)) (show k / 16 < qs.length by omega)
  have hs2 : dv (qs.set (k / 16) (dat qs (k / 16) + 2 ^ (k % 16))) = dv qs + 65536 ^ (k / 16) * 2 ^ (k % 16) := by
    have : qs.getD (k / 16) 0 = dat qs (k / 16) := rfl
    rw [this, Nat.mul_add] at hs
    omega
  refine ⟨?_, ?_⟩
  · rw [h1, e2, Nat.mul_div_cancel _ (pw_pos _)]
    have hb : k % 16 < 16 := Nat.mod_lt _ (by decide)
    generalize k % 16 = b at *
    have : b = 0 ∨ b = 1 ∨ b = 2 ∨ b = 3 ∨ b = 4 ∨ b = 5 ∨ b = 6 ∨ b = 7 ∨ b = 8 ∨ b = 9 ∨ b = 10 ∨ b = 11 ∨ b = 12 ∨ b = 13 ∨ b = 14 ∨ b = 15 := by omega
    clear hs hs2 e1 e2 h1 hv h
    rcases this with rfl | rfl | rfl | rfl | rfl | rfl | rfl | rfl | rfl | rfl | rfl | rfl | rfl | rfl | rfl | rfl <;> omega
  · rw [hs2, e1, hv, Nat.pow_succ]
    grind
theorem Tryd.mk8 : ∀ w, (Instr.makeSlice 46 (.int .i64 8) (.int .i64 8)).run Tryd.prog w = .ok (.slice (some ⟨w.heap.size, 0, none⟩) 8 8) (w.alloc (.cells (dc [0, 0, 0, 0, 0, 0, 0, 0]).toArray 22)) := fun _ => by kernel_rfl
theorem divH_start (w : World) (x y : Nat) (hx : x < 2 ^ 128) (hy : 0 < y) : DivH w (w.alloc (.cells (dc [0, 0, 0, 0, 0, 0, 0, 0]).toArray 22)) x y (.slice none 0 0) 128 :=
  ⟨_, 0, 0, 0, DB.new w _, dg_zeros 8, rfl, ⟨[], Row.nil _, dg_nil, rfl, rfl⟩, by omega, (Below.refl _ _).alloc (Nat.le_refl _) _, by simp [dv], by rw [Nat.div_eq_of_lt hx]; simp, hy⟩
set_option maxHeartbeats 1000000 in
set_option maxRecDepth 100000 in
theorem minus_own (v u : Value) (xs ys : List Nat) (w : World) (hv : Row w v xs) (hu : Row w u ys) (hx : Dg xs) (hy : Dg ys) (hxl : xs.length ≤ 1000) (hle : dv ys ≤ dv xs) :
    Calls Tryd.prog 31 #[v, u] w fun e w' => ∃ z zs, e = .returned z ∧ w'.ownsRow w.heap.size 22 1 z zs.length (dc zs) ∧ Dg zs ∧ dv zs = dv xs - dv ys ∧ zs.length = xs.length ∧ Below w.heap.size w w' := by
  obtain ⟨Av, cv, rfl⟩ := hv.slice
  obtain ⟨Au, cu, rfl⟩ := hu.slice
  obtain ⟨m, hm⟩ : ∃ m, m = xs.length := ⟨_, rfl⟩
  obtain ⟨n, hn⟩ : ∃ n, n = ys.length := ⟨_, rfl⟩
  have HV := Lib.hid hv
  have HU := Lib.hid hu
  have HX := Lib.hid hx
  have HY := Lib.hid hy
  have HL := Lib.hid hle
  clear hv hu hx hy hle
  have HM := Lib.hid hm
  have HN := Lib.hid hn
  rw [← hm, ← hn]
  rw [← hm] at hxl
  clear hm hn
  go_enter Tryd.func31, Tryd.ntmps31
  go_wp2_with fail
  go_loopw [5, 6, 7] (fun z c i wr => ∃ (k q : Nat) (zs : List Nat), i = .int .i64 (k : Int) ∧ c = .int .u64 (q : Int) ∧ q ≤ 1 ∧ k ≤ m ∧ MinusR w wr xs ys zs k q z)
    (fun _ _ i _ => m - (intOf i).toNat)
  case atStart => exact ⟨0, 0, [], rfl, rfl, by omega, by omega, World.ownsRow_nil _ _ _ _, dg_nil, rfl, by simp [dv], Below.refl _ _⟩
  case round =>
    obtain ⟨k, q, zs, rfl, rfl, hq, hk, hr⟩ := hrel
    have hXk : dat xs k < 65536 := HX.out k
    have hYk : dat ys k < 65536 := HY.out k
    have HVr := Lib.hid (row_keep HV.out HM.out hr.below)
    have HUr := Lib.hid (row_keep HU.out HN.out hr.below)
    have hown := Lib.hid hr.own
    have hbas := hr.below.size
    have HR := Lib.hid hr
    clear hr
    by_cases hgo : k < m
    · obtain ⟨g, rfl, hcell⟩ := HVr.out.get k (by rw [← HM.out]; exact hgo)
      go_wp2_with fail
      go_quiet ((go_at_call 41; exact Calls.quiet_of_same (at_q (.slice Au n cu) ys k _ HUr.out)))
      obtain ⟨W, hW⟩ : ∃ W, W = wr.drewN nq := ⟨_, rfl⟩
      have HRW := Lib.hid (HR.out.drewN nq)
      rw [← hW] at HRW ⊢
      clear hW HR hown HUr hcell hbas
      have hown := Lib.hid HRW.out.own
      have hbas := HRW.out.below.size
      go_wp2_with (at_builtin; go_must (refine push_own rfl (.tmp 26) (.tmp 29) rfl w.heap.size u5 k zs ((65536 + dat xs k - dat ys k - q) % 65536) rfl hown.out _ ?_ hbas ?_ rfl ?_); rotate_left 2; intro z' w' hown' hb')
      case roundEnd =>
        refine ⟨⟨k + 1, 1 - (65536 + dat xs k - dat ys k - q) / 65536, _, by simp, minus_cast hXk hYk hq, by omega, by omega, HRW.out.step hown' hb' hq HX.out HY.out⟩, ?_⟩
        simp [intOf]
        omega
      · omega
      · omega
    · go_wp2_with fail
      go_ret
      obtain ⟨h1, h2, h3, h4, h5⟩ := HR.out
      have e : k = xs.length := by rw [← HM.out]; omega
      subst e
      exact ⟨u5, zs, rfl, (by rw [h3]; exact h1), h2, minus_end h2 HX.out HY.out h3 hq HL.out h4, by rw [h3, HM.out], h5⟩
/-- As Num, of digits in a block from base on. -/
def NumO (w : World) (base : Nat) (z : Value) (n l : Nat) : Prop := ∃ xs, w.ownsRow base 22 1 z xs.length (dc xs) ∧ Dg xs ∧ dv xs = n ∧ xs.length = l
theorem NumO.set {w : World} {base : Nat} {z : Value} {n l g i : Nat} (h : NumO w base z n l) (hg : g < base) (u : Value) : Num (w.setCell ⟨g, i, none⟩ u) z n l := by
  obtain ⟨xs, h1, h2, h3, h4⟩ := h
  exact ⟨xs, Row.of_own (ownsRow_setCell_below h1 (a := ⟨g, i, none⟩) hg u), h2, h3, h4⟩
theorem minus_numO (v u : Value) (x y lx ly : Nat) (w : World) (hv : Num w v x lx) (hu : Num w u y ly) (hxl : lx ≤ 1000) (hle : y ≤ x) :
    Calls Tryd.prog 31 #[v, u] w fun e w' => ∃ z, e = .returned z ∧ NumO w' w.heap.size z (x - y) lx ∧ Below w.heap.size w w' := by
  obtain ⟨xs, h1, h2, rfl, rfl⟩ := hv
  obtain ⟨ys, h5, h6, rfl, rfl⟩ := hu
  exact (minus_own v u xs ys w h1 h5 h2 h6 hxl hle).mono fun _ _ ⟨z, zs, he, hr, hz, hval, hl, hb⟩ => ⟨z, he, ⟨zs, hr, hz, hval, hl⟩, hb⟩
/-- The round where the divisor goes in once more. -/
theorem DivR.ge_step {w wr wb wc W : World} {x y : Nat} {qs : List Nat} {r z : Value} {rv lr k Q lb : Nat} (h : DivR w wr x y qs r rv lr (k + 1) Q) (hk : k < 128) (hrb : Below wr.heap.size wr wb) (hbc : Below wb.heap.size wb wc) (hW : W = wc.drew)
    (hn : NumO wc wb.heap.size z (rv + rv + bt x k - y) lb) (hl : lb ≤ lr + 2) (hc : y ≤ rv + rv + bt x k) :
    DivH w (W.setCell ⟨w.heap.size, k / 16, none⟩ (.int .u64 (IntKind.u64.wrap ((dat qs (k / 16) : Int) + IntKind.u64.wrap (2 ^ (k % 16)))))) x y z k := by
  subst hW
  obtain ⟨s1, s2⟩ := set_bit h.dg h.len hk h.val
  have hlt := h.db.lt
  have hltb := Nat.lt_of_lt_of_le hlt hrb.size
  have hval : IntKind.u64.wrap ((dat qs (k / 16) : Int) + IntKind.u64.wrap (2 ^ (k % 16))) = ((dat qs (k / 16) + 2 ^ (k % 16) : Nat) : Int) := by
    have e : (2 : Int) ^ (k % 16) = ((2 ^ (k % 16) : Nat) : Int) := by simp
    rw [e]
    generalize 2 ^ (k % 16) = P at *
    rw [IntWalk.u64_in (P : Int) (by omega), ← Int.natCast_add]
    exact IntWalk.u64_in _ (by omega)
  rw [hval]
  have hdb := ((h.db.below hrb hlt).below hbc hltb)
  have hbt := bt_lt x k
  have hmul : (2 * Q + 1) * y = 2 * (Q * y) + y := by grind
  refine ⟨qs.set (k / 16) (dat qs (k / 16) + 2 ^ (k % 16)), rv + rv + bt x k - y, lb, 2 * Q + 1, ⟨DB.set_ (w := wc.drew) hdb _ _, dg_set h.dg _ s1, by simp [h.len], hn.set (w := wc.drew) hltb _, by have := h.lrl; omega,
    ((h.bel.trans (hrb.mono h.bel.size)).trans (hbc.mono (Nat.le_trans h.bel.size hrb.size))).drew.setCell (Nat.le_refl _) _, s2, ?_, ?_⟩⟩
  · rw [half_step, h.eq, hmul]
    omega
  · have := h.lt
    omega
/-- The round where it doesn't. -/
theorem DivR.lt_step {w wr wb : World} {x y : Nat} {qs : List Nat} {r z : Value} {rv lr k Q lb : Nat} (h : DivR w wr x y qs r rv lr (k + 1) Q) (_hk : k < 128) (hrb : Below wr.heap.size wr wb)
    (hn : Num wb z (rv + rv + bt x k) lb) (hl : lb ≤ lr + 2) (hc : rv + rv + bt x k < y) : DivH w wb x y z k := by
  have hmul : 2 * Q * y = 2 * (Q * y) := by grind
  refine ⟨qs, rv + rv + bt x k, lb, 2 * Q, ⟨h.db.below hrb h.db.lt, h.dg, h.len, hn, by have := h.lrl; omega, h.bel.trans (hrb.mono h.bel.size), ?_, ?_, hc⟩⟩
  · rw [h.val, Nat.pow_succ]
    grind
  · rw [half_step, h.eq, hmul]
    omega
theorem DivR.fin {w wr : World} {x y : Nat} {qs : List Nat} {r : Value} {rv lr Q : Nat} (h : DivR w wr x y qs r rv lr 0 Q) :
    Num wr (.slice (some ⟨w.heap.size, 0, none⟩) 8 8) (x / y) 8 ∧ Num wr r (x % y) lr ∧ lr ≤ 256 ∧ Below w.heap.size w wr := by
  have he := h.eq
  have hv := h.val
  rw [Nat.pow_zero] at he hv
  rw [Nat.div_one] at he
  rw [Nat.mul_one] at hv
  have h1 : x / y = Q := by
    rw [he, Nat.mul_comm, Nat.mul_add_div (by have := h.lt; omega), Nat.div_eq_of_lt h.lt, Nat.add_zero]
  have h2 : x % y = rv := by
    rw [he, Nat.mul_comm, Nat.mul_add_mod, Nat.mod_eq_of_lt h.lt]
  refine ⟨⟨qs, ?_, h.dg, by rw [h1, hv], h.len⟩, by rw [h2]; exact h.num, h.lrl, h.bel⟩
  have := h.db.row (by rw [h.len]; decide)
  rw [h.len] at this
  exact this
set_option maxHeartbeats 2000000 in
set_option maxRecDepth 100000 in
theorem divide_num (v u : Value) (x y : Nat) (w : World) (hv : Num w v x 8) (hu : Num w u y 8) (hx : x < 2 ^ 128) (hy : 0 < y) :
    Calls Tryd.prog 35 #[v, u] w fun e w' => ∃ q r l, e = .returned (.tuple #[q, r]) ∧ Num w' q (x / y) 8 ∧ Num w' r (x % y) l ∧ l ≤ 256 ∧ Below w.heap.size w w' := by
  obtain ⟨Av, cv, rfl⟩ : ∃ A c, v = .slice A 8 c := by
    obtain ⟨xs, h1, _, _, h4⟩ := hv
    obtain ⟨A, c, hh⟩ := h1.slice
    exact ⟨A, c, by rw [hh, h4]⟩
  have HV := Lib.hid hv
  have HU := Lib.hid hu
  have HS := Lib.hid (divH_start w x y hx hy)
  have hmk := Tryd.mk8
  clear hv hu hx hy
  go_enter Tryd.func35, Tryd.ntmps35
  go_wp2_with fail
  go_loopw [7, 8] (fun r i wr => ∃ m : Nat, i = .int .i64 ((m : Int) - 1) ∧ m ≤ 128 ∧ DivH w wr x y r m) (fun _ i _ => (intOf i + 1).toNat)
  case atStart => exact ⟨128, rfl, by omega, HS.out⟩
  case round =>
    obtain ⟨m, hm, hml, qs, rv, lr, Q, hr⟩ := hrel
    rcases m with _ | k
    · obtain rfl : u8 = .int .i64 (-1) := hm
      go_wp2_with fail
      have hf := hr.fin
      go_ret2
      exact ⟨_, _, _, rfl, hf.1, hf.2.1, hf.2.2.1, hf.2.2.2⟩
    · obtain rfl : u8 = .int .i64 (k : Int) := by rw [hm]; congr 1; omega
      clear hm
      have HR := Lib.hid hr
      have HVr := Lib.hid (HV.out.below hr.bel (Nat.le_refl _))
      have HUr := Lib.hid (HU.out.below hr.bel (Nat.le_refl _))
      have hlr : lr ≤ 256 := by have := hr.lrl; omega
      clear hr
      by_cases hc : y ≤ rv + rv + bt x k
      · have hcm : 0 ≤ cmpI (rv + rv + bt x k) y := by unfold cmpI; split <;> (try split) <;> omega
        have HC := Lib.hid hc
        clear hc
        go_wp2_with (first
          | (go_at_call 40; (with_reducible refine (bit_num (.slice Av 8 cv) x 8 k _ HVa.out (by omega)).mono ?_); rintro e w' ⟨rfl, rfl⟩)
          | (go_at_call 29; (with_reducible refine (plus_num u7 u7 rv rv lr lr wr HR.out.num HR.out.num (by omega) (by omega)).mono ?_); rintro e wa ⟨za, la, rfl, hna, hla, hba⟩; have HNa := Lib.hid hna; have HVa := Lib.hid (HVr.out.below hba (Nat.le_refl _)); have HUa := Lib.hid (HUr.out.below hba (Nat.le_refl _)); have HBa := Lib.hid hba; clear hna hba)
          | (go_at_call 29; (with_reducible refine (plus_num za _ _ _ la 1 _ (HNa.out.below ((Below.refl _ _).alloc (Nat.le_refl _) _) (Nat.le_refl _)) (num_one wa (bt x k) (bt_lt x k)) (by omega) (by omega)).mono ?_); rintro e wb ⟨zb, lb, rfl, hnb, hlb, hbb⟩; have HNb := Lib.hid hnb; have HBb := Lib.hid ((Below.refl wa.heap.size wa).alloc (Nat.le_refl _) _ |>.trans (hbb.mono (by simp))); clear hnb hbb)
          | (go_at_call 23; (with_reducible refine (less_num zb u _ y lb 8 wb HNb.out (HUa.out.below HBb.out (Nat.le_refl _)) (by omega) (by omega)).mono ?_); rintro e w' ⟨rfl, rfl⟩)
          | (go_at_call 31; (with_reducible refine (minus_numO zb u _ y lb 8 wb HNb.out (HUa.out.below HBb.out (Nat.le_refl _)) (by omega) HC.out).mono ?_); rintro e wc ⟨zc, rfl, hnc, hbc⟩; have HNc := Lib.hid hnc; have HBc := Lib.hid hbc; clear hnc hbc))
        have hdb := (HR.out.db.below HBa.out HR.out.db.lt).below (HBb.out) (Nat.lt_of_lt_of_le HR.out.db.lt HBa.out.size) |>.below HBc.out (Nat.lt_of_lt_of_le (Nat.lt_of_lt_of_le HR.out.db.lt HBa.out.size) HBb.out.size)
        have hk8 : k / 16 < qs.length := by rw [HR.out.len]; omega
        have hcell := hdb.cell (k / 16) hk8
        have hfr := hdb.fr (k / 16)
        have HDB := Lib.hid hdb
        clear hdb hk8
        obtain ⟨i, hi⟩ : ∃ i, i = k / 16 := ⟨_, rfl⟩
        obtain ⟨j, hj⟩ : ∃ j, j = k % 16 := ⟨_, rfl⟩
        have e1 : IntKind.i64.wrap ((k : Int) / 16) = (i : Int) := by rw [IntWalk.i64_in _ (by omega), hi]; simp
        have e2 : (k : Int).tmod 16 = (j : Int) := by rw [Int.tmod_eq_emod_of_nonneg (Int.natCast_nonneg _), hj]; simp
        have e3 : IntKind.i64.wrap (j : Int) = (j : Int) := IntWalk.i64_in _ (by omega)
        have hi8 : (i : Int) < 8 := by omega
        have hj16 : (j : Int) < 16 := by omega
        rw [← hi] at hcell hfr
        have HI := Lib.hid (And.intro hi hj)
        clear hi hj
        go_still_tail 13, (by kernel_rfl)
        change wpList _ _ _ _ _ wc.drew
        obtain ⟨W, hW⟩ : ∃ W, W = wc.drew := ⟨_, rfl⟩
        rw [← hW]
        have hcW : W.cell? ⟨w.heap.size, i, none⟩ = some (.int .u64 (dat qs i : Int)) := by rw [hW]; exact hcell
        have hfW : W.frozen? ⟨w.heap.size, i, none⟩ = false := by rw [hW]; exact hfr
        have HW := Lib.hid hW
        clear hW hcell hfr
        go_wp2_with fail
        go_roundw
        case rel => exact ⟨k, rfl, by omega, HI.out.1 ▸ HI.out.2 ▸ HR.out.ge_step (by omega) (HBa.out.trans (HBb.out.mono HBa.out.size)) HBc.out HW.out HNc.out (by omega) HC.out⟩
        case measure => simp [intOf]
      · have hcm : cmpI (rv + rv + bt x k) y < 0 := by unfold cmpI; rw [if_pos (by omega)]; decide
        have HC := Lib.hid (Nat.lt_of_not_le hc)
        clear hc
        go_wp2_with (first
          | (go_at_call 40; (with_reducible refine (bit_num (.slice Av 8 cv) x 8 k _ HVa.out (by omega)).mono ?_); rintro e w' ⟨rfl, rfl⟩)
          | (go_at_call 29; (with_reducible refine (plus_num u7 u7 rv rv lr lr wr HR.out.num HR.out.num (by omega) (by omega)).mono ?_); rintro e wa ⟨za, la, rfl, hna, hla, hba⟩; have HNa := Lib.hid hna; have HVa := Lib.hid (HVr.out.below hba (Nat.le_refl _)); have HUa := Lib.hid (HUr.out.below hba (Nat.le_refl _)); have HBa := Lib.hid hba; clear hna hba)
          | (go_at_call 29; (with_reducible refine (plus_num za _ _ _ la 1 _ (HNa.out.below ((Below.refl _ _).alloc (Nat.le_refl _) _) (Nat.le_refl _)) (num_one wa (bt x k) (bt_lt x k)) (by omega) (by omega)).mono ?_); rintro e wb ⟨zb, lb, rfl, hnb, hlb, hbb⟩; have HNb := Lib.hid hnb; have HBb := Lib.hid ((Below.refl wa.heap.size wa).alloc (Nat.le_refl _) _ |>.trans (hbb.mono (by simp))); clear hnb hbb)
          | (go_at_call 23; (with_reducible refine (less_num zb u _ y lb 8 wb HNb.out (HUa.out.below HBb.out (Nat.le_refl _)) (by omega) (by omega)).mono ?_); rintro e w' ⟨rfl, rfl⟩)
          | (go_at_call 31; (with_reducible refine (minus_numO zb u _ y lb 8 wb HNb.out (HUa.out.below HBb.out (Nat.le_refl _)) (by omega) HC.out).mono ?_); rintro e wc ⟨zc, rfl, hnc, hbc⟩; have HNc := Lib.hid hnc; have HBc := Lib.hid hbc; clear hnc hbc))
        go_roundw
        case rel => exact ⟨k, rfl, by omega, HR.out.lt_step (by omega) (HBa.out.trans (HBb.out.mono HBa.out.size)) HNb.out (by omega) HC.out⟩
        case measure => simp [intOf]
end Go.Proofs.YtmhpfmhpilmfdaaDoor
