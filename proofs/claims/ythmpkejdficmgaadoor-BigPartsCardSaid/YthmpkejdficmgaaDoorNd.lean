/- Proved here: what package big's plus answers and leaves in memory. Condition: lists of digits that lie in memory. -/
import Derived.Test.YthmpkejdficmgaaDoorNe
import Derived.Laws.NewBlocks
import Derived.Laws.MakeOwn
namespace Go.Proofs.YthmpkejdficmgaaDoor
open Go.RowKit

/-- The block g holds just the digits xs. -/
def DB (k : IntKind) (T : TypeId) (w : World) (g : Nat) (xs : List Nat) : Prop := w.heap[g]? = some (.cells (cs k xs).toArray T (0, 0))
section
variable {k : IntKind} {T : TypeId} {w w' : World} {g : Nat} {xs : List Nat}
theorem DB.lt (h : DB k T w g xs) : g < w.heap.size := by
  rcases Nat.lt_or_ge g w.heap.size with hl | hl
  · exact hl
  · unfold DB at h; rw [Array.getElem?_eq_none hl] at h; cases h
theorem DB.cell (h : DB k T w g xs) (i : Nat) (hi : i < xs.length) : w.cell? ⟨g, i, none⟩ = some (.int k (dat xs i : Int)) := by
  rw [cell_of_row w g i _ T (0, 0) h, ← cs_get k xs i hi]
  simp
theorem DB.fr (h : DB k T w g xs) (j : Nat) : w.frozen? ⟨g, j, none⟩ = false := by
  unfold DB at h
  simp [World.frozen?, h]
theorem DB.below {B : Nat} (h : DB k T w g xs) (hb : Below B w w') (hg : g < B) : DB k T w' g xs := (hb.block g hg).trans h
theorem DB.bel (h : DB k T w g xs) (hb : Below w.heap.size w w') : DB k T w' g xs := h.below hb h.lt
theorem DB.set_ (h : DB k T w g xs) (i d : Nat) : DB k T (w.setCell ⟨g, i, none⟩ (.int k (d : Int))) g (xs.set i d) := by
  unfold DB at h ⊢
  simp [World.setCell, Array.getElem?_modify, h, cs, List.map_set]
theorem DB.arr (h : DB k T w g xs) (hl : xs.length ≤ 1000000) : Arr w k (.slice (some ⟨g, 0, none⟩) xs.length xs.length) xs :=
  ⟨_, xs.length, rfl, Nat.le_refl _, by unfold maxLen; omega, (fun h => by cases h), fun ad ha => by
    injection ha with ha
    subst ha
    refine ⟨h.lt, fun j hj => ?_⟩
    have e : Addr.add ⟨g, 0, none⟩ j = ⟨g, j, none⟩ := by unfold Addr.add; split <;> simp_all
    rw [e]
    exact h.cell j hj⟩
theorem DB.new (k : IntKind) (T : TypeId) (w : World) (xs : List Nat) : DB k T (w.alloc (.cells (cs k xs).toArray T)) w.heap.size xs := heap_alloc_new w _
end
theorem made_cs (k : IntKind) (n : Nat) : madeCells #[.int k 0] (n * 1) = (cs k (List.replicate n 0)).toArray := by
  rw [Nat.mul_one]
  apply Array.ext'
  rw [toList_madeCells_one]
  simp [cs]
theorem mk32 (n : Nat) (hn : n ≤ 1000000) (w : World) (D : Int) (hD : D = (n : Int)) : (Instr.makeSlice 22 (.int .i64 D) (.int .i64 D)).run Tryd.prog w = .ok (.slice (some ⟨w.heap.size, 0, none⟩) n n) (w.alloc (.cells (cs .u32 (List.replicate n 0)).toArray 61)) := by
  subst hD
  obtain ⟨i0, hi0, hz0, hz1, hz2⟩ := info_parts Tryd.info61
  have := run_makeSlice (P := Tryd.prog) w 22 61 i0 (.int .u32 0) Tryd.underlying22 hi0 hz0 .i64 .i64 (n : Int) (n : Int) (by omega) (Int.le_refl _) (by rw [hz1]; omega) (by rw [hz2]; omega) (by omega)
  rw [this, hz1, Int.toNat_natCast, show (Value.int .u32 0).cells = #[.int .u32 0] from rfl, made_cs]
theorem mk16 (n : Nat) (hn : n ≤ 1000000) (w : World) (D : Int) (hD : D = (n : Int)) : (Instr.makeSlice 26 (.int .i64 D) (.int .i64 D)).run Tryd.prog w = .ok (.slice (some ⟨w.heap.size, 0, none⟩) n n) (w.alloc (.cells (cs .u64 (List.replicate n 0)).toArray 60)) := by
  subst hD
  obtain ⟨i0, hi0, hz0, hz1, hz2⟩ := info_parts Tryd.info60
  have := run_makeSlice (P := Tryd.prog) w 26 60 i0 (.int .u64 0) Tryd.underlying26 hi0 hz0 .i64 .i64 (n : Int) (n : Int) (by omega) (Int.le_refl _) (by rw [hz1]; omega) (by rw [hz2]; omega) (by omega)
  rw [this, hz1, Int.toNat_natCast, show (Value.int .u64 0).cells = #[.int .u64 0] from rfl, made_cs]
theorem eg_sLo (x y c : Nat) : sLo x y c < 4294967296 := Nat.mod_lt _ (by decide)
theorem eg_dLo (x y c : Nat) : dLo x y c < 4294967296 := Nat.mod_lt _ (by decide)
theorem zero_set {os : List Nat} {k d : Nat} (h : ∀ j, k ≤ j → dat os j = 0) : ∀ j, k + 1 ≤ j → dat (os.set k d) j = 0 := fun j hj => by
  have := h j (by omega)
  simp only [dat, List.getD_eq_getElem?_getD] at this ⊢
  rw [List.getElem?_set_ne (by omega)]
  exact this
theorem set_zero_val {os : List Nat} {k d : Nat} (hk : k < os.length) (h : ∀ j, k ≤ j → dat os j = 0) : dw (os.set k d) = dw os + 4294967296 ^ k * d := by
  have h1 := dw_set (l := os) d hk
  have h2 : os.getD k 0 = 0 := h k (Nat.le_refl _)
  rw [h2] at h1
  omega
theorem dw_zeros_ (n j : Nat) : dat (List.replicate n 0) j = 0 := by
  simp only [dat, List.getD_eq_getElem?_getD, List.getElem?_replicate]
  split <;> simp
/-- What a function on package big's digits answers: new digits of the value x, at most l. -/
def DwE (x l : Nat) (w : World) (e : Ending) (w' : World) : Prop := ∃ z zs, e = .returned z ∧ Arr w' .u32 z zs ∧ Eg zs ∧ dw zs = x ∧ zs.length ≤ l ∧ Below w.heap.size w w'
structure PlusW (w wr : World) (xs ys os : List Nat) (L k q : Nat) : Prop where
  db : DB .u32 61 wr w.heap.size os
  eg : Eg os
  len : os.length = L
  zero : ∀ j, k ≤ j → dat os j = 0
  val : dw os + q * 4294967296 ^ k = dw (xs.take k) + dw (ys.take k)
  ql : q ≤ 1
  qk : k = L → q = 0
  bel : Below w.heap.size w wr
theorem PlusW.start (w : World) (xs ys : List Nat) (L : Nat) : PlusW w (w.alloc (.cells (cs .u32 (List.replicate L 0)).toArray 61)) xs ys (List.replicate L 0) L 0 0 :=
  ⟨DB.new _ _ w _, eg_zeros L, by simp, fun j _ => dw_zeros_ L j, by rw [dw_zeros]; simp [dw], by omega, fun _ => rfl, bel_a w _⟩
theorem PlusW.step {w wr : World} {xs ys os : List Nat} {L k q : Nat} (h : PlusW w wr xs ys os L k q) (hx : Eg xs) (hy : Eg ys) (hL : L = max xs.length ys.length + 1) (hk : k < L) :
    PlusW w (wr.setCell ⟨w.heap.size, k, none⟩ (.int .u32 (sLo (dat xs k) (dat ys k) q : Int))) xs ys (os.set k (sLo (dat xs k) (dat ys k) q)) L (k + 1) (sCa (dat xs k) (dat ys k) q) := by
  have hX : dat xs k < 4294967296 := hx k
  have hY : dat ys k < 4294967296 := hy k
  have hq := h.ql
  refine ⟨h.db.set_ k _, eg_set h.eg k (eg_sLo _ _ _), by simp [h.len], zero_set h.zero, ?_, by unfold sCa; omega, fun he => ?_, bel_set h.bel (Nat.le_refl _) _ _⟩
  · rw [set_zero_val (by rw [h.len]; exact hk) h.zero, dw_take_succ, dw_take_succ, Nat.pow_succ]
    have hv := h.val
    have hd := Nat.div_add_mod (dat xs k + dat ys k + q) 4294967296
    unfold sLo sCa
    change _ = _ + 4294967296 ^ k * dat xs k + (_ + 4294967296 ^ k * dat ys k)
    generalize (dat xs k + dat ys k + q) / 4294967296 = a at *
    generalize (dat xs k + dat ys k + q) % 4294967296 = b at *
    generalize dat xs k = x at *
    generalize dat ys k = y at *
    generalize 4294967296 ^ k = P at *
    grind
  · have e1 : dat xs k = 0 := dat_beyond (by omega)
    have e2 : dat ys k = 0 := dat_beyond (by omega)
    rw [e1, e2]
    unfold sCa
    omega
theorem PlusW.fin {w wr : World} {xs ys os : List Nat} {L q : Nat} (h : PlusW w wr xs ys os L L q) (hL : L = max xs.length ys.length + 1) (hl : L ≤ 1000000) :
    DwE (dw xs + dw ys) L w (.returned (.slice (some ⟨w.heap.size, 0, none⟩) L L)) wr := by
  have hv := h.val
  rw [h.qk rfl, dw_take_all (by omega), dw_take_all (by omega)] at hv
  have ha := h.db.arr (by rw [h.len]; exact hl)
  rw [h.len] at ha
  exact ⟨_, os, rfl, ha, h.eg, by omega, Nat.le_of_eq h.len, h.bel⟩
def PlusH (w wr : World) (xs ys : List Nat) (L k q : Nat) : Prop := ∃ os, PlusW w wr xs ys os L k q
set_option maxHeartbeats 2000000 in
set_option maxRecDepth 100000 in
theorem plus32_any (v u : Value) (xs ys : List Nat) (w : World) (hv : Arr w .u32 v xs) (hu : Arr w .u32 u ys) (hx : Eg xs) (hy : Eg ys) (hxl : xs.length ≤ 100000) (hyl : ys.length ≤ 100000) :
    Calls Tryd.prog 39 #[v, u] w (DwE (dw xs + dw ys) (max xs.length ys.length + 1) w) := by
  obtain ⟨Av, cv, rfl⟩ := hv.slice
  obtain ⟨Au, cu, rfl⟩ := hu.slice
  obtain ⟨m, hm⟩ : ∃ m, m = xs.length := ⟨_, rfl⟩
  obtain ⟨n, hn⟩ : ∃ n, n = ys.length := ⟨_, rfl⟩
  rw [← hm] at hv hxl
  rw [← hn] at hu hyl
  have HV := Lib.hid hv
  have HU := Lib.hid hu
  have HX := Lib.hid hx
  have HY := Lib.hid hy
  obtain ⟨L, hL⟩ : ∃ L, L = max m n + 1 := ⟨_, rfl⟩
  have hcase : (n < m ∧ L = m + 1) ∨ (m < n ∧ L = n + 1) ∨ (n = m ∧ L = m + 1) := by omega
  have hLl : L ≤ 100001 := by omega
  have HS := Lib.hid (PlusW.start w xs ys L)
  rw [← hm, ← hn, ← hL]
  rw [hm, hn] at hL
  have HL := Lib.hid hL
  clear hL hm hn hv hu hx hy
  rcases hcase with ⟨hc, hL⟩ | ⟨hc, hL⟩ | ⟨rfl, hL⟩
  · have hmk := fun w => mk32 L (by omega) w ((m : Int) + 1) (by omega)
    have HL2 := Lib.hid hL
    clear hL
    go_enter Tryd.func39, Tryd.ntmps39
    go_wp2_with fail
    go_loopw [6, 17] (fun c i wr => ∃ k q : Nat, i = .int .i64 (k : Int) ∧ c = .int .u32 (q : Int) ∧ k ≤ L ∧ PlusH w wr xs ys L k q) (fun _ i _ => L - (intOf i).toNat)
    case atStart => exact ⟨0, 0, rfl, rfl, Nat.zero_le _, _, HS.out⟩
    case round =>
      obtain ⟨k, q, rfl, rfl, hk, os, hr⟩ := hrel
      by_cases hgo : k < L
      · have HVr := Lib.hid (HV.out.bel hr.bel)
        have HUr := Lib.hid (HU.out.bel hr.bel)
        have hql := hr.ql
        have hXk : dat xs k < 4294967296 := HX.out k
        have hYk : dat ys k < 4294967296 := HY.out k
        have hfr := hr.db.fr k
        have hcell := hr.db.cell k (by rw [hr.len]; exact hgo)
        have HR := Lib.hid (hr.step HX.out HY.out HL.out hgo)
        clear hr
        go_wp2_with (first | (go_at_call 49; (with_reducible refine (at32_any (.slice Av m cv) xs k wr HVr.out).mono ?_); rintro e w' ⟨rfl, rfl⟩) | (go_at_call 49; (with_reducible refine (at32_any (.slice Au n cu) ys k wr HUr.out).mono ?_); rintro e w' ⟨rfl, rfl⟩) | (go_at_call 62; (with_reducible refine (add32_any (dat xs k) (dat ys k) q wr hXk hYk hql).mono ?_); rintro e w' ⟨rfl, rfl⟩))
        go_roundw
        case rel => exact ⟨k + 1, _, by simp, rfl, by omega, _, HR.out⟩
        case measure => simp [intOf]; omega
      · obtain rfl : k = L := by omega
        have HF := Lib.hid (hr.fin HL.out (by omega))
        clear hr
        go_wp2_with fail
        go_ret
        exact HF.out
  · have hmk := fun w => mk32 L (by omega) w ((n : Int) + 1) (by omega)
    have HL2 := Lib.hid hL
    clear hL
    go_enter Tryd.func39, Tryd.ntmps39
    go_wp2_with fail
    go_loopw [6, 17] (fun c i wr => ∃ k q : Nat, i = .int .i64 (k : Int) ∧ c = .int .u32 (q : Int) ∧ k ≤ L ∧ PlusH w wr xs ys L k q) (fun _ i _ => L - (intOf i).toNat)
    case atStart => exact ⟨0, 0, rfl, rfl, Nat.zero_le _, _, HS.out⟩
    case round =>
      obtain ⟨k, q, rfl, rfl, hk, os, hr⟩ := hrel
      by_cases hgo : k < L
      · have HVr := Lib.hid (HV.out.bel hr.bel)
        have HUr := Lib.hid (HU.out.bel hr.bel)
        have hql := hr.ql
        have hXk : dat xs k < 4294967296 := HX.out k
        have hYk : dat ys k < 4294967296 := HY.out k
        have hfr := hr.db.fr k
        have hcell := hr.db.cell k (by rw [hr.len]; exact hgo)
        have HR := Lib.hid (hr.step HX.out HY.out HL.out hgo)
        clear hr
        go_wp2_with (first | (go_at_call 49; (with_reducible refine (at32_any (.slice Av m cv) xs k wr HVr.out).mono ?_); rintro e w' ⟨rfl, rfl⟩) | (go_at_call 49; (with_reducible refine (at32_any (.slice Au n cu) ys k wr HUr.out).mono ?_); rintro e w' ⟨rfl, rfl⟩) | (go_at_call 62; (with_reducible refine (add32_any (dat xs k) (dat ys k) q wr hXk hYk hql).mono ?_); rintro e w' ⟨rfl, rfl⟩))
        go_roundw
        case rel => exact ⟨k + 1, _, by simp, rfl, by omega, _, HR.out⟩
        case measure => simp [intOf]; omega
      · obtain rfl : k = L := by omega
        have HF := Lib.hid (hr.fin HL.out (by omega))
        clear hr
        go_wp2_with fail
        go_ret
        exact HF.out
  · have hmk := fun w => mk32 L (by omega) w ((n : Int) + 1) (by omega)
    have HL2 := Lib.hid hL
    clear hL
    go_enter Tryd.func39, Tryd.ntmps39
    go_wp2_with fail
    go_loopw [6, 17] (fun c i wr => ∃ k q : Nat, i = .int .i64 (k : Int) ∧ c = .int .u32 (q : Int) ∧ k ≤ L ∧ PlusH w wr xs ys L k q) (fun _ i _ => L - (intOf i).toNat)
    case atStart => exact ⟨0, 0, rfl, rfl, Nat.zero_le _, _, HS.out⟩
    case round =>
      obtain ⟨k, q, rfl, rfl, hk, os, hr⟩ := hrel
      by_cases hgo : k < L
      · have HVr := Lib.hid (HV.out.bel hr.bel)
        have HUr := Lib.hid (HU.out.bel hr.bel)
        have hql := hr.ql
        have hXk : dat xs k < 4294967296 := HX.out k
        have hYk : dat ys k < 4294967296 := HY.out k
        have hfr := hr.db.fr k
        have hcell := hr.db.cell k (by rw [hr.len]; exact hgo)
        have HR := Lib.hid (hr.step HX.out HY.out HL.out hgo)
        clear hr
        go_wp2_with (first | (go_at_call 49; (with_reducible refine (at32_any (.slice Av n cv) xs k wr HVr.out).mono ?_); rintro e w' ⟨rfl, rfl⟩) | (go_at_call 49; (with_reducible refine (at32_any (.slice Au n cu) ys k wr HUr.out).mono ?_); rintro e w' ⟨rfl, rfl⟩) | (go_at_call 62; (with_reducible refine (add32_any (dat xs k) (dat ys k) q wr hXk hYk hql).mono ?_); rintro e w' ⟨rfl, rfl⟩))
        go_roundw
        case rel => exact ⟨k + 1, _, by simp, rfl, by omega, _, HR.out⟩
        case measure => simp [intOf]; omega
      · obtain rfl : k = L := by omega
        have HF := Lib.hid (hr.fin HL.out (by omega))
        clear hr
        go_wp2_with fail
        go_ret
        exact HF.out
end Go.Proofs.YthmpkejdficmgaaDoor
