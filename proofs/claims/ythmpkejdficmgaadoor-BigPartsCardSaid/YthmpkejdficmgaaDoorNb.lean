/- Proved here: words for the two packages' numbers as they lie in memory (a sign and digits), and what form and norm answer. No condition but lists that lie in memory. -/
import Derived.Test.YthmpkejdficmgaaDoorNa
namespace Go.Proofs.YthmpkejdficmgaaDoor
open Go.RowKit

/-- A sign and a slice as they lie in a block of their own. -/
def Bx (T : TypeId) (w : World) (g : Nat) (n : Bool) (v : Value) : Prop := w.heap[g]? = some (.cells #[.bool n, v] T (0, 0))
section
variable {T : TypeId} {w w' : World} {g : Nat} {n : Bool} {v : Value}
theorem Bx.lt (h : Bx T w g n v) : g < w.heap.size := by
  rcases Nat.lt_or_ge g w.heap.size with hl | hl
  · exact hl
  · unfold Bx at h; rw [Array.getElem?_eq_none hl] at h; cases h
theorem Bx.c0 (h : Bx T w g n v) : w.cell? ⟨g, 0, none⟩ = some (.bool n) := cell_of_row w g 0 _ T (0, 0) h
theorem Bx.c1 (h : Bx T w g n v) : w.cell? ⟨g, 1, none⟩ = some v := cell_of_row w g 1 _ T (0, 0) h
theorem Bx.fr (h : Bx T w g n v) (j : Nat) : w.frozen? ⟨g, j, none⟩ = false := by
  unfold Bx at h
  simp [World.frozen?, h]
theorem Bx.below {B : Nat} (h : Bx T w g n v) (hb : Below B w w') (hg : g < B) : Bx T w' g n v := (hb.block g hg).trans h
theorem Bx.bel (h : Bx T w g n v) (hb : Below w.heap.size w w') : Bx T w' g n v := h.below hb h.lt
theorem Bx.new (T : TypeId) (w : World) (n : Bool) (v : Value) : Bx T (w.alloc (.cells #[.bool n, v] T)) w.heap.size n v := heap_alloc_new w _
theorem Bx.alloc (h : Bx T w g n v) (o : Obj) : Bx T (w.alloc o) g n v := h.below ((Below.refl _ _).alloc (Nat.le_refl _) o) h.lt
theorem Bx.drew (h : Bx T w g n v) : Bx T w.drew g n v := h
theorem Bx.set0 (h : Bx T w g n v) (m : Bool) : Bx T (w.setCell ⟨g, 0, none⟩ (.bool m)) g m v := by
  unfold Bx at h ⊢
  simp [World.setCell, Array.getElem?_modify, h]
theorem Bx.set1 (h : Bx T w g n v) (u : Value) : Bx T (w.setCell ⟨g, 1, none⟩ u) g n u := by
  unfold Bx at h ⊢
  simp [World.setCell, Array.getElem?_modify, h]
theorem Bx.far (h : Bx T w g n v) {p : Addr} (hp : g ≠ p.block) (u : Value) : Bx T (w.setCell p u) g n v := (Below.heap_setCell w p u g hp).trans h
end
theorem bel1 {w w1 : World} {o : Obj} (hb : Below (w.alloc o).heap.size (w.alloc o) w1) : Below w.heap.size w w1 := ((Below.refl _ w).alloc (Nat.le_refl _) o).trans (hb.mono (by simp))
theorem bel_a (w : World) (o : Obj) : Below w.heap.size w (w.alloc o) := (Below.refl _ w).alloc (Nat.le_refl _) o
theorem bel_tr {w w1 w2 : World} (h : Below w.heap.size w w1) (h' : Below w1.heap.size w1 w2) : Below w.heap.size w w2 := h.trans (h'.mono h.size)
theorem bel_set {w w1 : World} {g : Nat} (h : Below w.heap.size w w1) (hg : w.heap.size ≤ g) (j : Nat) (u : Value) : Below w.heap.size w (w1.setCell ⟨g, j, none⟩ u) := h.setCell hg u
theorem Arr.alloc {w : World} {k : IntKind} {v : Value} {xs : List Nat} (h : Arr w k v xs) (o : Obj) : Arr (w.alloc o) k v xs := h.bel (bel_a w o)
theorem Arr.set {w w1 : World} {k : IntKind} {v : Value} {xs : List Nat} (h : Arr w k v xs) (hb : Below w.heap.size w w1) {g : Nat} (hg : w.heap.size ≤ g) (j : Nat) (u : Value) : Arr (w1.setCell ⟨g, j, none⟩ u) k v xs := h.bel (bel_set hb hg j u)

/-- Z reads as the number z, in its one form, with at most l digits in base 4294967296. -/
def BigC (w : World) (Z : Value) (z : Int) (l : Nat) : Prop := ∃ n v xs, Z = .agg #[.bool n, v] ∧ Arr w .u32 v xs ∧ Eg xs ∧ Can n xs ∧ xs.length ≤ l ∧ sv n (dw xs) = z
/-- Z reads as the number z, in any form. -/
def BigA (w : World) (Z : Value) (z : Int) (l : Nat) : Prop := ∃ n v xs, Z = .agg #[.bool n, v] ∧ Arr w .u32 v xs ∧ Eg xs ∧ xs.length ≤ l ∧ sv n (dw xs) = z
/-- Z reads as the document's number z, in its one form, with at most l digits in base 65536. -/
def NumC (w : World) (Z : Value) (z : Int) (l : Nat) : Prop := ∃ n v xs, Z = .agg #[.bool n, v] ∧ Arr w .u64 v xs ∧ Dg xs ∧ Can n xs ∧ xs.length ≤ l ∧ sv n (dv xs) = z
section
variable {w w' : World} {Z : Value} {z : Int} {l l' : Nat}
theorem BigC.any (h : BigC w Z z l) : BigA w Z z l := by
  obtain ⟨n, v, xs, h1, h2, h3, _, h5, h6⟩ := h
  exact ⟨n, v, xs, h1, h2, h3, h5, h6⟩
theorem BigC.bel (h : BigC w Z z l) (hb : Below w.heap.size w w') : BigC w' Z z l := by
  obtain ⟨n, v, xs, h1, h2, h3⟩ := h
  exact ⟨n, v, xs, h1, h2.bel hb, h3⟩
theorem BigA.bel (h : BigA w Z z l) (hb : Below w.heap.size w w') : BigA w' Z z l := by
  obtain ⟨n, v, xs, h1, h2, h3⟩ := h
  exact ⟨n, v, xs, h1, h2.bel hb, h3⟩
theorem NumC.bel (h : NumC w Z z l) (hb : Below w.heap.size w w') : NumC w' Z z l := by
  obtain ⟨n, v, xs, h1, h2, h3⟩ := h
  exact ⟨n, v, xs, h1, h2.bel hb, h3⟩
theorem BigC.le (h : BigC w Z z l) (hl : l ≤ l') : BigC w Z z l' := by
  obtain ⟨n, v, xs, h1, h2, h3, h4, h5, h6⟩ := h
  exact ⟨n, v, xs, h1, h2, h3, h4, Nat.le_trans h5 hl, h6⟩
theorem BigA.le (h : BigA w Z z l) (hl : l ≤ l') : BigA w Z z l' := by
  obtain ⟨n, v, xs, h1, h2, h3, h5, h6⟩ := h
  exact ⟨n, v, xs, h1, h2, h3, Nat.le_trans h5 hl, h6⟩
theorem NumC.le (h : NumC w Z z l) (hl : l ≤ l') : NumC w Z z l' := by
  obtain ⟨n, v, xs, h1, h2, h3, h4, h5, h6⟩ := h
  exact ⟨n, v, xs, h1, h2, h3, h4, Nat.le_trans h5 hl, h6⟩
theorem BigC.drew (h : BigC w Z z l) : BigC w.drew Z z l := h
theorem BigA.drew (h : BigA w Z z l) : BigA w.drew Z z l := h
theorem NumC.drew (h : NumC w Z z l) : NumC w.drew Z z l := h
end
theorem ret_bx24 {fn : Func} {p : Tmp} {tmps : Array Value} {W : World} {g : Nat} {n : Bool} {v : Value} (h : fn.results = #[.cell p 24]) (hp : tmps.getD p undef = .pointer (some ⟨g, 0, none⟩)) (hb : Bx 24 W g n v) :
    (results fn tmps).run Tryd.prog W = .ok (.agg #[.bool n, v]) W := by
  have hc0 := hb.c0
  have hc1 := hb.c1
  rw [Array.getD_eq_getD_getElem?] at hp
  simp [results, h, hp, go_sem, hc0, hc1]
theorem ret_bx28 {fn : Func} {p : Tmp} {tmps : Array Value} {W : World} {g : Nat} {n : Bool} {v : Value} (h : fn.results = #[.cell p 28]) (hp : tmps.getD p undef = .pointer (some ⟨g, 0, none⟩)) (hb : Bx 28 W g n v) :
    (results fn tmps).run Tryd.prog W = .ok (.agg #[.bool n, v]) W := by
  have hc0 := hb.c0
  have hc1 := hb.c1
  rw [Array.getD_eq_getD_getElem?] at hp
  simp [results, h, hp, go_sem, hc0, hc1]
def BigE (z : Int) (l : Nat) (w : World) (e : Ending) (w' : World) : Prop := ∃ Z, e = .returned Z ∧ BigC w' Z z l ∧ Below w.heap.size w w'
def NumE (z : Int) (l : Nat) (w : World) (e : Ending) (w' : World) : Prop := ∃ Z, e = .returned Z ∧ NumC w' Z z l ∧ Below w.heap.size w w'
theorem bigE_of {w W : World} {n : Bool} {A : Option Addr} {m c : Nat} {xs : List Nat} (h : Arr w .u32 (.slice A m c) xs) (hx : Eg xs) {k : Nat} (ht : Tl xs k) (hk : k ≠ 0) (hb : Below w.heap.size w W) :
    BigE (sv n (dw xs)) xs.length w (.returned (.agg #[.bool n, .slice A k c])) W :=
  ⟨_, rfl, ⟨n, _, _, rfl, (h.take ht.1).bel hb, eg_take hx k, ⟨ht.top, fun h0 => by
    have := congrArg List.length h0
    rw [List.length_take_of_le ht.1] at this
    exact absurd this hk⟩, List.length_take_le' k xs, by rw [ht.dw]⟩, hb⟩
theorem bigE_zero {w W : World} {n : Bool} {xs : List Nat} (ht : Tl xs 0) (hb : Below w.heap.size w W) :
    BigE (sv n (dw xs)) xs.length w (.returned (.agg #[.bool false, .slice none 0 0])) W :=
  ⟨_, rfl, ⟨false, _, [], rfl, Arr.nil _ _, eg_nil, ⟨top_nil, fun _ => rfl⟩, Nat.zero_le _, by
    have := ht.dw
    rw [← this]
    cases n <;> rfl⟩, hb⟩
theorem numE_of {w W : World} {n b : Bool} {A : Option Addr} {m c : Nat} {xs : List Nat} (h : Arr w .u64 (.slice A m c) xs) (hx : Dg xs) {k : Nat} (ht : Tl xs k) (hk : k = 0 → b = false) (hk2 : k ≠ 0 → b = n) (hb : Below w.heap.size w W) :
    NumE (sv n (dv xs)) xs.length w (.returned (.agg #[.bool b, .slice A k c])) W :=
  ⟨_, rfl, ⟨b, _, _, rfl, (h.take ht.1).bel hb, dg_take hx k, ⟨ht.top, fun h0 => by
    have := congrArg List.length h0
    rw [List.length_take_of_le ht.1] at this
    exact hk this⟩, List.length_take_le' k xs, by
    rw [ht.dv]
    rcases Nat.eq_zero_or_pos k with h0 | h0
    · subst h0
      have := ht.dv
      simp only [List.take_zero, dv] at this
      rw [← this, hk rfl]
      cases n <;> rfl
    · rw [hk2 (by omega)]⟩, hb⟩
theorem bx_start24 (w : World) : Bx 24 (w.alloc (.cells #[.bool false, .slice none 0 0] 24)) w.heap.size false (.slice none 0 0) := Bx.new 24 w _ _
theorem bx_start28 (w : World) : Bx 28 (w.alloc (.cells #[.bool false, .slice none 0 0] 28)) w.heap.size false (.slice none 0 0) := Bx.new 28 w _ _
theorem bel_set2 {w w1 : World} (h : Below w.heap.size w w1) (x y : Value) : Below w.heap.size w ((w1.setCell ⟨w.heap.size, 0, none⟩ x).setCell ⟨w.heap.size, 1, none⟩ y) := (h.setCell (Nat.le_refl _) x).setCell (Nat.le_refl _) y
set_option maxHeartbeats 400000 in
theorem form_any (n : Bool) (v : Value) (xs : List Nat) (w : World) (h : Arr w .u32 v xs) (hx : Eg xs) : Calls Tryd.prog 38 #[.bool n, v] w (BigE (sv n (dw xs)) xs.length w) := by
  obtain ⟨A, c, rfl⟩ := h.slice
  obtain ⟨m, hM⟩ : ∃ m, m = xs.length := ⟨_, rfl⟩
  rw [← hM] at h
  have H := Lib.hid h
  have HX := Lib.hid hx
  have HS := Lib.hid (bx_start24 w)
  have HB := Lib.hid (bel_a w (.cells #[.bool false, .slice none 0 0] 24))
  have HA := Lib.hid (H.out.alloc (.cells #[.bool false, .slice none 0 0] 24))
  have HM := Lib.hid hM
  have hcm := H.out.cap.2.2
  unfold maxLen at hcm
  have hmc := H.out.cap.2.1
  rw [← hM]
  clear h hx hM
  go_enter Tryd.func38, Tryd.ntmps38
  go_wp2_with (go_at_call 37; (with_reducible refine (trim32_any A m c xs _ HA.out).mono ?_); rintro e w1 ⟨k, rfl, hk, rfl⟩; have HK := Lib.hid hk; have hkm := hk.1; rw [← HM.out] at hkm; clear hk)
  · have hk0 : k = 0 := by have h : ((k : Int) == 0) = true := by assumption
                           simp at h; omega
    subst hk0
    have hE := bigE_zero (n := n) HK.out HB.out
    rw [← HM.out] at hE
    exact bodyPost_ret (ret_bx24 rfl rfl (Bx.new 24 w _ _)) rfl hE
  · have hk0 : k ≠ 0 := by have h : ((k : Int) == 0) = false := by assumption
                           simp at h; omega
    have hE := bigE_of (n := n) H.out HX.out HK.out hk0 (bel_a w (.cells #[.bool n, .slice A k c] 24))
    rw [← HM.out] at hE
    exact bodyPost_ret (ret_bx24 rfl rfl (Bx.new 24 w _ _)) rfl hE
set_option maxHeartbeats 400000 in
theorem norm_any (n : Bool) (v : Value) (xs : List Nat) (w : World) (h : Arr w .u64 v xs) (hx : Dg xs) : Calls Tryd.prog 36 #[.bool n, v] w (NumE (sv n (dv xs)) xs.length w) := by
  obtain ⟨A, c, rfl⟩ := h.slice
  obtain ⟨m, hM⟩ : ∃ m, m = xs.length := ⟨_, rfl⟩
  rw [← hM] at h
  have H := Lib.hid h
  have HX := Lib.hid hx
  have HA := Lib.hid (H.out.alloc (.cells #[.bool false, .slice none 0 0] 28))
  have HM := Lib.hid hM
  have hcm := H.out.cap.2.2
  unfold maxLen at hcm
  have hmc := H.out.cap.2.1
  rw [← hM]
  clear h hx hM
  cases n
  all_goals
    go_enter Tryd.func36, Tryd.ntmps36
    go_wp2_with (go_at_call 61; (with_reducible refine (trim16_any A m c xs _ HA.out).mono ?_); rintro e w1 ⟨k, rfl, hk, rfl⟩; have HK := Lib.hid hk; have hkm := hk.1; rw [← HM.out] at hkm; clear hk)
  · have hE := numE_of (n := false) (b := false) H.out HX.out HK.out (fun _ => rfl) (fun _ => rfl) (bel_a w (.cells #[.bool false, .slice A k c] 28))
    rw [← HM.out] at hE
    exact bodyPost_ret (ret_bx28 rfl rfl (Bx.new 28 w _ _)) rfl hE
  · by_cases hk : k = 0
    · have hd : decide (0 < k) = false := by simp; omega
      rw [hd]
      have hE := numE_of (n := true) (b := false) H.out HX.out HK.out (fun _ => rfl) (fun h => absurd hk h) (bel_a w (.cells #[.bool false, .slice A k c] 28))
      rw [← HM.out] at hE
      exact bodyPost_ret (ret_bx28 rfl rfl (Bx.new 28 w _ _)) rfl hE
    · have hd : decide (0 < k) = true := by simp; omega
      rw [hd]
      have hE := numE_of (n := true) (b := true) H.out HX.out HK.out (fun h => absurd h hk) (fun _ => rfl) (bel_a w (.cells #[.bool true, .slice A k c] 28))
      rw [← HM.out] at hE
      exact bodyPost_ret (ret_bx28 rfl rfl (Bx.new 28 w _ _)) rfl hE
end Go.Proofs.YthmpkejdficmgaaDoor
