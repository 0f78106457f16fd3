/- Proved here: what the document's numbers of any size answer and leave in memory (ported). Conditions stand at each. -/
import Derived.Test.YtpobhegllhhdgaaGreatGA
import Derived.Test.YtpobhegllhhdgaaGreatRows
import Derived.Test.YtpobhegllhhdgaaGreatSh
import Derived.WalkKit
import Derived.WalkSpells
import Derived.WalkLawsBesides
import Derived.Deep.DeepFit
import Derived.Deep.QuietTactic
import Derived.BigQuiet
import Derived.Lib.Hide
import Derived.Laws.OwnMore
import Derived.Laws.BitsAllLaws
import Derived.Laws.NewBlocks
import Derived.Laws.MakeOwn
import Derived.Deep.RegionHeld3
import Derived.ChangeAlike
import Derived.RegionTactic
import Derived.StillTailTactics
namespace Go.Proofs.YtpobhegllhhdgaaGreat
open Go.RowKit

theorem ret_int {k : IntKind} {a b : Int} (h : a = b) : Ending.returned (.int k a) = .returned (.int k b) := by rw [h]
theorem block_of_add (a : Addr) (n : Nat) : (a.add n).block = a.block := by unfold Addr.add; split <;> rfl
/-- Digits as they lie in cells. -/
def cs (k : IntKind) (xs : List Nat) : List Value := xs.map fun (d : Nat) => Value.int k (d : Int)
theorem cs_len (k : IntKind) (xs : List Nat) : (cs k xs).length = xs.length := by simp [cs]
theorem cs_snoc (k : IntKind) (xs : List Nat) (d : Nat) : cs k (xs ++ [d]) = cs k xs ++ [Value.int k (d : Int)] := by simp [cs]
theorem cs_get (k : IntKind) (xs : List Nat) (j : Nat) (h : j < xs.length) : (cs k xs)[j]? = some (.int k (dat xs j : Int)) := by
  simp [cs, dat, h]
/-- The slice v reads as the digits xs. -/
def Arr (w : World) (k : IntKind) (v : Value) (xs : List Nat) : Prop :=
  ∃ A c, v = .slice A xs.length c ∧ xs.length ≤ c ∧ c ≤ maxLen ∧ (A = none → c = 0) ∧
    ∀ ad, A = some ad → (0 < c → ad.block < w.heap.size) ∧ ∀ j, j < xs.length → w.cell? (ad.add j) = some (.int k (dat xs j : Int))
section
variable {w w' : World} {k : IntKind} {v : Value} {xs : List Nat} {B : Nat}
theorem Arr.nil (w : World) (k : IntKind) : Arr w k (.slice none 0 0) [] := ⟨none, 0, rfl, Nat.le_refl _, Nat.zero_le _, fun _ => rfl, fun _ h => by cases h⟩
theorem Arr.keep (h : Arr w k v xs) (hc : ∀ p : Addr, p.block < w.heap.size → w'.cell? p = w.cell? p) (hs : w.heap.size ≤ w'.heap.size) : Arr w' k v xs := by
  obtain ⟨A, c, h1, h2, h3, h4, h5⟩ := h
  refine ⟨A, c, h1, h2, h3, h4, fun ad ha => ⟨fun h0 => Nat.lt_of_lt_of_le ((h5 ad ha).1 h0) hs, fun j hj => ?_⟩⟩
  rw [hc _ (by rw [block_of_add]; exact (h5 ad ha).1 (by omega))]
  exact (h5 ad ha).2 j hj
theorem Arr.below (h : Arr w k v xs) (hb : Below B w w') (hB : w.heap.size ≤ B) : Arr w' k v xs :=
  h.keep (fun p hp => hb.cell (by omega)) hb.size
theorem Arr.bel (h : Arr w k v xs) (hb : Below w.heap.size w w') : Arr w' k v xs := h.below hb (Nat.le_refl _)
theorem Arr.drew (h : Arr w k v xs) : Arr w.drew k v xs := h
theorem Arr.drewN (h : Arr w k v xs) (n : Nat) : Arr (w.drewN n) k v xs := h
theorem Arr.slice (h : Arr w k v xs) : ∃ A c, v = .slice A xs.length c := by
  obtain ⟨A, c, h, _⟩ := h
  exact ⟨A, c, h⟩
theorem Arr.get {A : Option Addr} {m c : Nat} (h : Arr w k (.slice A m c) xs) (i : Nat) (hi : i < xs.length) : ∃ ad, A = some ad ∧ ad.block < w.heap.size ∧ w.cell? (ad.add i) = some (.int k (dat xs i : Int)) := by
  obtain ⟨A', c', h1, h2, h3, h4, h5⟩ := h
  injection h1 with e1 e2 e3
  subst e1 e3
  rcases A with _ | ad
  · have := h4 rfl
    omega
  · exact ⟨ad, rfl, (h5 ad rfl).1 (by omega), (h5 ad rfl).2 i hi⟩
theorem Arr.cap {A : Option Addr} {m c : Nat} (h : Arr w k (.slice A m c) xs) : m = xs.length ∧ m ≤ c ∧ c ≤ maxLen := by
  obtain ⟨A', c', h1, h2, h3, h4, h5⟩ := h
  injection h1 with e1 e2 e3
  subst e1 e2 e3
  exact ⟨rfl, h2, h3⟩
theorem Arr.take {A : Option Addr} {m c n : Nat} (h : Arr w k (.slice A m c) xs) (hn : n ≤ xs.length) : Arr w k (.slice A n c) (xs.take n) := by
  obtain ⟨A', c', h1, h2, h3, h4, h5⟩ := h
  injection h1 with e1 e2 e3
  subst e1 e3
  have hl : (xs.take n).length = n := List.length_take_of_le hn
  refine ⟨A, c, by rw [hl], by omega, h3, h4, fun ad ha => ⟨(h5 ad ha).1, fun j hj => ?_⟩⟩
  rw [dat_take (by omega)]
  exact (h5 ad ha).2 j (by omega)
theorem Arr.of_own {b n : Nat} {e : TypeId} (h : w.ownsRow b e 1 v n (cs k xs)) : Arr w k v xs := by
  have hl := h.1
  rw [cs_len, Nat.mul_one] at hl
  rcases h.2 with ⟨h0, h1⟩ | ⟨g, cap, cur, hv, hg, hh, hc, hm, hcur, ht⟩
  · have : xs = [] := List.eq_nil_of_length_eq_zero (by omega)
    subst this
    rw [h0]
    exact Arr.nil w k
  · refine ⟨_, cap, by rw [hv, hl], by omega, hm, (fun h => by cases h), fun ad ha => ?_⟩
    injection ha with ha
    subst ha
    refine ⟨fun _ => ?_, fun j hj => ?_⟩
    · rcases Nat.lt_or_ge g w.heap.size with hlt | hge
      · exact hlt
      · rw [Array.getElem?_eq_none hge] at hh; cases hh
    · have e : Addr.add ⟨g, 0, none⟩ j = ⟨g, j, none⟩ := by unfold Addr.add; split <;> simp_all
      rw [e, cell_of_row w g j cur _ (0, 0) hh, ← cs_get k xs j hj, ← ht, List.getElem?_take, if_pos (by omega)]
      simp
end
theorem tl_zero {xs : List Nat} {n : Nat} (h : n ≤ xs.length) (h1 : ∀ j, n ≤ j → dat xs j = 0) (h2 : n = 0 ∨ dat xs (n - 1) ≠ 0) : Tl xs n := ⟨h, h1, h2⟩
/-- What holds at each round's head of trim. -/
def TrR (xs : List Nat) (m : Nat) (i : Value) : Prop := ∃ n : Nat, i = .int .i64 (n : Int) ∧ n ≤ m ∧ ∀ j, n ≤ j → dat xs j = 0
def TrE (xs : List Nat) (A : Option Addr) (c : Nat) (w : World) (e : Ending) (w' : World) : Prop := ∃ n, e = .returned (.slice A n c) ∧ Tl xs n ∧ w = w'
theorem mono_zero {xs : List Nat} {n : Nat} (h : ∀ j, n + 1 ≤ j → dat xs j = 0) (h0 : dat xs n = 0) : ∀ j, n ≤ j → dat xs j = 0 := fun j hj => by
  rcases Nat.lt_or_ge n j with h1 | h1
  · exact h j h1
  · obtain rfl : j = n := by omega
    exact h0
set_option maxHeartbeats 400000 in
theorem trim32_any (A : Option Addr) (m c : Nat) (xs : List Nat) (w : World) (h : Arr w .u32 (.slice A m c) xs) : Calls Tryz.prog 92 #[.slice A m c] w (TrE xs A c w) := by
  obtain ⟨hm, hmc, hcm⟩ := h.cap
  unfold maxLen at hcm
  have H := Lib.hid h
  have HM := Lib.hid hm
  clear h hm
  go_enter Tryz.func92, Tryz.ntmps92
  go_wp2_with fail
  go_loop [3] (fun i => TrR xs m i) (fun i => (intOf i).toNat)
  case atStart => exact ⟨m, rfl, Nat.le_refl _, fun j hj => dat_beyond (by rw [← HM.out]; exact hj)⟩
  case round =>
    obtain ⟨n, rfl, hn, hz⟩ := hrel
    have HZ := Lib.hid hz
    clear hz
    rcases n with _ | n
    · go_wp2_with fail
      go_ret
      exact ⟨0, rfl, tl_zero (Nat.zero_le _) HZ.out (.inl rfl), rfl⟩
    · obtain ⟨ad, rfl, _, hcell⟩ := H.out.get n (by rw [← HM.out]; omega)
      by_cases h0 : dat xs n = 0
      · rw [h0] at hcell
        have H0 := Lib.hid h0
        clear h0
        go_wp2_with fail
        go_round
        case rel => exact ⟨n, by congr 1, by omega, mono_zero HZ.out H0.out⟩
        case measure => simp [intOf]
      · have h1 : ((dat xs n : Int) == 0) = false := by simp; omega
        have h2 : ((dat xs n : Int) != 0) = true := by simp; omega
        go_wp2_with fail
        go_ret
        exact ⟨n + 1, rfl, tl_zero (by rw [← HM.out]; omega) HZ.out (.inr (by simpa using h0)), rfl⟩
set_option maxHeartbeats 400000 in
theorem trim16_any (A : Option Addr) (m c : Nat) (xs : List Nat) (w : World) (h : Arr w .u64 (.slice A m c) xs) : Calls Tryz.prog 99 #[.slice A m c] w (TrE xs A c w) := by
  obtain ⟨hm, hmc, hcm⟩ := h.cap
  unfold maxLen at hcm
  have H := Lib.hid h
  have HM := Lib.hid hm
  clear h hm
  go_enter Tryz.func99, Tryz.ntmps99
  go_wp2_with fail
  go_loop [3] (fun i => TrR xs m i) (fun i => (intOf i).toNat)
  case atStart => exact ⟨m, rfl, Nat.le_refl _, fun j hj => dat_beyond (by rw [← HM.out]; exact hj)⟩
  case round =>
    obtain ⟨n, rfl, hn, hz⟩ := hrel
    have HZ := Lib.hid hz
    clear hz
    rcases n with _ | n
    · go_wp2_with fail
      go_ret
      exact ⟨0, rfl, tl_zero (Nat.zero_le _) HZ.out (.inl rfl), rfl⟩
    · obtain ⟨ad, rfl, _, hcell⟩ := H.out.get n (by rw [← HM.out]; omega)
      by_cases h0 : dat xs n = 0
      · rw [h0] at hcell
        have H0 := Lib.hid h0
        clear h0
        go_wp2_with fail
        go_round
        case rel => exact ⟨n, by congr 1, by omega, mono_zero HZ.out H0.out⟩
        case measure => simp [intOf]
      · have h1 : ((dat xs n : Int) == 0) = false := by simp; omega
        have h2 : ((dat xs n : Int) != 0) = true := by simp; omega
        go_wp2_with fail
        go_ret
        exact ⟨n + 1, rfl, tl_zero (by rw [← HM.out]; omega) HZ.out (.inr (by simpa using h0)), rfl⟩
set_option maxHeartbeats 400000 in
theorem at32_any (v : Value) (xs : List Nat) (i : Nat) (w : World) (h : Arr w .u32 v xs) :
    Calls Tryz.prog 110 #[v, .int .i64 (i : Int)] w fun e w' => e = .returned (.int .u32 (dat xs i : Int)) ∧ w = w' := by
  obtain ⟨A, c, rfl⟩ := h.slice
  obtain ⟨hm, hmc, hcm⟩ := h.cap
  unfold maxLen at hcm
  obtain ⟨m, hM⟩ : ∃ m, m = xs.length := ⟨_, rfl⟩
  rw [← hM] at h hmc ⊢
  have HM := Lib.hid hM
  have H := Lib.hid h
  clear h hm hM
  by_cases hi : i < m
  · obtain ⟨ad, rfl, _, hcell⟩ := H.out.get i (by rw [← HM.out]; exact hi)
    go_enter Tryz.func110, Tryz.ntmps110
    go_wp2
    go_ret
    exact ⟨rfl, rfl⟩
  · have hz := Lib.hid (dat_beyond (xs := xs) (i := i) (by rw [← HM.out]; omega))
    go_enter Tryz.func110, Tryz.ntmps110
    go_wp2
    go_ret
    exact ⟨ret_int (by rw [hz.out]; rfl), rfl⟩
set_option maxHeartbeats 400000 in
theorem at16_any (v : Value) (xs : List Nat) (i : Nat) (w : World) (h : Arr w .u64 v xs) :
    Calls Tryz.prog 75 #[v, .int .i64 (i : Int)] w fun e w' => e = .returned (.int .u64 (dat xs i : Int)) ∧ w = w' := by
  obtain ⟨A, c, rfl⟩ := h.slice
  obtain ⟨hm, hmc, hcm⟩ := h.cap
  unfold maxLen at hcm
  obtain ⟨m, hM⟩ : ∃ m, m = xs.length := ⟨_, rfl⟩
  rw [← hM] at h hmc ⊢
  have HM := Lib.hid hM
  have H := Lib.hid h
  clear h hm hM
  by_cases hi : i < m
  · obtain ⟨ad, rfl, _, hcell⟩ := H.out.get i (by rw [← HM.out]; exact hi)
    go_enter Tryz.func75, Tryz.ntmps75
    go_wp2
    go_ret
    exact ⟨rfl, rfl⟩
  · have hz := Lib.hid (dat_beyond (xs := xs) (i := i) (by rw [← HM.out]; omega))
    go_enter Tryz.func75, Tryz.ntmps75
    go_wp2
    go_ret
    exact ⟨ret_int (by rw [hz.out]; rfl), rfl⟩
theorem at16_q (v : Value) (xs : List Nat) (i : Nat) (w : World) (h : Arr w .u64 v xs) :
    Calls Tryz.prog 75 #[v, .int .i64 (i : Int)] w fun e w' => e = .returned (.int .u64 (dat xs i : Int)) ∧ w' = w := (at16_any v xs i w h).mono fun _ _ h => ⟨h.1, h.2.symm⟩
end Go.Proofs.YtpobhegllhhdgaaGreat

namespace Go.Proofs.YtpobhegllhhdgaaGreat
open Go.RowKit

/-- A sign and a slice as they lie in a block of their own. -/
def Bx (T : TypeId) (w : World) (g : Nat) (n : Bool) (v : Value) : Prop := w.heap[g]? = some (.cells #[.bool n, v] T (0, 0))
section
variable {T : TypeId} {w w' : World} {g : Nat} {n : Bool} {v : Value}
theorem Bx.lt (h : Bx T w g n v) : g < w.heap.size := by
  rcases Nat.lt_or_ge g w.heap.size with hl | hl
  · exact hl
  · unfold Bx at h; rw [Array.getElem?_eq_none hl] at h; cases h
theorem Bx.c0 (h : Bx T w g n v) : w.cell? ⟨g, 0, none⟩ = some (.bool n) := cell_of_row w g 0 _ T (0, 0) h
theorem Bx.c1 (h : Bx T w g n v) : w.cell? ⟨g, 1, none⟩ = some v := cell_of_row w g 1 _ T (0, 0) h
theorem Bx.fr (h : Bx T w g n v) (j : Nat) : w.frozen? ⟨g, j, none⟩ = false := by
  unfold Bx at h
  simp [World.frozen?, h]
theorem Bx.below {B : Nat} (h : Bx T w g n v) (hb : Below B w w') (hg : g < B) : Bx T w' g n v := (hb.block g hg).trans h
theorem Bx.bel (h : Bx T w g n v) (hb : Below w.heap.size w w') : Bx T w' g n v := h.below hb h.lt
theorem Bx.new (T : TypeId) (w : World) (n : Bool) (v : Value) : Bx T (w.alloc (.cells #[.bool n, v] T)) w.heap.size n v := heap_alloc_new w _
theorem Bx.alloc (h : Bx T w g n v) (o : Obj) : Bx T (w.alloc o) g n v := h.below ((Below.refl _ _).alloc (Nat.le_refl _) o) h.lt
theorem Bx.drew (h : Bx T w g n v) : Bx T w.drew g n v := h
theorem Bx.set0 (h : Bx T w g n v) (m : Bool) : Bx T (w.setCell ⟨g, 0, none⟩ (.bool m)) g m v := by
  unfold Bx at h ⊢
  simp [World.setCell, Array.getElem?_modify, h]
theorem Bx.set1 (h : Bx T w g n v) (u : Value) : Bx T (w.setCell ⟨g, 1, none⟩ u) g n u := by
  unfold Bx at h ⊢
  simp [World.setCell, Array.getElem?_modify, h]
theorem Bx.far (h : Bx T w g n v) {p : Addr} (hp : g ≠ p.block) (u : Value) : Bx T (w.setCell p u) g n v := (Below.heap_setCell w p u g hp).trans h
end
theorem bel_a (w : World) (o : Obj) : Below w.heap.size w (w.alloc o) := (Below.refl _ w).alloc (Nat.le_refl _) o
theorem bel_tr {w w1 w2 : World} (h : Below w.heap.size w w1) (h' : Below w1.heap.size w1 w2) : Below w.heap.size w w2 := h.trans (h'.mono h.size)
theorem bel_set {w w1 : World} {g : Nat} (h : Below w.heap.size w w1) (hg : w.heap.size ≤ g) (j : Nat) (u : Value) : Below w.heap.size w (w1.setCell ⟨g, j, none⟩ u) := h.setCell hg u
theorem Arr.alloc {w : World} {k : IntKind} {v : Value} {xs : List Nat} (h : Arr w k v xs) (o : Obj) : Arr (w.alloc o) k v xs := h.bel (bel_a w o)
theorem Arr.set {w w1 : World} {k : IntKind} {v : Value} {xs : List Nat} (h : Arr w k v xs) (hb : Below w.heap.size w w1) {g : Nat} (hg : w.heap.size ≤ g) (j : Nat) (u : Value) : Arr (w1.setCell ⟨g, j, none⟩ u) k v xs := h.bel (bel_set hb hg j u)

/-- Z reads as the number z, in its one form, with at most l digits in base 4294967296. -/
def BigC (w : World) (Z : Value) (z : Int) (l : Nat) : Prop := ∃ n v xs, Z = .agg #[.bool n, v] ∧ Arr w .u32 v xs ∧ Eg xs ∧ Can n xs ∧ xs.length ≤ l ∧ sv n (dw xs) = z
/-- Z reads as the number z, in any form. -/
def BigA (w : World) (Z : Value) (z : Int) (l : Nat) : Prop := ∃ n v xs, Z = .agg #[.bool n, v] ∧ Arr w .u32 v xs ∧ Eg xs ∧ xs.length ≤ l ∧ sv n (dw xs) = z
/-- Z reads as the document's number z, in its one form, with at most l digits in base 65536. -/
def NumC (w : World) (Z : Value) (z : Int) (l : Nat) : Prop := ∃ n v xs, Z = .agg #[.bool n, v] ∧ Arr w .u64 v xs ∧ Dg xs ∧ Can n xs ∧ xs.length ≤ l ∧ sv n (dv xs) = z
section
variable {w w' : World} {Z : Value} {z : Int} {l l' : Nat}
theorem BigC.any (h : BigC w Z z l) : BigA w Z z l := by
  obtain ⟨n, v, xs, h1, h2, h3, _, h5, h6⟩ := h
  exact ⟨n, v, xs, h1, h2, h3, h5, h6⟩
theorem BigC.bel (h : BigC w Z z l) (hb : Below w.heap.size w w') : BigC w' Z z l := by
  obtain ⟨n, v, xs, h1, h2, h3⟩ := h
  exact ⟨n, v, xs, h1, h2.bel hb, h3⟩
theorem BigA.bel (h : BigA w Z z l) (hb : Below w.heap.size w w') : BigA w' Z z l := by
  obtain ⟨n, v, xs, h1, h2, h3⟩ := h
  exact ⟨n, v, xs, h1, h2.bel hb, h3⟩
theorem NumC.bel (h : NumC w Z z l) (hb : Below w.heap.size w w') : NumC w' Z z l := by
  obtain ⟨n, v, xs, h1, h2, h3⟩ := h
  exact ⟨n, v, xs, h1, h2.bel hb, h3⟩
theorem BigC.le (h : BigC w Z z l) (hl : l ≤ l') : BigC w Z z l' := by
  obtain ⟨n, v, xs, h1, h2, h3, h4, h5, h6⟩ := h
  exact ⟨n, v, xs, h1, h2, h3, h4, Nat.le_trans h5 hl, h6⟩
theorem BigA.le (h : BigA w Z z l) (hl : l ≤ l') : BigA w Z z l' := by
  obtain ⟨n, v, xs, h1, h2, h3, h5, h6⟩ := h
  exact ⟨n, v, xs, h1, h2, h3, Nat.le_trans h5 hl, h6⟩
theorem NumC.le (h : NumC w Z z l) (hl : l ≤ l') : NumC w Z z l' := by
  obtain ⟨n, v, xs, h1, h2, h3, h4, h5, h6⟩ := h
  exact ⟨n, v, xs, h1, h2, h3, h4, Nat.le_trans h5 hl, h6⟩
theorem BigC.drew (h : BigC w Z z l) : BigC w.drew Z z l := h
theorem BigA.drew (h : BigA w Z z l) : BigA w.drew Z z l := h
theorem NumC.drew (h : NumC w Z z l) : NumC w.drew Z z l := h
end
theorem ret_bx24 {fn : Func} {p : Tmp} {tmps : Array Value} {W : World} {g : Nat} {n : Bool} {v : Value} (h : fn.results = #[.cell p 60]) (hp : tmps.getD p undef = .pointer (some ⟨g, 0, none⟩)) (hb : Bx 60 W g n v) :
    (results fn tmps).run Tryz.prog W = .ok (.agg #[.bool n, v]) W := by
  have hc0 := hb.c0
  have hc1 := hb.c1
  rw [Array.getD_eq_getD_getElem?] at hp
  simp [results, h, hp, go_sem, hc0, hc1]
theorem ret_bx28 {fn : Func} {p : Tmp} {tmps : Array Value} {W : World} {g : Nat} {n : Bool} {v : Value} (h : fn.results = #[.cell p 69]) (hp : tmps.getD p undef = .pointer (some ⟨g, 0, none⟩)) (hb : Bx 69 W g n v) :
    (results fn tmps).run Tryz.prog W = .ok (.agg #[.bool n, v]) W := by
  have hc0 := hb.c0
  have hc1 := hb.c1
  rw [Array.getD_eq_getD_getElem?] at hp
  simp [results, h, hp, go_sem, hc0, hc1]
def BigE (z : Int) (l : Nat) (w : World) (e : Ending) (w' : World) : Prop := ∃ Z, e = .returned Z ∧ BigC w' Z z l ∧ Below w.heap.size w w'
def NumE (z : Int) (l : Nat) (w : World) (e : Ending) (w' : World) : Prop := ∃ Z, e = .returned Z ∧ NumC w' Z z l ∧ Below w.heap.size w w'
theorem bigE_of {w W : World} {n : Bool} {A : Option Addr} {m c : Nat} {xs : List Nat} (h : Arr w .u32 (.slice A m c) xs) (hx : Eg xs) {k : Nat} (ht : Tl xs k) (hk : k ≠ 0) (hb : Below w.heap.size w W) :
    BigE (sv n (dw xs)) xs.length w (.returned (.agg #[.bool n, .slice A k c])) W :=
  ⟨_, rfl, ⟨n, _, _, rfl, (h.take ht.1).bel hb, eg_take hx k, ⟨ht.top, fun h0 => by
    have := congrArg List.length h0
    rw [List.length_take_of_le ht.1] at this
    exact absurd this hk⟩, List.length_take_le' k xs, by rw [ht.dw]⟩, hb⟩
theorem bigE_zero {w W : World} {n : Bool} {xs : List Nat} (ht : Tl xs 0) (hb : Below w.heap.size w W) :
    BigE (sv n (dw xs)) xs.length w (.returned (.agg #[.bool false, .slice none 0 0])) W :=
  ⟨_, rfl, ⟨false, _, [], rfl, Arr.nil _ _, eg_nil, ⟨top_nil, fun _ => rfl⟩, Nat.zero_le _, by
    have := ht.dw
    rw [← this]
    cases n <;> rfl⟩, hb⟩
theorem numE_of {w W : World} {n b : Bool} {A : Option Addr} {m c : Nat} {xs : List Nat} (h : Arr w .u64 (.slice A m c) xs) (hx : Dg xs) {k : Nat} (ht : Tl xs k) (hk : k = 0 → b = false) (hk2 : k ≠ 0 → b = n) (hb : Below w.heap.size w W) :
    NumE (sv n (dv xs)) xs.length w (.returned (.agg #[.bool b, .slice A k c])) W :=
  ⟨_, rfl, ⟨b, _, _, rfl, (h.take ht.1).bel hb, dg_take hx k, ⟨ht.top, fun h0 => by
    have := congrArg List.length h0
    rw [List.length_take_of_le ht.1] at this
    exact hk this⟩, List.length_take_le' k xs, by
    rw [ht.dv]
    rcases Nat.eq_zero_or_pos k with h0 | h0
    · subst h0
      have := ht.dv
      simp only [List.take_zero, dv] at this
      rw [← this, hk rfl]
      cases n <;> rfl
    · rw [hk2 (by omega)]⟩, hb⟩
theorem bx_start24 (w : World) : Bx 60 (w.alloc (.cells #[.bool false, .slice none 0 0] 60)) w.heap.size false (.slice none 0 0) := Bx.new 60 w _ _
set_option maxHeartbeats 400000 in
theorem form_any (n : Bool) (v : Value) (xs : List Nat) (w : World) (h : Arr w .u32 v xs) (hx : Eg xs) : Calls Tryz.prog 91 #[.bool n, v] w (BigE (sv n (dw xs)) xs.length w) := by
  obtain ⟨A, c, rfl⟩ := h.slice
  obtain ⟨m, hM⟩ : ∃ m, m = xs.length := ⟨_, rfl⟩
  rw [← hM] at h
  have H := Lib.hid h
  have HX := Lib.hid hx
  have HS := Lib.hid (bx_start24 w)
  have HB := Lib.hid (bel_a w (.cells #[.bool false, .slice none 0 0] 60))
  have HA := Lib.hid (H.out.alloc (.cells #[.bool false, .slice none 0 0] 60))
  have HM := Lib.hid hM
  have hcm := H.out.cap.2.2
  unfold maxLen at hcm
  have hmc := H.out.cap.2.1
  rw [← hM]
  clear h hx hM
  go_enter Tryz.func91, Tryz.ntmps91
  go_wp2_with (go_at_call 92; (with_reducible refine (trim32_any A m c xs _ HA.out).mono ?_); rintro e w1 ⟨k, rfl, hk, rfl⟩; have HK := Lib.hid hk; have hkm := hk.1; rw [← HM.out] at hkm; clear hk)
  · have hk0 : k = 0 := by have h : ((k : Int) == 0) = true := by assumption
                           simp at h; omega
    subst hk0
    have hE := bigE_zero (n := n) HK.out HB.out
    rw [← HM.out] at hE
    exact bodyPost_ret (ret_bx24 rfl rfl (Bx.new 60 w _ _)) rfl hE
  · have hk0 : k ≠ 0 := by have h : ((k : Int) == 0) = false := by assumption
                           simp at h; omega
    have hE := bigE_of (n := n) H.out HX.out HK.out hk0 (bel_a w (.cells #[.bool n, .slice A k c] 60))
    rw [← HM.out] at hE
    exact bodyPost_ret (ret_bx24 rfl rfl (Bx.new 60 w _ _)) rfl hE
set_option maxHeartbeats 400000 in
theorem norm_any (n : Bool) (v : Value) (xs : List Nat) (w : World) (h : Arr w .u64 v xs) (hx : Dg xs) : Calls Tryz.prog 65 #[.bool n, v] w (NumE (sv n (dv xs)) xs.length w) := by
  obtain ⟨A, c, rfl⟩ := h.slice
  obtain ⟨m, hM⟩ : ∃ m, m = xs.length := ⟨_, rfl⟩
  rw [← hM] at h
  have H := Lib.hid h
  have HX := Lib.hid hx
  have HA := Lib.hid (H.out.alloc (.cells #[.bool false, .slice none 0 0] 69))
  have HM := Lib.hid hM
  have hcm := H.out.cap.2.2
  unfold maxLen at hcm
  have hmc := H.out.cap.2.1
  rw [← hM]
  clear h hx hM
  cases n
  all_goals
    go_enter Tryz.func65, Tryz.ntmps65
    go_wp2_with (go_at_call 99; (with_reducible refine (trim16_any A m c xs _ HA.out).mono ?_); rintro e w1 ⟨k, rfl, hk, rfl⟩; have HK := Lib.hid hk; have hkm := hk.1; rw [← HM.out] at hkm; clear hk)
  · have hE := numE_of (n := false) (b := false) H.out HX.out HK.out (fun _ => rfl) (fun _ => rfl) (bel_a w (.cells #[.bool false, .slice A k c] 69))
    rw [← HM.out] at hE
    exact bodyPost_ret (ret_bx28 rfl rfl (Bx.new 69 w _ _)) rfl hE
  · by_cases hk : k = 0
    · have hd : decide (0 < k) = false := by simp; omega
      rw [hd]
      have hE := numE_of (n := true) (b := false) H.out HX.out HK.out (fun _ => rfl) (fun h => absurd hk h) (bel_a w (.cells #[.bool false, .slice A k c] 69))
      rw [← HM.out] at hE
      exact bodyPost_ret (ret_bx28 rfl rfl (Bx.new 69 w _ _)) rfl hE
    · have hd : decide (0 < k) = true := by simp; omega
      rw [hd]
      have hE := numE_of (n := true) (b := true) H.out HX.out HK.out (fun h => absurd h hk) (fun _ => rfl) (bel_a w (.cells #[.bool true, .slice A k c] 69))
      rw [← HM.out] at hE
      exact bodyPost_ret (ret_bx28 rfl rfl (Bx.new 69 w _ _)) rfl hE
end Go.Proofs.YtpobhegllhhdgaaGreat

namespace Go.Proofs.YtpobhegllhhdgaaGreat
open Go.RowKit

theorem Tryz.info95 : (Tryz.prog.info? 95).map (fun i => (i.zero, i.size, i.bytes)) = some (some (.int .u64 0), 1, 8) := by kernel_rfl
theorem Tryz.info105 : (Tryz.prog.info? 105).map (fun i => (i.zero, i.size, i.bytes)) = some (some (.int .u32 0), 1, 4) := by kernel_rfl
theorem dat_or (xs : List Nat) (i : Nat) : i < xs.length ∨ dat xs i = 0 := (Nat.lt_or_ge i xs.length).imp id dat_beyond
/-- One digit is appended to a row of the call's own. -/
theorem push_own {ops : Array Oper} {rest : List Oper} {o : Oper} {a : Act} {Q : Exit → Act → World → Prop} {wr : World} (hgd : o.guard = none) (s x : Operand)
    (ho : o.op = .call { callee := .builtin .append, args := #[s, x], argTypes := #[67, 67] }) (base : Nat) (v : Value) (n : Nat) (zs : List Nat) (d : Nat) (hs : a.eval s = v)
    (hown : wr.ownsRow base 95 1 v n (cs .u64 zs)) (D : Int) (hD : D = (d : Int)) (hbase : base ≤ wr.heap.size) (hn : n ≤ 1000000) (hx : a.eval x = .slice (some ⟨wr.heap.size, 0, none⟩) 1 1)
    (h : ∀ v' w', w'.ownsRow base 95 1 v' (n + 1) (cs .u64 (zs ++ [d])) → Below base wr w' → wpList Tryz.prog ops Q rest (a.put o.dst v') w') :
    wpList Tryz.prog ops Q (o :: rest) a (wr.alloc (.cells #[.int .u64 D] 95)) := by
  subst hD
  obtain ⟨i0, hi0, hz0, hz1, hz2⟩ := info_parts Tryz.info95
  refine wpList_append_own _ hgd s x 67 ho base 95 i0 _ 1 8 Tryz.underlying67 hi0 hz0 hz1 hz2 rfl (by decide) v n (cs .u64 zs) hs (hown.alloc _) ⟨wr.heap.size, 0, none⟩ 1 1 [.int .u64 (d : Int)] hx rfl ?_ ?_ ?_ ?_ ?_ ?_
  · exact cell_one_new _ _ _
  · intro u hu
    simp at hu
    subst hu
    rfl
  · unfold maxLen; omega
  · omega
  · simp; omega
  · intro v' w' h1 h2 _
    rw [← cs_snoc] at h1
    exact h v' w' h1 (((Below.refl _ _).alloc hbase _).grown h2 (by simp; omega) (fun k hk => (hown.lt k hk).1))
/-- What holds of a sum's digits at each round's head. -/
def PlusR (w wr : World) (xs ys zs : List Nat) (k q : Nat) (z : Value) : Prop :=
  (k = max xs.length ys.length + 1 → q = 0) ∧ wr.ownsRow w.heap.size 95 1 z k (cs .u64 zs) ∧ Dg zs ∧ zs.length = k ∧ dv zs + q * 65536 ^ k = dv (xs.take k) + dv (ys.take k) ∧ Below w.heap.size w wr
theorem PlusR.below {w wr : World} {xs ys zs : List Nat} {k q : Nat} {z : Value} (h : PlusR w wr xs ys zs k q z) : Below w.heap.size w wr := h.2.2.2.2.2
theorem PlusR.own {w wr : World} {xs ys zs : List Nat} {k q : Nat} {z : Value} (h : PlusR w wr xs ys zs k q z) : wr.ownsRow w.heap.size 95 1 z k (cs .u64 zs) := h.2.1
theorem PlusR.step {w wr w' : World} {xs ys zs : List Nat} {k q : Nat} {z z' : Value} (h : PlusR w wr xs ys zs k q z) (hown : w'.ownsRow w.heap.size 95 1 z' (k + 1) (cs .u64 (zs ++ [(dat xs k + dat ys k + q) % 65536])))
    (hb : Below w.heap.size wr w') (hq : q ≤ 1) (hgo : k < xs.length ∨ k < ys.length ∨ 0 < q) (hk : k ≤ max xs.length ys.length + 1) (hx : Dg xs) (hy : Dg ys) :
    ∃ (k' q' : Nat) (zs' : List Nat), Value.int .i64 ((k : Int) + 1) = .int .i64 (k' : Int) ∧ Value.int .u64 (((dat xs k : Int) + (dat ys k : Int) + (q : Int)) / 65536) = .int .u64 (q' : Int) ∧ q' ≤ 1 ∧ k' ≤ max xs.length ys.length + 1 ∧ PlusR w w' xs ys zs' k' q' z' := by
  obtain ⟨h1, _, h3, h4, h5, h6⟩ := h
  have hXk : dat xs k < 65536 := hx k
  have hYk : dat ys k < 65536 := hy k
  refine ⟨k + 1, (dat xs k + dat ys k + q) / 65536, zs ++ [(dat xs k + dat ys k + q) % 65536], by simp, by simp, by omega, ?_, ?_, hown, dg_snoc h3 (Nat.mod_lt _ (by decide)), by simp [h4], plus_step h4 h5, h6.trans hb⟩
  · rcases Nat.lt_or_ge k (max xs.length ys.length + 1) with h | h
    · omega
    · have := h1 (by omega)
      omega
  · intro he
    have e1 : dat xs k = 0 := dat_beyond (by omega)
    have e2 : dat ys k = 0 := dat_beyond (by omega)
    omega
/-- What a sum, a difference of digits answers: digits of that value. -/
def DvE (x l : Nat) (w : World) (e : Ending) (w' : World) : Prop := ∃ z zs, e = .returned z ∧ Arr w' .u64 z zs ∧ Dg zs ∧ dv zs = x ∧ zs.length ≤ l ∧ Below w.heap.size w w'
theorem PlusR.fin {w wr : World} {xs ys zs : List Nat} {k q m n : Nat} {z : Value} (h : PlusR w wr xs ys zs k q z) (hx : xs.length ≤ k) (hy : ys.length ≤ k) (hq : q = 0) (hk : k ≤ max m n + 1) :
    DvE (dv xs + dv ys) (max m n + 1) w (.returned z) wr := by
  obtain ⟨_, h2, h3, h4, h5, h6⟩ := h
  subst hq
  rw [dv_take_all hx, dv_take_all hy] at h5
  exact ⟨z, zs, rfl, Arr.of_own h2, h3, by omega, by omega, h6⟩
theorem plus_cast (a b c : Nat) : ((a : Int) + b + c) % 65536 = (((a + b + c) % 65536 : Nat) : Int) := by simp
set_option maxHeartbeats 1000000 in
set_option maxRecDepth 100000 in
theorem plus16_any (v u : Value) (xs ys : List Nat) (w : World) (hv : Arr w .u64 v xs) (hu : Arr w .u64 u ys) (hx : Dg xs) (hy : Dg ys) (hxl : xs.length ≤ 100000) (hyl : ys.length ≤ 100000) :
    Calls Tryz.prog 101 #[v, u] w (DvE (dv xs + dv ys) (max xs.length ys.length + 1) w) := by
  obtain ⟨Av, cv, rfl⟩ := hv.slice
  obtain ⟨Au, cu, rfl⟩ := hu.slice
  obtain ⟨m, hm⟩ : ∃ m, m = xs.length := ⟨_, rfl⟩
  obtain ⟨n, hn⟩ : ∃ n, n = ys.length := ⟨_, rfl⟩
  rw [← hm] at hv hxl
  rw [← hn] at hu hyl
  have HV := Lib.hid hv
  have HU := Lib.hid hu
  have HX := Lib.hid hx
  have HY := Lib.hid hy
  have HM := Lib.hid hm
  have HN := Lib.hid hn
  rw [← hm, ← hn]
  clear hm hn hv hu hx hy
  go_enter Tryz.func101, Tryz.ntmps101
  go_wp2_with fail
  go_loopw [5, 6, 7] (fun z c i wr => ∃ (k q : Nat) (zs : List Nat), i = .int .i64 (k : Int) ∧ c = .int .u64 (q : Int) ∧ q ≤ 1 ∧ k ≤ max m n + 1 ∧ PlusR w wr xs ys zs k q z)
    (fun _ c i _ => 2 * (max m n + 1 - (intOf i).toNat) + (intOf c).toNat)
  case atStart => exact ⟨0, 0, [], rfl, rfl, by omega, by omega, by omega, World.ownsRow_nil _ _ _ _, dg_nil, rfl, by simp [dv], Below.refl _ _⟩
  case round =>
    obtain ⟨k, q, zs, rfl, rfl, hq, hk, hr⟩ := hrel
    have hXk : dat xs k < 65536 := HX.out k
    have hYk : dat ys k < 65536 := HY.out k
    have HVr := Lib.hid (HV.out.bel hr.below)
    have HUr := Lib.hid (HU.out.bel hr.below)
    have hown := Lib.hid hr.own
    have hbas := hr.below.size
    have HR := Lib.hid hr
    clear hr
    by_cases hgo : k < m ∨ k < n ∨ 0 < q
    · go_wp2_with fail
      all_goals
        go_wp2_with (first | (go_at_call 75; (with_reducible refine (at16_any (.slice Av m cv) xs k wr HVr.out).mono ?_); rintro e w' ⟨rfl, rfl⟩) | (go_at_call 75; (with_reducible refine (at16_any (.slice Au n cu) ys k wr HUr.out).mono ?_); rintro e w' ⟨rfl, rfl⟩) | (at_builtin; go_must (refine push_own rfl (.tmp 34) (.tmp 37) rfl w.heap.size u5 k zs ((dat xs k + dat ys k + q) % 65536) rfl hown.out _ ?_ hbas ?_ rfl ?_); rotate_left 2; intro z' w' hown' hb'))
      all_goals first
        | exact plus_cast _ _ _
        | (go_roundw
           case rel => rw [HM.out, HN.out]; exact HR.out.step hown' hb' hq (by rw [← HM.out, ← HN.out]; omega) (by rw [← HM.out, ← HN.out]; exact hk) HX.out HY.out
           case measure =>
             have e1 : k < m ∨ dat xs k = 0 := by rw [HM.out]; exact dat_or _ _
             have e2 : k < n ∨ dat ys k = 0 := by rw [HN.out]; exact dat_or _ _
             simp [intOf]
             omega)
        | omega
    · go_wp2_with fail
      go_ret
      exact HR.out.fin (by rw [← HM.out]; omega) (by rw [← HN.out]; omega) (by omega) hk
/-- What holds of a difference's digits at each round's head. -/
def MinusR (w wr : World) (xs ys zs : List Nat) (k q : Nat) (z : Value) : Prop :=
  wr.ownsRow w.heap.size 95 1 z k (cs .u64 zs) ∧ Dg zs ∧ zs.length = k ∧ dv zs + dv (ys.take k) = dv (xs.take k) + q * 65536 ^ k ∧ Below w.heap.size w wr
theorem MinusR.below {w wr : World} {xs ys zs : List Nat} {k q : Nat} {z : Value} (h : MinusR w wr xs ys zs k q z) : Below w.heap.size w wr := h.2.2.2.2
theorem MinusR.own {w wr : World} {xs ys zs : List Nat} {k q : Nat} {z : Value} (h : MinusR w wr xs ys zs k q z) : wr.ownsRow w.heap.size 95 1 z k (cs .u64 zs) := h.1
theorem MinusR.drewN {w wr : World} {xs ys zs : List Nat} {k q : Nat} {z : Value} (h : MinusR w wr xs ys zs k q z) (n : Nat) : MinusR w (wr.drewN n) xs ys zs k q z :=
  ⟨h.1, h.2.1, h.2.2.1, h.2.2.2.1, ⟨h.below.os, h.below.tape, h.below.output, h.below.size, h.below.block⟩⟩
theorem MinusR.step {w wr w' : World} {xs ys zs : List Nat} {k q : Nat} {z z' : Value} (h : MinusR w wr xs ys zs k q z) (hown : w'.ownsRow w.heap.size 95 1 z' (k + 1) (cs .u64 (zs ++ [(65536 + dat xs k - dat ys k - q) % 65536])))
    (hb : Below w.heap.size wr w') (hq : q ≤ 1) (hx : Dg xs) (hy : Dg ys) :
    MinusR w w' xs ys (zs ++ [(65536 + dat xs k - dat ys k - q) % 65536]) (k + 1) (1 - (65536 + dat xs k - dat ys k - q) / 65536) z' := by
  obtain ⟨_, h2, h3, h4, h5⟩ := h
  exact ⟨hown, dg_snoc h2 (Nat.mod_lt _ (by decide)), by simp [h3], minus_step h3 hq (hy k) (hx k) h4, h5.trans hb⟩
theorem minus_cast {a b q : Nat} (ha : a < 65536) (hb : b < 65536) (hq : q ≤ 1) : Value.int .u64 (1 - (65536 + (a : Int) - (b : Int) - (q : Int)) / 65536) = .int .u64 ((1 - (65536 + a - b - q) / 65536 : Nat) : Int) := by
  congr 1
  omega
set_option maxHeartbeats 1000000 in
set_option maxRecDepth 100000 in
theorem minus16_any (v u : Value) (xs ys : List Nat) (w : World) (hv : Arr w .u64 v xs) (hu : Arr w .u64 u ys) (hx : Dg xs) (hy : Dg ys) (hxl : xs.length ≤ 100000) (hle : dv ys ≤ dv xs) :
    Calls Tryz.prog 103 #[v, u] w (DvE (dv xs - dv ys) xs.length w) := by
  obtain ⟨Av, cv, rfl⟩ := hv.slice
  obtain ⟨Au, cu, rfl⟩ := hu.slice
  obtain ⟨m, hm⟩ : ∃ m, m = xs.length := ⟨_, rfl⟩
  obtain ⟨n, hn⟩ : ∃ n, n = ys.length := ⟨_, rfl⟩
  rw [← hm] at hv hxl
  rw [← hn] at hu
  have HV := Lib.hid hv
  have HU := Lib.hid hu
  have HX := Lib.hid hx
  have HY := Lib.hid hy
  have HL := Lib.hid hle
  have HM := Lib.hid hm
  have HN := Lib.hid hn
  rw [← hm, ← hn]
  clear hv hu hx hy hle hm hn
  go_enter Tryz.func103, Tryz.ntmps103
  go_wp2_with fail
  go_loopw [5, 6, 7] (fun z c i wr => ∃ (k q : Nat) (zs : List Nat), i = .int .i64 (k : Int) ∧ c = .int .u64 (q : Int) ∧ q ≤ 1 ∧ k ≤ m ∧ MinusR w wr xs ys zs k q z)
    (fun _ _ i _ => m - (intOf i).toNat)
  case atStart => exact ⟨0, 0, [], rfl, rfl, by omega, by omega, World.ownsRow_nil _ _ _ _, dg_nil, rfl, by simp [dv], Below.refl _ _⟩
  case round =>
    obtain ⟨k, q, zs, rfl, rfl, hq, hk, hr⟩ := hrel
    have hXk : dat xs k < 65536 := HX.out k
    have hYk : dat ys k < 65536 := HY.out k
    have HVr := Lib.hid (HV.out.bel hr.below)
    have HUr := Lib.hid (HU.out.bel hr.below)
    have hown := Lib.hid hr.own
    have hbas := hr.below.size
    have HR := Lib.hid hr
    clear hr
    by_cases hgo : k < m
    · obtain ⟨g, rfl, _, hcell⟩ := HVr.out.get k (by rw [← HM.out]; exact hgo)
      go_wp2_with fail
      go_quiet ((go_at_call 75; exact Calls.quiet_of_same (at16_q (.slice Au n cu) ys k _ HUr.out)))
      obtain ⟨W, hW⟩ : ∃ W, W = wr.drewN nq := ⟨_, rfl⟩
      have HRW := Lib.hid (HR.out.drewN nq)
      rw [← hW] at HRW ⊢
      clear hW HR hown HUr hcell hbas
      have hown := Lib.hid HRW.out.own
      have hbas := HRW.out.below.size
      go_wp2_with (at_builtin; go_must (refine push_own rfl (.tmp 26) (.tmp 29) rfl w.heap.size u5 k zs ((65536 + dat xs k - dat ys k - q) % 65536) rfl hown.out _ ?_ hbas ?_ rfl ?_); rotate_left 2; intro z' w' hown' hb')
      case roundEnd =>
        refine ⟨⟨k + 1, 1 - (65536 + dat xs k - dat ys k - q) / 65536, _, by simp, minus_cast hXk hYk hq, by omega, by omega, HRW.out.step hown' hb' hq HX.out HY.out⟩, ?_⟩
        simp [intOf]
        omega
      · omega
      · omega
    · go_wp2_with fail
      go_ret
      obtain ⟨h1, h2, h3, h4, h5⟩ := HR.out
      have e : k = xs.length := by rw [← HM.out]; omega
      subst e
      exact ⟨u5, zs, rfl, Arr.of_own h1, h2, minus_end h2 HX.out HY.out h3 hq HL.out h4, by rw [h3, HM.out]; exact Nat.le_refl _, h5⟩
end Go.Proofs.YtpobhegllhhdgaaGreat

namespace Go.Proofs.YtpobhegllhhdgaaGreat
open Go.RowKit

theorem top31 {a : Nat} (h : a < 4294967296) : a.testBit 31 = decide (2147483648 ≤ a) := by
  rw [Nat.testBit_eq_decide_div_mod_eq]
  congr 1
  simp only [eq_iff_iff]
  omega
theorem shr31 {a : Nat} (h : a < 4294967296) : a / 2147483648 = if a.testBit 31 = true then 1 else 0 := by
  rw [top31 h]
  by_cases h2 : 2147483648 ≤ a
  · simp [h2]; omega
  · simp [h2]; omega
theorem not31 {a : Nat} (h : a < 4294967296) : (4294967295 - a).testBit 31 = !a.testBit 31 := by
  rw [top31 (by omega), top31 h]
  by_cases h2 : 2147483648 ≤ a
  · simp [h2]; omega
  · simp [h2]; omega
theorem sub32_borrow {x y b d : Nat} (hx : x < 4294967296) (hy : y < 4294967296) (hb : b ≤ 1) (hd : d = (x + 4294967296 - y - b) % 4294967296) :
    (((4294967295 - x) &&& y) ||| ((4294967295 - (x ^^^ y)) &&& d)) / 2147483648 = if x < y + b then 1 else 0 := by
  have hd2 : d < 4294967296 := by omega
  have hxy : x ^^^ y < 4294967296 := Nat.xor_lt_two_pow (n := 32) hx hy
  have h1 : (4294967295 - x) &&& y < 4294967296 := Nat.lt_of_le_of_lt Nat.and_le_right hy
  have h2 : (4294967295 - (x ^^^ y)) &&& d < 4294967296 := Nat.lt_of_le_of_lt Nat.and_le_right hd2
  have h3 : ((4294967295 - x) &&& y) ||| ((4294967295 - (x ^^^ y)) &&& d) < 4294967296 := Nat.or_lt_two_pow (n := 32) h1 h2
  rw [shr31 h3, Nat.testBit_or, Nat.testBit_and, Nat.testBit_and, not31 hx, not31 hxy, Nat.testBit_xor, top31 hx, top31 hy, top31 hd2]
  by_cases c1 : 2147483648 ≤ x <;> by_cases c2 : 2147483648 ≤ y <;> by_cases c3 : 2147483648 ≤ d <;> by_cases c4 : x < y + b <;> simp [c1, c2, c3, c4] <;> omega
/-- A digit of a sum, and the carry; of a difference. -/
def sLo (x y c : Nat) : Nat := (x + y + c) % 4294967296
def sCa (x y c : Nat) : Nat := (x + y + c) / 4294967296
def dLo (x y c : Nat) : Nat := (x + 4294967296 - y - c) % 4294967296
def dBo (x y c : Nat) : Nat := if x < y + c then 1 else 0
def Pair32 (a b : Nat) (w : World) (e : Ending) (w' : World) : Prop := e = .returned (.tuple #[.int .u32 (a : Int), .int .u32 (b : Int)]) ∧ w = w'
theorem ret_pair {k : IntKind} {a b c d : Int} (h : a = c) (h' : b = d) : Ending.returned (.tuple #[.int k a, .int k b]) = .returned (.tuple #[.int k c, .int k d]) := by rw [h, h']
set_option maxHeartbeats 400000 in
theorem add32_any (x y c : Nat) (w : World) (hx : x < 4294967296) (hy : y < 4294967296) (hc : c ≤ 1) :
    Calls Tryz.prog 109 #[.int .u32 (x : Int), .int .u32 (y : Int), .int .u32 (c : Int)] w (Pair32 (sLo x y c) (sCa x y c) w) := by
  go_enter Tryz.func109, Tryz.ntmps109
  go_wp2
  go_ret2
  exact ⟨ret_pair (by simp [sLo]) (by simp [sCa]), rfl⟩
theorem u32_not {x : Nat} (h : x < 4294967296) : bits .xor .u32 IntKind.u32.max (x : Int) = ((4294967295 - x : Nat) : Int) := by
  have e : IntKind.u32.max = ((4294967295 : Nat) : Int) := by decide
  rw [e, u32_xor_nat 4294967295 x (by decide) h]
  congr 1
  apply Nat.eq_of_testBit_eq
  intro i
  have h1 := Nat.testBit_two_pow_sub_succ (n := 32) h i
  have h2 := Nat.testBit_two_pow_sub_one 32 i
  rw [show (2 ^ 32 - (x + 1) : Nat) = 4294967295 - x by omega] at h1
  rw [Nat.testBit_xor, h1, show (4294967295 : Nat) = 2 ^ 32 - 1 by decide, h2]
  by_cases hi : i < 32
  · simp [hi]
  · have : x.testBit i = false := Nat.testBit_lt_two_pow (Nat.lt_of_lt_of_le h (Nat.pow_le_pow_right (n := 2) (i := 32) (by decide) (by omega)))
    simp [hi, this]
theorem sub32_bits {x y c : Nat} (hx : x < 4294967296) (hy : y < 4294967296) (hc : c ≤ 1) :
    bits .or .u32 (bits .and .u32 (bits .xor .u32 IntKind.u32.max (x : Int)) (y : Int)) (bits .and .u32 (bits .xor .u32 IntKind.u32.max (bits .xor .u32 (x : Int) (y : Int))) (((x : Int) - (y : Int) - (c : Int)) % 4294967296)) / 2147483648 = (dBo x y c : Int) := by
  have hd : ((x : Int) - (y : Int) - (c : Int)) % 4294967296 = (dLo x y c : Int) := by unfold dLo; omega
  have hd2 : dLo x y c < 4294967296 := by unfold dLo; omega
  have hxy : x ^^^ y < 4294967296 := Nat.xor_lt_two_pow (n := 32) hx hy
  rw [hd, u32_xor_nat x y hx hy, u32_not hx, u32_not hxy, u32_and_nat _ _ (by omega) hy, u32_and_nat _ _ (by omega) hd2,
    u32_or_nat _ _ (Nat.lt_of_le_of_lt Nat.and_le_right hy) (Nat.lt_of_le_of_lt Nat.and_le_right hd2)]
  have := sub32_borrow hx hy hc (d := dLo x y c) rfl
  unfold dBo
  rw [← this]
  simp
set_option maxHeartbeats 400000 in
theorem sub32_any (x y c : Nat) (w : World) (hx : x < 4294967296) (hy : y < 4294967296) (hc : c ≤ 1) :
    Calls Tryz.prog 113 #[.int .u32 (x : Int), .int .u32 (y : Int), .int .u32 (c : Int)] w (Pair32 (dLo x y c) (dBo x y c) w) := by
  have hs : IntKind.u32.signed = false := rfl
  go_enter Tryz.func113, Tryz.ntmps113
  go_wp2
  go_ret2
  exact ⟨ret_pair (by unfold dLo; omega) (sub32_bits hx hy hc), rfl⟩
end Go.Proofs.YtpobhegllhhdgaaGreat

namespace Go.Proofs.YtpobhegllhhdgaaGreat
open Go.RowKit

/-- The block g holds just the digits xs. -/
def DB (k : IntKind) (T : TypeId) (w : World) (g : Nat) (xs : List Nat) : Prop := w.heap[g]? = some (.cells (cs k xs).toArray T (0, 0))
section
variable {k : IntKind} {T : TypeId} {w w' : World} {g : Nat} {xs : List Nat}
theorem DB.lt (h : DB k T w g xs) : g < w.heap.size := by
  rcases Nat.lt_or_ge g w.heap.size with hl | hl
  · exact hl
  · unfold DB at h; rw [Array.getElem?_eq_none hl] at h; cases h
theorem DB.cell (h : DB k T w g xs) (i : Nat) (hi : i < xs.length) : w.cell? ⟨g, i, none⟩ = some (.int k (dat xs i : Int)) := by
  rw [cell_of_row w g i _ T (0, 0) h, ← cs_get k xs i hi]
  simp
theorem DB.fr (h : DB k T w g xs) (j : Nat) : w.frozen? ⟨g, j, none⟩ = false := by
  unfold DB at h
  simp [World.frozen?, h]
theorem DB.below {B : Nat} (h : DB k T w g xs) (hb : Below B w w') (hg : g < B) : DB k T w' g xs := (hb.block g hg).trans h
theorem DB.bel (h : DB k T w g xs) (hb : Below w.heap.size w w') : DB k T w' g xs := h.below hb h.lt
theorem DB.set_ (h : DB k T w g xs) (i d : Nat) : DB k T (w.setCell ⟨g, i, none⟩ (.int k (d : Int))) g (xs.set i d) := by
  unfold DB at h ⊢
  simp [World.setCell, Array.getElem?_modify, h, cs, List.map_set]
theorem DB.arr (h : DB k T w g xs) (hl : xs.length ≤ 1000000) : Arr w k (.slice (some ⟨g, 0, none⟩) xs.length xs.length) xs :=
  ⟨_, xs.length, rfl, Nat.le_refl _, by unfold maxLen; omega, (fun h => by cases h), fun ad ha => by
    injection ha with ha
    subst ha
    refine ⟨fun _ => h.lt, fun j hj => ?_⟩
    have e : Addr.add ⟨g, 0, none⟩ j = ⟨g, j, none⟩ := by unfold Addr.add; split <;> simp_all
    rw [e]
    exact h.cell j hj⟩
theorem DB.new (k : IntKind) (T : TypeId) (w : World) (xs : List Nat) : DB k T (w.alloc (.cells (cs k xs).toArray T)) w.heap.size xs := heap_alloc_new w _
end
theorem made_cs (k : IntKind) (n : Nat) : madeCells #[.int k 0] (n * 1) = (cs k (List.replicate n 0)).toArray := by
  rw [Nat.mul_one]
  apply Array.ext'
  rw [toList_madeCells_one]
  simp [cs]
theorem mk32 (n : Nat) (hn : n ≤ 1000000) (w : World) (D : Int) (hD : D = (n : Int)) : (Instr.makeSlice 58 (.int .i64 D) (.int .i64 D)).run Tryz.prog w = .ok (.slice (some ⟨w.heap.size, 0, none⟩) n n) (w.alloc (.cells (cs .u32 (List.replicate n 0)).toArray 105)) := by
  subst hD
  obtain ⟨i0, hi0, hz0, hz1, hz2⟩ := info_parts Tryz.info105
  have := run_makeSlice (P := Tryz.prog) w 58 105 i0 (.int .u32 0) Tryz.underlying58 hi0 hz0 .i64 .i64 (n : Int) (n : Int) (by omega) (Int.le_refl _) (by rw [hz1]; omega) (by rw [hz2]; omega) (by omega)
  rw [this, hz1, Int.toNat_natCast, show (Value.int .u32 0).cells = #[.int .u32 0] from rfl, made_cs]
theorem mk16 (n : Nat) (hn : n ≤ 1000000) (w : World) (D : Int) (hD : D = (n : Int)) : (Instr.makeSlice 67 (.int .i64 D) (.int .i64 D)).run Tryz.prog w = .ok (.slice (some ⟨w.heap.size, 0, none⟩) n n) (w.alloc (.cells (cs .u64 (List.replicate n 0)).toArray 95)) := by
  subst hD
  obtain ⟨i0, hi0, hz0, hz1, hz2⟩ := info_parts Tryz.info95
  have := run_makeSlice (P := Tryz.prog) w 67 95 i0 (.int .u64 0) Tryz.underlying67 hi0 hz0 .i64 .i64 (n : Int) (n : Int) (by omega) (Int.le_refl _) (by rw [hz1]; omega) (by rw [hz2]; omega) (by omega)
  rw [this, hz1, Int.toNat_natCast, show (Value.int .u64 0).cells = #[.int .u64 0] from rfl, made_cs]
theorem eg_sLo (x y c : Nat) : sLo x y c < 4294967296 := Nat.mod_lt _ (by decide)
theorem eg_dLo (x y c : Nat) : dLo x y c < 4294967296 := Nat.mod_lt _ (by decide)
theorem zero_set {os : List Nat} {k d : Nat} (h : ∀ j, k ≤ j → dat os j = 0) : ∀ j, k + 1 ≤ j → dat (os.set k d) j = 0 := fun j hj => by
  have := h j (by omega)
  simp only [dat, List.getD_eq_getElem?_getD] at this ⊢
  rw [List.getElem?_set_ne (by omega)]
  exact this
theorem set_zero_val {os : List Nat} {k d : Nat} (hk : k < os.length) (h : ∀ j, k ≤ j → dat os j = 0) : dw (os.set k d) = dw os + 4294967296 ^ k * d := by
  have h1 := dw_set (l := os) d hk
  have h2 : os.getD k 0 = 0 := h k (Nat.le_refl _)
  rw [h2] at h1
  omega
theorem dw_zeros_ (n j : Nat) : dat (List.replicate n 0) j = 0 := by
  simp only [dat, List.getD_eq_getElem?_getD, List.getElem?_replicate]
  split <;> simp
/-- What a function on package big's digits answers: new digits of the value x, at most l. -/
def DwE (x l : Nat) (w : World) (e : Ending) (w' : World) : Prop := ∃ z zs, e = .returned z ∧ Arr w' .u32 z zs ∧ Eg zs ∧ dw zs = x ∧ zs.length ≤ l ∧ Below w.heap.size w w'
structure PlusW (w wr : World) (xs ys os : List Nat) (L k q : Nat) : Prop where
  db : DB .u32 105 wr w.heap.size os
  eg : Eg os
  len : os.length = L
  zero : ∀ j, k ≤ j → dat os j = 0
  val : dw os + q * 4294967296 ^ k = dw (xs.take k) + dw (ys.take k)
  ql : q ≤ 1
  qk : k = L → q = 0
  bel : Below w.heap.size w wr
theorem PlusW.start (w : World) (xs ys : List Nat) (L : Nat) : PlusW w (w.alloc (.cells (cs .u32 (List.replicate L 0)).toArray 105)) xs ys (List.replicate L 0) L 0 0 :=
  ⟨DB.new _ _ w _, eg_zeros L, by simp, fun j _ => dw_zeros_ L j, by rw [dw_zeros]; simp [dw], by omega, fun _ => rfl, bel_a w _⟩
theorem PlusW.step {w wr : World} {xs ys os : List Nat} {L k q : Nat} (h : PlusW w wr xs ys os L k q) (hx : Eg xs) (hy : Eg ys) (hL : L = max xs.length ys.length + 1) (hk : k < L) :
    PlusW w (wr.setCell ⟨w.heap.size, k, none⟩ (.int .u32 (sLo (dat xs k) (dat ys k) q : Int))) xs ys (os.set k (sLo (dat xs k) (dat ys k) q)) L (k + 1) (sCa (dat xs k) (dat ys k) q) := by
  have hX : dat xs k < 4294967296 := hx k
  have hY : dat ys k < 4294967296 := hy k
  have hq := h.ql
  refine ⟨h.db.set_ k _, eg_set h.eg k (eg_sLo _ _ _), by simp [h.len], zero_set h.zero, ?_, by unfold sCa; omega, fun he => ?_, bel_set h.bel (Nat.le_refl _) _ _⟩
  · rw [set_zero_val (by rw [h.len]; exact hk) h.zero, dw_take_succ, dw_take_succ, Nat.pow_succ]
    have hv := h.val
    have hd := Nat.div_add_mod (dat xs k + dat ys k + q) 4294967296
    unfold sLo sCa
    change _ = _ + 4294967296 ^ k * dat xs k + (_ + 4294967296 ^ k * dat ys k)
    generalize (dat xs k + dat ys k + q) / 4294967296 = a at *
    generalize (dat xs k + dat ys k + q) % 4294967296 = b at *
    generalize dat xs k = x at *
    generalize dat ys k = y at *
    generalize 4294967296 ^ k = P at *
    grind
  · have e1 : dat xs k = 0 := dat_beyond (by omega)
    have e2 : dat ys k = 0 := dat_beyond (by omega)
    rw [e1, e2]
    unfold sCa
    omega
theorem PlusW.fin {w wr : World} {xs ys os : List Nat} {L q : Nat} (h : PlusW w wr xs ys os L L q) (hL : L = max xs.length ys.length + 1) (hl : L ≤ 1000000) :
    DwE (dw xs + dw ys) L w (.returned (.slice (some ⟨w.heap.size, 0, none⟩) L L)) wr := by
  have hv := h.val
  rw [h.qk rfl, dw_take_all (by omega), dw_take_all (by omega)] at hv
  have ha := h.db.arr (by rw [h.len]; exact hl)
  rw [h.len] at ha
  exact ⟨_, os, rfl, ha, h.eg, by omega, Nat.le_of_eq h.len, h.bel⟩
def PlusH (w wr : World) (xs ys : List Nat) (L k q : Nat) : Prop := ∃ os, PlusW w wr xs ys os L k q
set_option maxHeartbeats 2000000 in
set_option maxRecDepth 100000 in
theorem plus32_any (v u : Value) (xs ys : List Nat) (w : World) (hv : Arr w .u32 v xs) (hu : Arr w .u32 u ys) (hx : Eg xs) (hy : Eg ys) (hxl : xs.length ≤ 100000) (hyl : ys.length ≤ 100000) :
    Calls Tryz.prog 93 #[v, u] w (DwE (dw xs + dw ys) (max xs.length ys.length + 1) w) := by
  obtain ⟨Av, cv, rfl⟩ := hv.slice
  obtain ⟨Au, cu, rfl⟩ := hu.slice
  obtain ⟨m, hm⟩ : ∃ m, m = xs.length := ⟨_, rfl⟩
  obtain ⟨n, hn⟩ : ∃ n, n = ys.length := ⟨_, rfl⟩
  rw [← hm] at hv hxl
  rw [← hn] at hu hyl
  have HV := Lib.hid hv
  have HU := Lib.hid hu
  have HX := Lib.hid hx
  have HY := Lib.hid hy
  obtain ⟨L, hL⟩ : ∃ L, L = max m n + 1 := ⟨_, rfl⟩
  have hcase : (n < m ∧ L = m + 1) ∨ (m < n ∧ L = n + 1) ∨ (n = m ∧ L = m + 1) := by omega
  have hLl : L ≤ 100001 := by omega
  have HS := Lib.hid (PlusW.start w xs ys L)
  rw [← hm, ← hn, ← hL]
  rw [hm, hn] at hL
  have HL := Lib.hid hL
  clear hL hm hn hv hu hx hy
  rcases hcase with ⟨hc, hL⟩ | ⟨hc, hL⟩ | ⟨rfl, hL⟩
  · have hmk := fun w => mk32 L (by omega) w (max (m : Int) (n : Int) + 1) (by omega)
    have HL2 := Lib.hid hL
    clear hL
    go_enter Tryz.func93, Tryz.ntmps93
    go_wp2_with fail
    go_loopw [6, 17] (fun c i wr => ∃ k q : Nat, i = .int .i64 (k : Int) ∧ c = .int .u32 (q : Int) ∧ k ≤ L ∧ PlusH w wr xs ys L k q) (fun _ i _ => L - (intOf i).toNat)
    case atStart => exact ⟨0, 0, rfl, rfl, Nat.zero_le _, _, HS.out⟩
    case round =>
      obtain ⟨k, q, rfl, rfl, hk, os, hr⟩ := hrel
      by_cases hgo : k < L
      · have HVr := Lib.hid (HV.out.bel hr.bel)
        have HUr := Lib.hid (HU.out.bel hr.bel)
        have hql := hr.ql
        have hXk : dat xs k < 4294967296 := HX.out k
        have hYk : dat ys k < 4294967296 := HY.out k
        have hfr := hr.db.fr k
        have hcell := hr.db.cell k (by rw [hr.len]; exact hgo)
        have HR := Lib.hid (hr.step HX.out HY.out HL.out hgo)
        clear hr
        go_wp2_with (first | (go_at_call 110; (with_reducible refine (at32_any (.slice Av m cv) xs k wr HVr.out).mono ?_); rintro e w' ⟨rfl, rfl⟩) | (go_at_call 110; (with_reducible refine (at32_any (.slice Au n cu) ys k wr HUr.out).mono ?_); rintro e w' ⟨rfl, rfl⟩) | (go_at_call 109; (with_reducible refine (add32_any (dat xs k) (dat ys k) q wr hXk hYk hql).mono ?_); rintro e w' ⟨rfl, rfl⟩))
        go_roundw
        case rel => exact ⟨k + 1, _, by simp, rfl, by omega, _, HR.out⟩
        case measure => simp [intOf]; omega
      · obtain rfl : k = L := by omega
        have HF := Lib.hid (hr.fin HL.out (by omega))
        clear hr
        go_wp2_with fail
        go_ret
        exact HF.out
  · have hmk := fun w => mk32 L (by omega) w (max (m : Int) (n : Int) + 1) (by omega)
    have HL2 := Lib.hid hL
    clear hL
    go_enter Tryz.func93, Tryz.ntmps93
    go_wp2_with fail
    go_loopw [6, 17] (fun c i wr => ∃ k q : Nat, i = .int .i64 (k : Int) ∧ c = .int .u32 (q : Int) ∧ k ≤ L ∧ PlusH w wr xs ys L k q) (fun _ i _ => L - (intOf i).toNat)
    case atStart => exact ⟨0, 0, rfl, rfl, Nat.zero_le _, _, HS.out⟩
    case round =>
      obtain ⟨k, q, rfl, rfl, hk, os, hr⟩ := hrel
      by_cases hgo : k < L
      · have HVr := Lib.hid (HV.out.bel hr.bel)
        have HUr := Lib.hid (HU.out.bel hr.bel)
        have hql := hr.ql
        have hXk : dat xs k < 4294967296 := HX.out k
        have hYk : dat ys k < 4294967296 := HY.out k
        have hfr := hr.db.fr k
        have hcell := hr.db.cell k (by rw [hr.len]; exact hgo)
        have HR := Lib.hid (hr.step HX.out HY.out HL.out hgo)
        clear hr
        go_wp2_with (first | (go_at_call 110; (with_reducible refine (at32_any (.slice Av m cv) xs k wr HVr.out).mono ?_); rintro e w' ⟨rfl, rfl⟩) | (go_at_call 110; (with_reducible refine (at32_any (.slice Au n cu) ys k wr HUr.out).mono ?_); rintro e w' ⟨rfl, rfl⟩) | (go_at_call 109; (with_reducible refine (add32_any (dat xs k) (dat ys k) q wr hXk hYk hql).mono ?_); rintro e w' ⟨rfl, rfl⟩))
        go_roundw
        case rel => exact ⟨k + 1, _, by simp, rfl, by omega, _, HR.out⟩
        case measure => simp [intOf]; omega
      · obtain rfl : k = L := by omega
        have HF := Lib.hid (hr.fin HL.out (by omega))
        clear hr
        go_wp2_with fail
        go_ret
        exact HF.out
  · have hmk := fun w => mk32 L (by omega) w ((n : Int) + 1) (by omega)
    have HL2 := Lib.hid hL
    clear hL
    go_enter Tryz.func93, Tryz.ntmps93
    go_wp2_with fail
    go_loopw [6, 17] (fun c i wr => ∃ k q : Nat, i = .int .i64 (k : Int) ∧ c = .int .u32 (q : Int) ∧ k ≤ L ∧ PlusH w wr xs ys L k q) (fun _ i _ => L - (intOf i).toNat)
    case atStart => exact ⟨0, 0, rfl, rfl, Nat.zero_le _, _, HS.out⟩
    case round =>
      obtain ⟨k, q, rfl, rfl, hk, os, hr⟩ := hrel
      by_cases hgo : k < L
      · have HVr := Lib.hid (HV.out.bel hr.bel)
        have HUr := Lib.hid (HU.out.bel hr.bel)
        have hql := hr.ql
        have hXk : dat xs k < 4294967296 := HX.out k
        have hYk : dat ys k < 4294967296 := HY.out k
        have hfr := hr.db.fr k
        have hcell := hr.db.cell k (by rw [hr.len]; exact hgo)
        have HR := Lib.hid (hr.step HX.out HY.out HL.out hgo)
        clear hr
        go_wp2_with (first | (go_at_call 110; (with_reducible refine (at32_any (.slice Av n cv) xs k wr HVr.out).mono ?_); rintro e w' ⟨rfl, rfl⟩) | (go_at_call 110; (with_reducible refine (at32_any (.slice Au n cu) ys k wr HUr.out).mono ?_); rintro e w' ⟨rfl, rfl⟩) | (go_at_call 109; (with_reducible refine (add32_any (dat xs k) (dat ys k) q wr hXk hYk hql).mono ?_); rintro e w' ⟨rfl, rfl⟩))
        go_roundw
        case rel => exact ⟨k + 1, _, by simp, rfl, by omega, _, HR.out⟩
        case measure => simp [intOf]; omega
      · obtain rfl : k = L := by omega
        have HF := Lib.hid (hr.fin HL.out (by omega))
        clear hr
        go_wp2_with fail
        go_ret
        exact HF.out
end Go.Proofs.YtpobhegllhhdgaaGreat

namespace Go.Proofs.YtpobhegllhhdgaaGreat
open Go.RowKit

structure MinW (w wr : World) (xs ys os : List Nat) (L k q : Nat) : Prop where
  db : DB .u32 105 wr w.heap.size os
  eg : Eg os
  len : os.length = L
  zero : ∀ j, k ≤ j → dat os j = 0
  val : dw os + dw (ys.take k) = dw (xs.take k) + q * 4294967296 ^ k
  ql : q ≤ 1
  bel : Below w.heap.size w wr
theorem MinW.start (w : World) (xs ys : List Nat) (L : Nat) : MinW w (w.alloc (.cells (cs .u32 (List.replicate L 0)).toArray 105)) xs ys (List.replicate L 0) L 0 0 :=
  ⟨DB.new _ _ w _, eg_zeros L, by simp, fun j _ => dw_zeros_ L j, by rw [dw_zeros]; simp [dw], by omega, bel_a w _⟩
theorem MinW.step {w wr W : World} {xs ys os : List Nat} {L k q : Nat} (h : MinW w wr xs ys os L k q) (hW : Below wr.heap.size wr W) (hx : Eg xs) (hy : Eg ys) (hk : k < L) :
    MinW w (W.setCell ⟨w.heap.size, k, none⟩ (.int .u32 (dLo (dat xs k) (dat ys k) q : Int))) xs ys (os.set k (dLo (dat xs k) (dat ys k) q)) L (k + 1) (dBo (dat xs k) (dat ys k) q) := by
  have hX : dat xs k < 4294967296 := hx k
  have hY : dat ys k < 4294967296 := hy k
  have hq := h.ql
  refine ⟨(h.db.bel hW).set_ k _, eg_set h.eg k (eg_dLo _ _ _), by simp [h.len], zero_set h.zero, ?_, by unfold dBo; split <;> omega, bel_set (bel_tr h.bel hW) (Nat.le_refl _) _ _⟩
  rw [set_zero_val (by rw [h.len]; exact hk) h.zero, dw_take_succ, dw_take_succ, Nat.pow_succ]
  have hv := h.val
  change _ + (_ + 4294967296 ^ k * dat ys k) = _ + 4294967296 ^ k * dat xs k + _
  have hd : dLo (dat xs k) (dat ys k) q + dat ys k + q = dat xs k + dBo (dat xs k) (dat ys k) q * 4294967296 := by
    unfold dLo dBo
    split <;> omega
  generalize dLo (dat xs k) (dat ys k) q = a at *
  generalize dBo (dat xs k) (dat ys k) q = b at *
  generalize dat xs k = x at *
  generalize dat ys k = y at *
  generalize 4294967296 ^ k = P at *
  grind
theorem MinW.drew {w wr : World} {xs ys os : List Nat} {L k q : Nat} (h : MinW w wr xs ys os L k q) : MinW w wr.drew xs ys os L k q :=
  ⟨h.db, h.eg, h.len, h.zero, h.val, h.ql, h.bel.drew⟩
theorem MinW.fin {w wr : World} {xs ys os : List Nat} {L q : Nat} (h : MinW w wr xs ys os L L q) (hx : Eg xs) (hy : Eg ys) (hL : L = xs.length) (hl : L ≤ 1000000) (hle : dw ys ≤ dw xs) :
    DwE (dw xs - dw ys) L w (.returned (.slice (some ⟨w.heap.size, 0, none⟩) L L)) wr := by
  have hv := h.val
  have ha := h.db.arr (by rw [h.len]; exact hl)
  rw [h.len] at ha
  subst hL
  exact ⟨_, os, rfl, ha, h.eg, minusw_end h.eg hx hy h.len h.ql hle hv, Nat.le_of_eq h.len, h.bel⟩
def MinH (w wr : World) (xs ys : List Nat) (L k q : Nat) : Prop := ∃ os, MinW w wr xs ys os L k q
set_option maxHeartbeats 2000000 in
set_option maxRecDepth 100000 in
theorem minus32_any (v u : Value) (xs ys : List Nat) (w : World) (hv : Arr w .u32 v xs) (hu : Arr w .u32 u ys) (hx : Eg xs) (hy : Eg ys) (hxl : xs.length ≤ 100000) (hle : dw ys ≤ dw xs) :
    Calls Tryz.prog 95 #[v, u] w (DwE (dw xs - dw ys) xs.length w) := by
  obtain ⟨Av, cv, rfl⟩ := hv.slice
  obtain ⟨Au, cu, rfl⟩ := hu.slice
  obtain ⟨m, hm⟩ : ∃ m, m = xs.length := ⟨_, rfl⟩
  obtain ⟨n, hn⟩ : ∃ n, n = ys.length := ⟨_, rfl⟩
  rw [← hm] at hv hxl
  rw [← hn] at hu
  have HV := Lib.hid hv
  have HU := Lib.hid hu
  have HX := Lib.hid hx
  have HY := Lib.hid hy
  have HLE := Lib.hid hle
  have HS := Lib.hid (MinW.start w xs ys m)
  have HM := Lib.hid hm
  rw [← hm, ← hn]
  clear hm hn hv hu hx hy hle
  have hmk := fun w => mk32 m (by omega) w (m : Int) rfl
  go_enter Tryz.func95, Tryz.ntmps95
  go_wp2_with fail
  go_loopw [6, 13] (fun c i wr => ∃ k q : Nat, i = .int .i64 (k : Int) ∧ c = .int .u32 (q : Int) ∧ k ≤ m ∧ MinH w wr xs ys m k q) (fun _ i _ => m - (intOf i).toNat)
  case atStart => exact ⟨0, 0, rfl, rfl, Nat.zero_le _, _, HS.out⟩
  case round =>
    obtain ⟨k, q, rfl, rfl, hk, os, hr⟩ := hrel
    by_cases hgo : k < m
    · have HVr := Lib.hid (HV.out.bel hr.bel)
      have HUr := Lib.hid (HU.out.bel hr.bel)
      have hql := hr.ql
      have hXk : dat xs k < 4294967296 := HX.out k
      have hYk : dat ys k < 4294967296 := HY.out k
      have hfr := hr.db.fr k
      have hcell := hr.db.cell k (by rw [hr.len]; exact hgo)
      obtain ⟨ad, rfl, _, hx1⟩ := HVr.out.get k (by rw [← HM.out]; exact hgo)
      have HR := Lib.hid hr
      clear hr
      go_wp2_with fail
      go_region_with (first
        | (go_at_call 110; (with_reducible refine (at32_any (.slice Au n cu) ys k _ HUr.out.drew).mono ?_); rintro e w1 ⟨rfl, rfl⟩)
        | (go_at_call 113; (with_reducible refine (sub32_any (dat xs k) (dat ys k) q _ hXk hYk hql).mono ?_); rintro e w1 ⟨rfl, rfl⟩))
      all_goals
        go_wp2_with fail
        exact ⟨⟨k + 1, _, by simp, rfl, by omega, _, (HR.out.step (Below.refl _ _) HX.out HY.out hgo).drew⟩, by simp [intOf]; omega⟩
    · obtain rfl : k = m := by omega
      have HF := Lib.hid (hr.fin HX.out HY.out HM.out (by omega) HLE.out)
      clear hr
      go_wp2_with fail
      go_ret
      exact HF.out
/-- -1, 0, 1: the first number is less, the same, greater. -/
def cmpI (a b : Int) : Int := if a < b then -1 else if b < a then 1 else 0
theorem cmpI_lt {a b : Int} (h : a < b) : cmpI a b = -1 := by simp [cmpI, h]
theorem cmpI_gt {a b : Int} (h : b < a) : cmpI a b = 1 := by
  have : ¬ a < b := by omega
  simp [cmpI, h, this]
theorem cmpI_eq {a b : Int} (h : a = b) : cmpI a b = 0 := by simp [cmpI, h]
theorem compareInt_eq (a b : Int) : Lib.compareInt a b = cmpI a b := by
  unfold Lib.compareInt cmpI
  rfl
end Go.Proofs.YtpobhegllhhdgaaGreat
