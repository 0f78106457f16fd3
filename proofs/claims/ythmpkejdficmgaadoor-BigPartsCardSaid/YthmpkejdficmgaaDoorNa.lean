/- Proved here: words for slices of digits and for the structs that hold them, as they lie in memory; what the two packages' trim and at answer. No condition but lists that lie in memory. -/
import Derived.Test.YthmpkejdficmgaaDoorRows
import Derived.Test.YthmpkejdficmgaaDoorMc
import Derived.WalkKit
import Derived.WalkSpells
import Derived.WalkLawsBesides
import Derived.Deep.DeepFit
import Derived.Deep.QuietTactic
import Derived.BigQuiet
import Derived.Lib.Hide
import Derived.Laws.OwnMore
namespace Go.Proofs.YthmpkejdficmgaaDoor
open Go.RowKit

theorem ret_int {k : IntKind} {a b : Int} (h : a = b) : Ending.returned (.int k a) = .returned (.int k b) := by rw [h]
theorem block_of_add (a : Addr) (n : Nat) : (a.add n).block = a.block := by unfold Addr.add; split <;> rfl
/-- Digits as they lie in cells. -/
def cs (k : IntKind) (xs : List Nat) : List Value := xs.map fun (d : Nat) => Value.int k (d : Int)
theorem cs_len (k : IntKind) (xs : List Nat) : (cs k xs).length = xs.length := by simp [cs]
theorem cs_snoc (k : IntKind) (xs : List Nat) (d : Nat) : cs k (xs ++ [d]) = cs k xs ++ [Value.int k (d : Int)] := by simp [cs]
theorem cs_get (k : IntKind) (xs : List Nat) (j : Nat) (h : j < xs.length) : (cs k xs)[j]? = some (.int k (dat xs j : Int)) := by
  simp [cs, dat, h]
/-- The slice v reads as the digits xs. -/
def Arr (w : World) (k : IntKind) (v : Value) (xs : List Nat) : Prop :=
  ∃ A c, v = .slice A xs.length c ∧ xs.length ≤ c ∧ c ≤ maxLen ∧ (A = none → c = 0) ∧
    ∀ ad, A = some ad → ad.block < w.heap.size ∧ ∀ j, j < xs.length → w.cell? (ad.add j) = some (.int k (dat xs j : Int))
section
variable {w w' : World} {k : IntKind} {v : Value} {xs : List Nat} {B : Nat}
theorem Arr.nil (w : World) (k : IntKind) : Arr w k (.slice none 0 0) [] := ⟨none, 0, rfl, Nat.le_refl _, Nat.zero_le _, fun _ => rfl, fun _ h => by cases h⟩
theorem Arr.keep (h : Arr w k v xs) (hc : ∀ p : Addr, p.block < w.heap.size → w'.cell? p = w.cell? p) (hs : w.heap.size ≤ w'.heap.size) : Arr w' k v xs := by
  obtain ⟨A, c, h1, h2, h3, h4, h5⟩ := h
  refine ⟨A, c, h1, h2, h3, h4, fun ad ha => ⟨Nat.lt_of_lt_of_le (h5 ad ha).1 hs, fun j hj => ?_⟩⟩
  rw [hc _ (by rw [block_of_add]; exact (h5 ad ha).1)]
  exact (h5 ad ha).2 j hj
theorem Arr.below (h : Arr w k v xs) (hb : Below B w w') (hB : w.heap.size ≤ B) : Arr w' k v xs :=
  h.keep (fun p hp => hb.cell (by omega)) hb.size
theorem Arr.bel (h : Arr w k v xs) (hb : Below w.heap.size w w') : Arr w' k v xs := h.below hb (Nat.le_refl _)
theorem Arr.drew (h : Arr w k v xs) : Arr w.drew k v xs := h
theorem Arr.drewN (h : Arr w k v xs) (n : Nat) : Arr (w.drewN n) k v xs := h
theorem Arr.slice (h : Arr w k v xs) : ∃ A c, v = .slice A xs.length c := by
  obtain ⟨A, c, h, _⟩ := h
  exact ⟨A, c, h⟩
theorem Arr.get {A : Option Addr} {m c : Nat} (h : Arr w k (.slice A m c) xs) (i : Nat) (hi : i < xs.length) : ∃ ad, A = some ad ∧ ad.block < w.heap.size ∧ w.cell? (ad.add i) = some (.int k (dat xs i : Int)) := by
  obtain ⟨A', c', h1, h2, h3, h4, h5⟩ := h
  injection h1 with e1 e2 e3
  subst e1 e3
  rcases A with _ | ad
  · have := h4 rfl
    omega
  · exact ⟨ad, rfl, (h5 ad rfl).1, (h5 ad rfl).2 i hi⟩
theorem Arr.cap {A : Option Addr} {m c : Nat} (h : Arr w k (.slice A m c) xs) : m = xs.length ∧ m ≤ c ∧ c ≤ maxLen := by
  obtain ⟨A', c', h1, h2, h3, h4, h5⟩ := h
  injection h1 with e1 e2 e3
  subst e1 e2 e3
  exact ⟨rfl, h2, h3⟩
theorem Arr.take {A : Option Addr} {m c n : Nat} (h : Arr w k (.slice A m c) xs) (hn : n ≤ xs.length) : Arr w k (.slice A n c) (xs.take n) := by
  obtain ⟨A', c', h1, h2, h3, h4, h5⟩ := h
  injection h1 with e1 e2 e3
  subst e1 e3
  have hl : (xs.take n).length = n := List.length_take_of_le hn
  refine ⟨A, c, by rw [hl], by omega, h3, h4, fun ad ha => ⟨(h5 ad ha).1, fun j hj => ?_⟩⟩
  rw [dat_take (by omega)]
  exact (h5 ad ha).2 j (by omega)
theorem Arr.of_own {b n : Nat} {e : TypeId} (h : w.ownsRow b e 1 v n (cs k xs)) : Arr w k v xs := by
  have hl := h.1
  rw [cs_len, Nat.mul_one] at hl
  rcases h.2 with ⟨h0, h1⟩ | ⟨g, cap, cur, hv, hg, hh, hc, hm, hcur, ht⟩
  · have : xs = [] := List.eq_nil_of_length_eq_zero (by omega)
    subst this
    rw [h0]
    exact Arr.nil w k
  · refine ⟨_, cap, by rw [hv, hl], by omega, hm, (fun h => by cases h), fun ad ha => ?_⟩
    injection ha with ha
    subst ha
    refine ⟨?_, fun j hj => ?_⟩
    · rcases Nat.lt_or_ge g w.heap.size with hlt | hge
      · exact hlt
      · rw [Array.getElem?_eq_none hge] at hh; cases hh
    · have e : Addr.add ⟨g, 0, none⟩ j = ⟨g, j, none⟩ := by unfold Addr.add; split <;> simp_all
      rw [e, cell_of_row w g j cur _ (0, 0) hh, ← cs_get k xs j hj, ← ht, List.getElem?_take, if_pos (by omega)]
      simp
end
theorem own_mono {w : World} {b b' : Nat} {e : TypeId} {s : Nat} {v : Value} {n : Nat} {xs : List Value} (h : w.ownsRow b e s v n xs) (hb : b' ≤ b) : w.ownsRow b' e s v n xs := by
  refine ⟨h.1, ?_⟩
  rcases h.2 with h0 | ⟨g, cap, cur, hv, hg, r⟩
  · exact .inl h0
  · exact .inr ⟨g, cap, cur, hv, Nat.le_trans hb hg, r⟩
theorem tl_zero {xs : List Nat} {n : Nat} (h : n ≤ xs.length) (h1 : ∀ j, n ≤ j → dat xs j = 0) (h2 : n = 0 ∨ dat xs (n - 1) ≠ 0) : Tl xs n := ⟨h, h1, h2⟩
/-- What holds at each round's head of trim. -/
def TrR (xs : List Nat) (m : Nat) (i : Value) : Prop := ∃ n : Nat, i = .int .i64 (n : Int) ∧ n ≤ m ∧ ∀ j, n ≤ j → dat xs j = 0
def TrE (xs : List Nat) (A : Option Addr) (c : Nat) (w : World) (e : Ending) (w' : World) : Prop := ∃ n, e = .returned (.slice A n c) ∧ Tl xs n ∧ w = w'
theorem mono_zero {xs : List Nat} {n : Nat} (h : ∀ j, n + 1 ≤ j → dat xs j = 0) (h0 : dat xs n = 0) : ∀ j, n ≤ j → dat xs j = 0 := fun j hj => by
  rcases Nat.lt_or_ge n j with h1 | h1
  · exact h j h1
  · obtain rfl : j = n := by omega
    exact h0
set_option maxHeartbeats 400000 in
theorem trim32_any (A : Option Addr) (m c : Nat) (xs : List Nat) (w : World) (h : Arr w .u32 (.slice A m c) xs) : Calls Tryd.prog 37 #[.slice A m c] w (TrE xs A c w) := by
  obtain ⟨hm, hmc, hcm⟩ := h.cap
  unfold maxLen at hcm
  have H := Lib.hid h
  have HM := Lib.hid hm
  clear h hm
  go_enter Tryd.func37, Tryd.ntmps37
  go_wp2_with fail
  go_loop [3] (fun i => TrR xs m i) (fun i => (intOf i).toNat)
  case atStart => exact ⟨m, rfl, Nat.le_refl _, fun j hj => dat_beyond (by rw [← HM.out]; exact hj)⟩
  case round =>
    obtain ⟨n, rfl, hn, hz⟩ := hrel
    have HZ := Lib.hid hz
    clear hz
    rcases n with _ | n
    · go_wp2_with fail
      go_ret
      exact ⟨0, rfl, tl_zero (Nat.zero_le _) HZ.out (.inl rfl), rfl⟩
    · obtain ⟨ad, rfl, _, hcell⟩ := H.out.get n (by rw [← HM.out]; omega)
      by_cases h0 : dat xs n = 0
      · rw [h0] at hcell
        have H0 := Lib.hid h0
        clear h0
        go_wp2_with fail
        go_round
        case rel => exact ⟨n, by congr 1, by omega, mono_zero HZ.out H0.out⟩
        case measure => simp [intOf]
      · have h1 : ((dat xs n : Int) == 0) = false := by simp; omega
        have h2 : ((dat xs n : Int) != 0) = true := by simp; omega
        go_wp2_with fail
        go_ret
        exact ⟨n + 1, rfl, tl_zero (by rw [← HM.out]; omega) HZ.out (.inr (by simpa using h0)), rfl⟩
set_option maxHeartbeats 400000 in
theorem trim16_any (A : Option Addr) (m c : Nat) (xs : List Nat) (w : World) (h : Arr w .u64 (.slice A m c) xs) : Calls Tryd.prog 61 #[.slice A m c] w (TrE xs A c w) := by
  obtain ⟨hm, hmc, hcm⟩ := h.cap
  unfold maxLen at hcm
  have H := Lib.hid h
  have HM := Lib.hid hm
  clear h hm
  go_enter Tryd.func61, Tryd.ntmps61
  go_wp2_with fail
  go_loop [3] (fun i => TrR xs m i) (fun i => (intOf i).toNat)
  case atStart => exact ⟨m, rfl, Nat.le_refl _, fun j hj => dat_beyond (by rw [← HM.out]; exact hj)⟩
  case round =>
    obtain ⟨n, rfl, hn, hz⟩ := hrel
    have HZ := Lib.hid hz
    clear hz
    rcases n with _ | n
    · go_wp2_with fail
      go_ret
      exact ⟨0, rfl, tl_zero (Nat.zero_le _) HZ.out (.inl rfl), rfl⟩
    · obtain ⟨ad, rfl, _, hcell⟩ := H.out.get n (by rw [← HM.out]; omega)
      by_cases h0 : dat xs n = 0
      · rw [h0] at hcell
        have H0 := Lib.hid h0
        clear h0
        go_wp2_with fail
        go_round
        case rel => exact ⟨n, by congr 1, by omega, mono_zero HZ.out H0.out⟩
        case measure => simp [intOf]
      · have h1 : ((dat xs n : Int) == 0) = false := by simp; omega
        have h2 : ((dat xs n : Int) != 0) = true := by simp; omega
        go_wp2_with fail
        go_ret
        exact ⟨n + 1, rfl, tl_zero (by rw [← HM.out]; omega) HZ.out (.inr (by simpa using h0)), rfl⟩
set_option maxHeartbeats 400000 in
theorem at32_any (v : Value) (xs : List Nat) (i : Nat) (w : World) (h : Arr w .u32 v xs) :
    Calls Tryd.prog 49 #[v, .int .i64 (i : Int)] w fun e w' => e = .returned (.int .u32 (dat xs i : Int)) ∧ w = w' := by
  obtain ⟨A, c, rfl⟩ := h.slice
  obtain ⟨hm, hmc, hcm⟩ := h.cap
  unfold maxLen at hcm
  obtain ⟨m, hM⟩ : ∃ m, m = xs.length := ⟨_, rfl⟩
  rw [← hM] at h hmc ⊢
  have HM := Lib.hid hM
  have H := Lib.hid h
  clear h hm hM
  by_cases hi : i < m
  · obtain ⟨ad, rfl, _, hcell⟩ := H.out.get i (by rw [← HM.out]; exact hi)
    go_enter Tryd.func49, Tryd.ntmps49
    go_wp2
    go_ret
    exact ⟨rfl, rfl⟩
  · have hz := Lib.hid (dat_beyond (xs := xs) (i := i) (by rw [← HM.out]; omega))
    go_enter Tryd.func49, Tryd.ntmps49
    go_wp2
    go_ret
    exact ⟨ret_int (by rw [hz.out]; rfl), rfl⟩
set_option maxHeartbeats 400000 in
theorem at16_any (v : Value) (xs : List Nat) (i : Nat) (w : World) (h : Arr w .u64 v xs) :
    Calls Tryd.prog 42 #[v, .int .i64 (i : Int)] w fun e w' => e = .returned (.int .u64 (dat xs i : Int)) ∧ w = w' := by
  obtain ⟨A, c, rfl⟩ := h.slice
  obtain ⟨hm, hmc, hcm⟩ := h.cap
  unfold maxLen at hcm
  obtain ⟨m, hM⟩ : ∃ m, m = xs.length := ⟨_, rfl⟩
  rw [← hM] at h hmc ⊢
  have HM := Lib.hid hM
  have H := Lib.hid h
  clear h hm hM
  by_cases hi : i < m
  · obtain ⟨ad, rfl, _, hcell⟩ := H.out.get i (by rw [← HM.out]; exact hi)
    go_enter Tryd.func42, Tryd.ntmps42
    go_wp2
    go_ret
    exact ⟨rfl, rfl⟩
  · have hz := Lib.hid (dat_beyond (xs := xs) (i := i) (by rw [← HM.out]; omega))
    go_enter Tryd.func42, Tryd.ntmps42
    go_wp2
    go_ret
    exact ⟨ret_int (by rw [hz.out]; rfl), rfl⟩
theorem at32_q (v : Value) (xs : List Nat) (i : Nat) (w : World) (h : Arr w .u32 v xs) :
    Calls Tryd.prog 49 #[v, .int .i64 (i : Int)] w fun e w' => e = .returned (.int .u32 (dat xs i : Int)) ∧ w' = w := (at32_any v xs i w h).mono fun _ _ h => ⟨h.1, h.2.symm⟩
theorem at16_q (v : Value) (xs : List Nat) (i : Nat) (w : World) (h : Arr w .u64 v xs) :
    Calls Tryd.prog 42 #[v, .int .i64 (i : Int)] w fun e w' => e = .returned (.int .u64 (dat xs i : Int)) ∧ w' = w := (at16_any v xs i w h).mono fun _ _ h => ⟨h.1, h.2.symm⟩
end Go.Proofs.YthmpkejdficmgaaDoor
