/- Proved here: how many tables a directory has, or the error, in the program. Condition: a text of at most a billion bytes · what a row of a directory is, in the program. Condition: the row is there; a text of at most a billion bytes · whether two tables have a byte together, in the program; lists of rows as they lie in memory. Condition: tables whose end is below 2^32. -/
import Derived.Test.YtfhaloclbbmbeaaGreatM04
namespace Go.Proofs.YtfhaloclbbmbeaaGreat
open Go.RowKit
theorem cutL_in {l : List UInt8} {a n : Nat} (h : a + n ≤ l.length) : cutL l (a : Int) (n : Int) = piece l a n ∧ cutE l (a : Int) (n : Int) = 0 := by
  have hh : Has l.length (a : Int) (n : Int) := ⟨by omega, by omega, by omega⟩
  unfold cutL cutE
  rw [if_pos hh, if_pos hh]
  exact ⟨rfl, rfl⟩
theorem cutL_out {l : List UInt8} {a n : Nat} (h : ¬ a + n ≤ l.length) : cutL l (a : Int) (n : Int) = [] ∧ cutE l (a : Int) (n : Int) = 3 := by
  have hh : ¬ Has l.length (a : Int) (n : Int) := fun ⟨_, _, h3⟩ => h (by omega)
  unfold cutL cutE
  rw [if_neg hh, if_neg hh]
  exact ⟨rfl, rfl⟩
theorem piece_zero (l : List UInt8) (n : Nat) : piece l 0 n = l.take n := by simp [piece]
theorem is_list (t : ByteArray) (x : List UInt8) : (t.toList == x) = decide (t.data.toList = x) := by
  rw [Lib.toList_data]
  by_cases h : t.data.toList = x <;> simp [h]
theorem is_text (t s : ByteArray) (x : List UInt8) (hs : s.data.toList = x) : (t.toList == s.toList) = decide (t.data.toList = x) := by
  rw [Lib.toList_data s, hs]
  exact is_list t x
def cN (l : List UInt8) : Nat := if cntE l = 0 then cntN l else 0
theorem cN_not {l : List UInt8} (h : cntE l ≠ 0) : cN l = 0 := by unfold cN; rw [if_neg h]
def badH (l : List UInt8) : Prop := piece l 0 4 ≠ [0, 1, 0, 0] ∧ piece l 0 4 ≠ [116, 114, 117, 101]
instance (l : List UInt8) : Decidable (badH l) := inferInstanceAs (Decidable (_ ∧ _))
structure HdF (D : ByteArray) (a b : Bool) : Prop where
  a1 : (D.toList == [0, 1, 0, 0]) = a
  a2 : (D.toList == ByteArray.toList ⟨#[0, 1, 0, 0]⟩) = a
  b1 : (D.toList == [116, 114, 117, 101]) = b
  b2 : (D.toList == ByteArray.toList ⟨#[116, 114, 117, 101]⟩) = b
theorem HdF.of {D : ByteArray} {l : List UInt8} (h : D.data.toList = piece l 0 4) : HdF D (decide (piece l 0 4 = [0, 1, 0, 0])) (decide (piece l 0 4 = [116, 114, 117, 101])) := by
  rw [← h]
  exact ⟨is_list _ _, is_text _ _ _ rfl, is_list _ _, is_text _ _ _ rfl⟩
theorem u16_same (s : ByteArray) (a : Nat) (w : World) (hs : s.size ≤ 1000000000) (ha : a + 2 ≤ s.size) :
    Calls Tryz.prog 131 #[.string s, .int .i64 (a : Int)] w fun e w' => e = .returned (.tuple #[.int .u16 (bv (piece s.data.toList a 2) 0 : Int), .int .i64 0]) ∧ w = w' := by
  have h := u16_any s (a : Int) w hs (by omega)
  have h2 := cutL_in (l := s.data.toList) (a := a) (n := 2) (by rw [size_list]; exact ha)
  rw [show ((2 : Nat) : Int) = 2 from rfl] at h2
  rw [h2.1, h2.2] at h
  exact h
set_option maxHeartbeats 4000000 in
theorem count_any (s : ByteArray) (w : World) (hs : s.size ≤ 1000000000) :
    Calls Tryz.prog 66 #[.string s] w fun e w' => e = .returned (.tuple #[.int .i64 (cN s.data.toList : Int), .int .i64 (cntE s.data.toList)]) ∧ Below w.heap.size w w' := by
  obtain ⟨z, hz⟩ : ∃ z, z = s.size := ⟨_, rfl⟩
  have hsz : s.size = z := hz.symm
  have hlz : s.data.toList.length = z := by rw [size_list, hz]
  rw [hsz] at hs
  by_cases h1 : 1048576 < z
  · have he : cntE s.data.toList = 6 := by unfold cntE; rw [hlz, if_pos h1]
    have HE := Lib.hid (And.intro he (cN_not (by rw [he]; decide)))
    have d1 : decide (1048576 < (z : Int)) = true := decide_eq_true (by omega)
    clear he hz hlz h1
    go_enter Tryz.func66, Tryz.ntmps66
    go_wp2_with fail
    go_ret2
    exact ⟨(by rw [HE.out.1, HE.out.2] <;> rfl), Below.refl _ _⟩
  have d1 : decide (1048576 < (z : Int)) = false := decide_eq_false (by omega)
  by_cases h2 : z < 12
  · have he : cntE s.data.toList = 3 := by unfold cntE; rw [hlz, if_neg h1, if_pos h2]
    have HE := Lib.hid (And.intro he (cN_not (by rw [he]; decide)))
    have d2 : decide ((z : Int) < 12) = true := decide_eq_true (by omega)
    clear he hz hlz h1 h2
    go_enter Tryz.func66, Tryz.ntmps66
    go_wp2_with fail
    go_ret2
    exact ⟨(by rw [HE.out.1, HE.out.2] <;> rfl), Below.refl _ _⟩
  have d2 : decide ((z : Int) < 12) = false := decide_eq_false (by omega)
  have hu := fun W => u16_same s 4 W (by omega) (by omega)
  have hn16 : cntN s.data.toList < 65536 := bv_le _ 2 (piece_len_le _ _ _)
  have hr1 := fun W => to_run s 4 (by omega) W
  rw [← piece_zero] at hr1
  have hr2 := fun W => sub_run s 4 12 (by omega) (by omega) (by omega) W
  rw [show (4 : Int).toNat = 4 from rfl, show ((12 : Int) - 4).toNat = 8 from rfl] at hr2
  obtain ⟨D, hD⟩ : ∃ D : ByteArray, D = ⟨(piece s.data.toList 0 4).toArray⟩ := ⟨_, rfl⟩
  have hH := HdF.of (D := D) (l := s.data.toList) (by rw [hD])
  rw [← hD] at hr1
  obtain ⟨n, hn⟩ : ∃ n, n = cntN s.data.toList := ⟨_, rfl⟩
  have hu : ∀ W, Calls Tryz.prog 131 #[.string s, .int .i64 4] W fun e w' => e = .returned (.tuple #[.int .u16 (n : Int), .int .i64 0]) ∧ W = w' := by rw [hn]; exact hu
  have r1 : ∀ W, (Instr.slice 9 (.string s) none (some (.int .i64 4)) none).run Tryz.prog W = .ok (.string D) W := hr1
  have HU := Lib.hid hu
  rw [← hn] at hn16
  have ew : wrap64 (n : Int) = (n : Int) := by unfold wrap64; omega
  have ew2 : IntKind.i64.wrap (n : Int) = (n : Int) := i64_in _ (by omega)
  by_cases h3 : badH s.data.toList ∨ n = 0
  · have he : cntE s.data.toList = 4 := by unfold cntE; rw [hlz, if_neg h1, if_neg h2, if_pos (by rw [← hn]; exact h3)]
    have HE := Lib.hid (And.intro he (cN_not (by rw [he]; decide)))
    by_cases h0 : n = 0
    · have e0 : ((n : Int) == 0) = true := by simp; omega
      rcases hb1 : decide (piece s.data.toList 0 4 = [0, 1, 0, 0]) with _ | _ <;> rcases hb2 : decide (piece s.data.toList 0 4 = [116, 114, 117, 101]) with _ | _ <;> rw [hb1, hb2] at hH <;> obtain ⟨a1, a2, b1, b2⟩ := hH
      all_goals
        clear he hz hlz h1 h2 h3 h0 hr1 hr2 hD hu hn hn16 hb1 hb2
        go_enter Tryz.func66, Tryz.ntmps66
        go_wp2_with (go_at_call 131; (with_reducible refine (HU.out _).mono ?_); rintro e w' ⟨rfl, rfl⟩)
        go_ret2
        exact ⟨(by rw [HE.out.1, HE.out.2] <;> rfl), Below.refl _ _⟩
    · have hb : badH s.data.toList := h3.resolve_right h0
      rw [decide_eq_false hb.1, decide_eq_false hb.2] at hH
      obtain ⟨a1, a2, b1, b2⟩ := hH
      clear he hz hlz h1 h2 h3 h0 hr1 hr2 hD hu hn hn16 hb
      go_enter Tryz.func66, Tryz.ntmps66
      go_wp2_with (go_at_call 131; (with_reducible refine (HU.out _).mono ?_); rintro e w' ⟨rfl, rfl⟩)
      go_ret2
      exact ⟨(by rw [HE.out.1, HE.out.2] <;> rfl), Below.refl _ _⟩
  have h0 : n ≠ 0 := fun h => h3 (.inr h)
  have e0 : ((n : Int) == 0) = false := by simp; omega
  have hgood : (piece s.data.toList 0 4 = [0, 1, 0, 0]) ∨ (¬ piece s.data.toList 0 4 = [0, 1, 0, 0] ∧ piece s.data.toList 0 4 = [116, 114, 117, 101]) := by
    by_cases h7 : piece s.data.toList 0 4 = [0, 1, 0, 0]
    · exact .inl h7
    · by_cases h8 : piece s.data.toList 0 4 = [116, 114, 117, 101]
      · exact .inr ⟨h7, h8⟩
      · exact absurd (.inl ⟨h7, h8⟩) h3
  have hga : ∃ a b, HdF D a b ∧ (a = true ∨ (a = false ∧ b = true)) := by
    rcases hgood with h | ⟨h, h'⟩
    · rw [decide_eq_true h] at hH; exact ⟨true, _, hH, .inl rfl⟩
    · rw [decide_eq_false h, decide_eq_true h'] at hH; exact ⟨false, true, hH, .inr ⟨rfl, rfl⟩⟩
  obtain ⟨ba, bb, hH, hab⟩ := hga
  have HEg := Lib.hid (show cntE s.data.toList = if 64 < n then 6 else if piece s.data.toList 4 8 ≠ nums n then 4 else if z < 12 + 16 * n then 3 else 0 by
    unfold cntE; rw [hlz, if_neg h1, if_neg h2, if_neg (by rw [← hn]; exact h3), ← hn])
  have HN := Lib.hid hn
  obtain ⟨a1, a2, b1, b2⟩ := hH
  by_cases h6 : 64 < n
  · have he : cntE s.data.toList = 6 := by rw [HEg.out, if_pos h6]
    have HE := Lib.hid (And.intro he (cN_not (by rw [he]; decide)))
    have d6 : 64 < n := h6
    rcases hab with rfl | ⟨rfl, rfl⟩
    all_goals
      clear he hz hlz h1 h2 h3 h0 hr1 hr2 hD hu hn hn16 hgood
      go_enter Tryz.func66, Tryz.ntmps66
      go_wp2_with (go_at_call 131; (with_reducible refine (HU.out _).mono ?_); rintro e w' ⟨rfl, rfl⟩)
      go_ret2
      exact ⟨(by rw [HE.out.1, HE.out.2] <;> rfl), Below.refl _ _⟩
  have d6 : ¬ 64 < n := h6
  obtain ⟨E, hEE⟩ : ∃ D : ByteArray, D = ⟨(piece s.data.toList 4 8).toArray⟩ := ⟨_, rfl⟩
  rw [← hEE] at hr2
  have HNU := Lib.hid (fun W => numbers_any n W (by omega) (by omega))
  obtain ⟨M, hM⟩ : ∃ D : ByteArray, D = ⟨(nums n).toArray⟩ := ⟨_, rfl⟩
  rw [← hM] at HNU
  have heq := is_text E M (nums n) (by rw [hM])
  rw [show E.data.toList = piece s.data.toList 4 8 by rw [hEE]] at heq
  by_cases h5 : piece s.data.toList 4 8 = nums n
  · rw [decide_eq_true h5] at heq
    have w1 : IntKind.i64.wrap ((n : Int) * 16) = (n : Int) * 16 := i64_in _ (by omega)
    have w2 : IntKind.i64.wrap (12 + (n : Int) * 16) = 12 + (n : Int) * 16 := i64_in _ (by omega)
    by_cases h4 : z < 12 + 16 * n
    · have he : cntE s.data.toList = 3 := by rw [HEg.out, if_neg h6, if_neg (by simp [h5]), if_pos h4]
      have HE := Lib.hid (And.intro he (cN_not (by rw [he]; decide)))
      have d4 : decide ((z : Int) < 12 + (n : Int) * 16) = true := decide_eq_true (by omega)
      rcases hab with rfl | ⟨rfl, rfl⟩
      all_goals
        clear he hz hlz h1 h2 h3 h0 hr1 hD hu hn hgood hEE hM h5 h4 h6
        have B0 := Lib.hid (Below.refl w.heap.size w)
        go_enter Tryz.func66, Tryz.ntmps66
        go_upto_region 11 with (go_at_call 131; (with_reducible refine (HU.out _).mono ?_); rintro e w' ⟨rfl, rfl⟩)
        go_region_held3 (fun _ => True) (trivial) (first | (go_at_call 110; (with_reducible refine (HNU.out _).mono ?_); rintro e w1 ⟨rfl, hb⟩; have B1 := Lib.hid (B0.out.drew.trans hb); clear hb))
        all_goals
          go_wp2_with fail
          go_ret2
          exact ⟨(by rw [HE.out.1, HE.out.2] <;> rfl), B1.out⟩
    · have he : cntE s.data.toList = 0 := by rw [HEg.out, if_neg h6, if_neg (by simp [h5]), if_neg h4]
      have hn0 : cN s.data.toList = n := by unfold cN; rw [if_pos he, hn]
      have HE := Lib.hid (And.intro he hn0)
      have d4 : decide ((z : Int) < 12 + (n : Int) * 16) = false := decide_eq_false (by omega)
      rcases hab with rfl | ⟨rfl, rfl⟩
      all_goals
        clear he hn0 hz hlz h1 h2 h3 h0 hr1 hD hu hn hgood hEE hM h5 h4 h6
        have B0 := Lib.hid (Below.refl w.heap.size w)
        go_enter Tryz.func66, Tryz.ntmps66
        go_upto_region 11 with (go_at_call 131; (with_reducible refine (HU.out _).mono ?_); rintro e w' ⟨rfl, rfl⟩)
        go_region_held3 (fun _ => True) (trivial) (first | (go_at_call 110; (with_reducible refine (HNU.out _).mono ?_); rintro e w1 ⟨rfl, hb⟩; have B1 := Lib.hid (B0.out.drew.trans hb); clear hb))
        all_goals
          go_wp2_with fail
          go_ret2
          exact ⟨(by rw [HE.out.1, HE.out.2] <;> rfl), B1.out⟩
  · rw [decide_eq_false h5] at heq
    have he : cntE s.data.toList = 4 := by rw [HEg.out, if_neg h6, if_pos h5]
    have HE := Lib.hid (And.intro he (cN_not (by rw [he]; decide)))
    rcases hab with rfl | ⟨rfl, rfl⟩
    all_goals
      clear he hz hlz h1 h2 h3 h0 hr1 hD hu hn hgood hEE hM h5 h6
      have B0 := Lib.hid (Below.refl w.heap.size w)
      go_enter Tryz.func66, Tryz.ntmps66
      go_upto_region 11 with (go_at_call 131; (with_reducible refine (HU.out _).mono ?_); rintro e w' ⟨rfl, rfl⟩)
      go_region_held3 (fun _ => True) (trivial) (first | (go_at_call 110; (with_reducible refine (HNU.out _).mono ?_); rintro e w1 ⟨rfl, hb⟩; have B1 := Lib.hid (B0.out.drew.trans hb); clear hb))
      all_goals
        go_wp2_with fail
        go_ret2
        exact ⟨(by rw [HE.out.1, HE.out.2] <;> rfl), B1.out⟩
end Go.Proofs.YtfhaloclbbmbeaaGreat
namespace Go.Proofs.YtfhaloclbbmbeaaGreat
open Go.RowKit
def Rb (w : World) (g : Nat) (x : ByteArray) (a b c : Nat) : Prop := w.heap[g]? = some (.cells #[.string x, .int .u32 (a : Int), .int .u32 (b : Int), .int .u32 (c : Int)] 134 (0, 0))
section
variable {w w' : World} {g : Nat} {x : ByteArray} {a b c : Nat}
theorem Rb.lt (h : Rb w g x a b c) : g < w.heap.size := heap_lt h
theorem Rb.c0 (h : Rb w g x a b c) : w.cell? ⟨g, 0, none⟩ = some (.string x) := cell_of_row w g 0 _ 134 (0, 0) h
theorem Rb.c1 (h : Rb w g x a b c) : w.cell? ⟨g, 1, none⟩ = some (.int .u32 (a : Int)) := cell_of_row w g 1 _ 134 (0, 0) h
theorem Rb.c2 (h : Rb w g x a b c) : w.cell? ⟨g, 2, none⟩ = some (.int .u32 (b : Int)) := cell_of_row w g 2 _ 134 (0, 0) h
theorem Rb.c3 (h : Rb w g x a b c) : w.cell? ⟨g, 3, none⟩ = some (.int .u32 (c : Int)) := cell_of_row w g 3 _ 134 (0, 0) h
theorem Rb.fr (h : Rb w g x a b c) (j : Nat) : w.frozen? ⟨g, j, none⟩ = false := by
  unfold Rb at h
  simp [World.frozen?, h]
theorem Rb.of (h : Rb w g x a b c) (hb : w'.heap[g]? = w.heap[g]?) : Rb w' g x a b c := hb.trans h
theorem Rb.bel (h : Rb w g x a b c) (hb : Below w.heap.size w w') : Rb w' g x a b c := h.of (hb.block g h.lt)
theorem Rb.onl {k : Nat} (h : Rb w g x a b c) (hb : Onl k w w') (hk : g ≠ k) : Rb w' g x a b c := h.of (hb.block g h.lt hk)
theorem Rb.drewN (h : Rb w g x a b c) (n : Nat) : Rb (w.drewN n) g x a b c := h
theorem Rb.set0 (h : Rb w g x a b c) (y : ByteArray) : Rb (w.setCell ⟨g, 0, none⟩ (.string y)) g y a b c := by
  unfold Rb at h ⊢; simp [World.setCell, Array.getElem?_modify, h]
theorem Rb.set1 (h : Rb w g x a b c) (n : Nat) : Rb (w.setCell ⟨g, 1, none⟩ (.int .u32 (n : Int))) g x n b c := by
  unfold Rb at h ⊢; simp [World.setCell, Array.getElem?_modify, h]
theorem Rb.set2 (h : Rb w g x a b c) (n : Nat) : Rb (w.setCell ⟨g, 2, none⟩ (.int .u32 (n : Int))) g x a n c := by
  unfold Rb at h ⊢; simp [World.setCell, Array.getElem?_modify, h]
theorem Rb.set3 (h : Rb w g x a b c) (n : Nat) : Rb (w.setCell ⟨g, 3, none⟩ (.int .u32 (n : Int))) g x a b n := by
  unfold Rb at h ⊢; simp [World.setCell, Array.getElem?_modify, h]
theorem Rb.far (h : Rb w g x a b c) {k j : Nat} {u : Value} (hk : g ≠ k) : Rb (w.setCell ⟨k, j, none⟩ u) g x a b c := h.of (Below.heap_setCell w ⟨k, j, none⟩ u g hk)
theorem Rb.cells (h : Rb w g x a b c) : w.cell? ⟨g, 0, none⟩ = some (.string x) ∧ w.cell? ⟨g, 1, none⟩ = some (.int .u32 (a : Int)) ∧ w.cell? ⟨g, 2, none⟩ = some (.int .u32 (b : Int)) ∧ w.cell? ⟨g, 3, none⟩ = some (.int .u32 (c : Int)) := ⟨h.c0, h.c1, h.c2, h.c3⟩
theorem Rb.frs (h : Rb w g x a b c) : w.frozen? ⟨g, 0, none⟩ = false ∧ w.frozen? ⟨g, 1, none⟩ = false ∧ w.frozen? ⟨g, 2, none⟩ = false ∧ w.frozen? ⟨g, 3, none⟩ = false := ⟨h.fr 0, h.fr 1, h.fr 2, h.fr 3⟩
end
theorem Rd.far {T : TypeId} {w : World} {g : Nat} {s : ByteArray} {a : Nat} {f : Bool} (h : Rd T w g s a f) {k j : Nat} {u : Value} (hk : g ≠ k) : Rd T (w.setCell ⟨k, j, none⟩ u) g s a f := (Below.heap_setCell w ⟨k, j, none⟩ u g hk).trans h
theorem ret_row {fn : Func} {p : Tmp} {tmps : Array Value} {W : World} {g : Nat} {x : ByteArray} {a b c : Nat} (h : fn.results = #[.cell p 134]) (hp : tmps.getD p undef = .pointer (some ⟨g, 0, none⟩)) (hb : Rb W g x a b c) :
    (results fn tmps).run Tryz.prog W = .ok (.agg #[.string x, .int .u32 (a : Int), .int .u32 (b : Int), .int .u32 (c : Int)]) W := by
  have hc0 := hb.c0
  have hc1 := hb.c1
  have hc2 := hb.c2
  have hc3 := hb.c3
  rw [Array.getD_eq_getD_getElem?] at hp
  simp [results, h, hp, go_sem, hc0, hc1, hc2, hc3]
structure RS (w W : World) (b0 g b9 : Nat) (s : ByteArray) (a : Nat) (x : ByteArray) (n1 n2 n3 : Nat) : Prop where
  bel : Below w.heap.size w W
  o0 : w.heap.size ≤ b0
  og : w.heap.size ≤ g
  o9 : w.heap.size ≤ b9
  n0g : b0 ≠ g
  n09 : b0 ≠ b9
  n9g : b9 ≠ g
  res : Rb W b0 ⟨#[]⟩ 0 0 0
  rd : Rd 278 W g s a false
  box : Rb W b9 x n1 n2 n3
theorem RS.pass {w W W' : World} {b0 g b9 : Nat} {s : ByteArray} {a : Nat} {x : ByteArray} {n1 n2 n3 : Nat} (h : RS w W b0 g b9 s a x n1 n2 n3) (hp : PsE 278 g s a false 4 W W') (ha : a + 4 ≤ s.size) : RS w W' b0 g b9 s (a + 4) x n1 n2 n3 := by
  have e1 : okR s.size a false 4 = true := by unfold okR; simp only [Bool.not_false, Bool.true_and]; exact decide_eq_true ⟨by omega, by omega, by omega⟩
  obtain ⟨h1, h2⟩ := hp
  unfold nxA at h1
  rw [if_pos e1, e1] at h1
  exact ⟨h.bel.trans (h2.below h.og h.bel.size), h.o0, h.og, h.o9, h.n0g, h.n09, h.n9g, h.res.onl h2 h.n0g, h1, h.box.onl h2 h.n9g⟩
section
variable {w W : World} {b0 g b9 : Nat} {s : ByteArray} {a : Nat} {x : ByteArray} {n1 n2 n3 : Nat}
theorem RS.put1 (h : RS w W b0 g b9 s a x n1 n2 n3) (n : Nat) : RS w (W.setCell ⟨b9, 1, none⟩ (.int .u32 (n : Int))) b0 g b9 s a x n n2 n3 :=
  ⟨h.bel.setCell h.o9 _, h.o0, h.og, h.o9, h.n0g, h.n09, h.n9g, h.res.far h.n09, h.rd.far h.n9g.symm, h.box.set1 n⟩
theorem RS.put2 (h : RS w W b0 g b9 s a x n1 n2 n3) (n : Nat) : RS w (W.setCell ⟨b9, 2, none⟩ (.int .u32 (n : Int))) b0 g b9 s a x n1 n n3 :=
  ⟨h.bel.setCell h.o9 _, h.o0, h.og, h.o9, h.n0g, h.n09, h.n9g, h.res.far h.n09, h.rd.far h.n9g.symm, h.box.set2 n⟩
theorem RS.put3 (h : RS w W b0 g b9 s a x n1 n2 n3) (n : Nat) : RS w (W.setCell ⟨b9, 3, none⟩ (.int .u32 (n : Int))) b0 g b9 s a x n1 n2 n :=
  ⟨h.bel.setCell h.o9 _, h.o0, h.og, h.o9, h.n0g, h.n09, h.n9g, h.res.far h.n09, h.rd.far h.n9g.symm, h.box.set3 n⟩
end
structure RS0 (w W : World) (b0 g : Nat) (s : ByteArray) (a : Nat) : Prop where
  bel : Below w.heap.size w W
  o0 : w.heap.size ≤ b0
  og : w.heap.size ≤ g
  n0g : b0 ≠ g
  res : Rb W b0 ⟨#[]⟩ 0 0 0
  rd : Rd 278 W g s a false
theorem RS0.box {w W : World} {b0 g : Nat} {s : ByteArray} {a : Nat} (h : RS0 w W b0 g s a) (x : ByteArray) : RS w (W.alloc (.cells #[.string x, .int .u32 0, .int .u32 0, .int .u32 0] 134)) b0 g W.heap.size s a x 0 0 0 := by
  have hb : Below W.heap.size W (W.alloc (.cells #[.string x, .int .u32 0, .int .u32 0, .int .u32 0] 134)) := (Below.refl _ _).alloc (Nat.le_refl _) _
  exact ⟨h.bel.trans (hb.mono h.bel.size), h.o0, h.og, h.bel.size, h.n0g, Nat.ne_of_lt h.res.lt, (Nat.ne_of_lt h.rd.lt).symm, h.res.bel hb, h.rd.bel hb, heap_alloc_new W _⟩
theorem RS0.skip {w W W' : World} {b0 g : Nat} {s : ByteArray} {n : Nat} (h : RS0 w W b0 g s 0) (hp : PsE 278 g s 0 false (n : Int) W W') (hn : n ≤ s.size) : RS0 w W' b0 g s n := by
  have e1 : okR s.size 0 false (n : Int) = true := by unfold okR; simp only [Bool.not_false, Bool.true_and]; exact decide_eq_true ⟨by omega, by omega, by omega⟩
  obtain ⟨h1, h2⟩ := hp
  unfold nxA at h1
  rw [if_pos e1, e1, Nat.zero_add, Int.toNat_natCast] at h1
  exact ⟨h.bel.trans (h2.below h.og h.bel.size), h.o0, h.og, h.n0g, h.res.onl h2 h.n0g, h1⟩
theorem outR_in {s : ByteArray} {a : Nat} (ha : a + 4 ≤ s.size) : outR s.data.toList a false 4 = piece s.data.toList a 4 := by
  unfold outR
  have e1 : okR s.data.toList.length a false 4 = true := by unfold okR; rw [size_list]; simp only [Bool.not_false, Bool.true_and]; exact decide_eq_true ⟨by omega, by omega, by omega⟩
  rw [if_pos e1]
  rfl
theorem rs_num {w W : World} {b0 g b9 : Nat} {s : ByteArray} {a : Nat} {x : ByteArray} {n1 n2 n3 : Nat} (h : RS w W b0 g b9 s a x n1 n2 n3) (hs : s.size ≤ 1000000000) (ha : a + 4 ≤ s.size) :
    Calls Tryz.prog 135 #[.pointer (some ⟨g, 0, none⟩)] W fun e w' => e = .returned (.int .u32 (bv (piece s.data.toList a 4) 0 : Int)) ∧ RS w w' b0 g b9 s (a + 4) x n1 n2 n3 :=
  (rdu32_any g s a false W h.rd hs (by omega)).mono fun e w' ⟨h1, h2⟩ => ⟨by rw [h1, outR_in ha], h.pass h2 ha⟩
set_option maxHeartbeats 4000000 in
theorem read_any (s : ByteArray) (i : Nat) (w : World) (hs : s.size ≤ 1000000000) (hi : 12 + 16 * (i + 1) ≤ s.size) :
    Calls Tryz.prog 67 #[.string s, .int .i64 (i : Int)] w fun e w' => e = .returned (.agg #[.string ⟨(rowOf s.data.toList i).tag.toArray⟩, .int .u32 ((rowOf s.data.toList i).sum : Int), .int .u32 ((rowOf s.data.toList i).place : Int), .int .u32 ((rowOf s.data.toList i).size : Int)]) ∧ Below w.heap.size w w' := by
  obtain ⟨f, hf⟩ : ∃ f, f = 12 + 16 * i := ⟨_, rfl⟩
  have hcut := fun W => cut_any s (f : Int) 4 W hs (by omega)
  have hc2 := cutL_in (l := s.data.toList) (a := f) (n := 4) (by rw [size_list]; omega)
  rw [show ((4 : Nat) : Int) = 4 from rfl] at hc2
  rw [hc2.1, hc2.2] at hcut
  obtain ⟨X, hX⟩ : ∃ X : ByteArray, X = ⟨(piece s.data.toList f 4).toArray⟩ := ⟨_, rfl⟩
  rw [← hX] at hcut
  have w1 : IntKind.i64.wrap ((i : Int) * 16) = (i : Int) * 16 := i64_in _ (by omega)
  have w2 : IntKind.i64.wrap (12 + (i : Int) * 16) = (f : Int) := by rw [i64_in _ (by omega)]; omega
  have w2' : wrap64 (12 + wrap64 ((i : Int) * 16)) = (f : Int) := by unfold wrap64; omega
  obtain ⟨f4, hf4⟩ : ∃ f4, f4 = f + 4 := ⟨_, rfl⟩
  have w3 : (f : Int) + 4 = (f4 : Int) := by omega
  have w4 : wrap64 (f4 : Int) = (f4 : Int) := by unfold wrap64; omega
  have HC := Lib.hid hcut
  have HN := Lib.hid (fun W => new_any s W)
  have HS := Lib.hid hs
  have HR := Lib.hid (show rowOf s.data.toList i = ⟨piece s.data.toList f 4, bv (piece s.data.toList f4 4) 0, bv (piece s.data.toList (f4 + 4) 4) 0, bv (piece s.data.toList (f4 + 4 + 4) 4) 0⟩ by rw [hf4, hf]; rfl)
  have HL := Lib.hid (show f4 + 4 + 4 + 4 ≤ s.size by omega)
  have HX := Lib.hid hX
  clear hf hcut hc2 hX hs hi hf4
  go_enter Tryz.func67, Tryz.ntmps67
  go_upto_region 2 with fail
  obtain ⟨b0, hb0⟩ : ∃ b, b = w.heap.size := ⟨_, rfl⟩
  obtain ⟨W0, hW0⟩ : ∃ W, W = w.alloc (.cells #[.string ⟨#[]⟩, .int .u32 0, .int .u32 0, .int .u32 0] 134) := ⟨_, rfl⟩
  have K0 := Lib.hid (show Below w.heap.size w W0 ∧ Rb W0 b0 ⟨#[]⟩ 0 0 0 from by rw [hW0, hb0]; exact ⟨(Below.refl _ _).alloc (Nat.le_refl _) _, heap_alloc_new w _⟩)
  have O0 := Lib.hid (show w.heap.size ≤ b0 by omega)
  rw [← hb0, ← hW0]
  clear hb0 hW0
  go_upto_region 5 with (first
    | (go_at_call 132; (with_reducible refine (HC.out _).mono ?_); rintro e w1 ⟨rfl, hb⟩; have K1 := Lib.hid (And.intro (K0.out.1.trans (hb.mono K0.out.1.size)) (K0.out.2.bel hb)); clear hb)
    | (go_at_call 133; (with_reducible refine (HN.out _).mono ?_); rintro e w2 ⟨rfl, hb, hr, _⟩; have K2 := Lib.hid (show RS0 w w2 b0 w1.heap.size s 0 from ⟨K1.out.1.trans (hb.mono K1.out.1.size), O0.out, K1.out.1.size, Nat.ne_of_lt K1.out.2.lt, K1.out.2.bel hb, hr⟩); clear hb hr)
    | (go_at_call 134; (with_reducible refine (skip_any _ _ _ _ _ _ K2.out.rd HS.out (Nat.zero_le _)).mono ?_); rintro e w3 ⟨rfl, hp⟩; have K3 := Lib.hid (K2.out.skip hp (by have := HL.out; omega)); clear hp))
  obtain ⟨g, hg⟩ : ∃ g, g = w1.heap.size := ⟨_, rfl⟩
  rw [← hg] at K3 ⊢
  clear hg K2 K1 K0
  go_upto_region 6 with fail
  have K4 := Lib.hid (K3.out.box X)
  obtain ⟨b9, hb9⟩ : ∃ b, b = w3.heap.size := ⟨_, rfl⟩
  obtain ⟨W4, hW4⟩ : ∃ W, W = w3.alloc (.cells #[.string X, .int .u32 0, .int .u32 0, .int .u32 0] 134) := ⟨_, rfl⟩
  rw [← hb9, ← hW4] at K4 ⊢
  clear hb9 hW4 K3
  obtain ⟨v1, hv1⟩ : ∃ v, v = bv (piece s.data.toList f4 4) 0 := ⟨_, rfl⟩
  obtain ⟨v2, hv2⟩ : ∃ v, v = bv (piece s.data.toList (f4 + 4) 4) 0 := ⟨_, rfl⟩
  obtain ⟨v3, hv3⟩ : ∃ v, v = bv (piece s.data.toList (f4 + 4 + 4) 4) 0 := ⟨_, rfl⟩
  have N1 := Lib.hid (fun W n1 n2 n3 (h : RS w W b0 g b9 s f4 X n1 n2 n3) => rs_num h HS.out (by have := HL.out; omega))
  have N2 := Lib.hid (fun W n1 n2 n3 (h : RS w W b0 g b9 s (f4 + 4) X n1 n2 n3) => rs_num h HS.out (by have := HL.out; omega))
  have N3 := Lib.hid (fun W n1 n2 n3 (h : RS w W b0 g b9 s (f4 + 4 + 4) X n1 n2 n3) => rs_num h HS.out (by have := HL.out; omega))
  rw [← hv1] at N1 HR
  rw [← hv2] at N2 HR
  rw [← hv3] at N3 HR
  clear hv1 hv2 hv3
  go_upto_region 7 with (go_at_call 135; (with_reducible refine (N1.out _ _ _ _ K4.out).mono ?_); rintro e w5 ⟨rfl, hr⟩; have K5 := Lib.hid hr; obtain ⟨r0, r1, r2, r3⟩ := hr.box.frs; obtain ⟨d0, d1, d2, d3⟩ := hr.box.cells; clear hr)
  have K6 := Lib.hid (K5.out.put1 v1)
  obtain ⟨W6, hW6⟩ : ∃ W, W = w5.setCell ⟨b9, 1, none⟩ (.int .u32 (v1 : Int)) := ⟨_, rfl⟩
  rw [← hW6] at K6 ⊢
  clear hW6 K4 K5 r0 r1 r2 r3 d0 d1 d2 d3
  go_upto_region 8 with (go_at_call 135; (with_reducible refine (N2.out _ _ _ _ K6.out).mono ?_); rintro e w7 ⟨rfl, hr⟩; have K7 := Lib.hid hr; obtain ⟨r0, r1, r2, r3⟩ := hr.box.frs; obtain ⟨d0, d1, d2, d3⟩ := hr.box.cells; clear hr)
  have K8 := Lib.hid (K7.out.put2 v2)
  obtain ⟨W8, hW8⟩ : ∃ W, W = w7.setCell ⟨b9, 2, none⟩ (.int .u32 (v2 : Int)) := ⟨_, rfl⟩
  rw [← hW8] at K8 ⊢
  clear hW8 K6 K7 r0 r1 r2 r3 d0 d1 d2 d3
  go_upto_region 9 with (go_at_call 135; (with_reducible refine (N3.out _ _ _ _ K8.out).mono ?_); rintro e w9 ⟨rfl, hr⟩; have K9 := Lib.hid hr; obtain ⟨r0, r1, r2, r3⟩ := hr.box.frs; obtain ⟨d0, d1, d2, d3⟩ := hr.box.cells; clear hr)
  have K10 := Lib.hid (K9.out.put3 v3)
  obtain ⟨W10, hW10⟩ : ∃ W, W = w9.setCell ⟨b9, 3, none⟩ (.int .u32 (v3 : Int)) := ⟨_, rfl⟩
  rw [← hW10] at K10 ⊢
  clear hW10 K8 K9 r0 r1 r2 r3 d0 d1 d2 d3
  obtain ⟨c0, c1, c2, c3⟩ := K10.out.box.cells
  obtain ⟨r0, r1, r2, r3⟩ := K10.out.res.frs
  obtain ⟨d0, d1, d2, d3⟩ := K10.out.res.cells
  go_wp2_with fail
  refine bodyPost_ret (ret_row rfl rfl (((((K10.out.res.set0 X).set1 v1).set2 v2).set3 v3))) rfl ?_
  rw [HR.out]
  refine ⟨by rw [HX.out], ((((K10.out.bel.setCell K10.out.o0 _).setCell K10.out.o0 _).setCell K10.out.o0 _).setCell K10.out.o0 _)⟩
end Go.Proofs.YtfhaloclbbmbeaaGreat
namespace Go.Proofs.YtfhaloclbbmbeaaGreat
open Go.RowKit
set_option maxHeartbeats 2000000 in
theorem meet_any (x1 x2 : ByteArray) (s1 s2 p1 p2 n1 n2 : Nat) (w : World) (h1 : p1 + n1 < 4294967296) (h2 : p2 + n2 < 4294967296) :
    Calls Tryz.prog 137 #[.agg #[.string x1, .int .u32 (s1 : Int), .int .u32 (p1 : Int), .int .u32 (n1 : Int)], .agg #[.string x2, .int .u32 (s2 : Int), .int .u32 (p2 : Int), .int .u32 (n2 : Int)]] w fun e w' => e = .returned (.bool (decide (max p1 p2 < min (p1 + n1) (p2 + n2)))) ∧ Below w.heap.size w w' := by
  have w1 : IntKind.u32.wrap ((p1 : Int) + (n1 : Int)) = ((p1 + n1 : Nat) : Int) := by rw [IntKind.wrap_u32]; omega
  have w2 : IntKind.u32.wrap ((p2 : Int) + (n2 : Int)) = ((p2 + n2 : Nat) : Int) := by rw [IntKind.wrap_u32]; omega
  obtain ⟨a, ha⟩ : ∃ a, a = p1 + n1 := ⟨_, rfl⟩
  obtain ⟨b, hb⟩ : ∃ b, b = p2 + n2 := ⟨_, rfl⟩
  rw [← ha] at w1 ⊢
  rw [← hb] at w2 ⊢
  obtain ⟨x, hx⟩ : ∃ x, x = max p1 p2 := ⟨_, rfl⟩
  obtain ⟨y, hy⟩ : ∃ y, y = min a b := ⟨_, rfl⟩
  have m1 : max (p1 : Int) (p2 : Int) = (x : Int) := by omega
  have m2 : min (a : Int) (b : Int) = (y : Int) := by omega
  rw [← hx, ← hy]
  have HB := Lib.hid (fun (o o2 : Obj) => ((Below.refl w.heap.size w).alloc (Nat.le_refl _) o).alloc (by simp) o2)
  clear ha hb hx hy h1 h2
  by_cases hd : x < y
  · rw [decide_eq_true hd]
    go_enter Tryz.func137, Tryz.ntmps137
    go_wp2_with fail
    go_ret
    exact ⟨rfl, HB.out _ _⟩
  · rw [decide_eq_false hd]
    go_enter Tryz.func137, Tryz.ntmps137
    go_wp2_with fail
    go_ret
    exact ⟨rfl, HB.out _ _⟩
structure Al (w : World) (A : Option Addr) (m : Nat) (R : List Row) : Prop where
  len : R.length = m
  get : ∀ i (hi : i < m), ∃ ad, A = some ad ∧ ad.block < w.heap.size ∧ w.cell? (ad.add (i * 4)) = some (.string ⟨((R[i]'(by omega)).tag).toArray⟩) ∧ w.cell? (ad.add (i * 4 + 1)) = some (.int .u32 ((R[i]'(by omega)).sum : Int)) ∧
    w.cell? (ad.add (i * 4 + 2)) = some (.int .u32 ((R[i]'(by omega)).place : Int)) ∧ w.cell? (ad.add (i * 4 + 3)) = some (.int .u32 ((R[i]'(by omega)).size : Int))
theorem Al.bel {w w' : World} {A : Option Addr} {m : Nat} {R : List Row} (h : Al w A m R) (hb : Below w.heap.size w w') : Al w' A m R :=
  ⟨h.len, fun i hi => by
    obtain ⟨ad, h1, h2, h3, h4, h5, h6⟩ := h.get i hi
    have e : ∀ j, w'.cell? (ad.add j) = w.cell? (ad.add j) := fun j => hb.cell (by rw [block_of_add]; exact h2)
    exact ⟨ad, h1, Nat.lt_of_lt_of_le h2 hb.size, (e _).trans h3, (e _).trans h4, (e _).trans h5, (e _).trans h6⟩⟩
theorem add_two (a : Addr) (n j : Nat) : (⟨(a.add n).block, (a.add n).off + j, none⟩ : Addr) = if n + j = 0 then ⟨a.block, a.off, none⟩ else a.add (n + j) := by
  unfold Addr.add
  split
  · next h => subst h; split <;> simp_all
  · split
    · omega
    · simp [Nat.add_assoc]
theorem Al.at_ {w : World} {A : Option Addr} {m : Nat} {R : List Row} (h : Al w A m R) {W : World} (hb : Below w.heap.size w W) {i : Nat} (hi : i < m) :
    ∃ ad, A = some ad ∧ W.cell? (ad.add (i * 4)) = some (.string ⟨((R[i]'(by have := h.len; omega)).tag).toArray⟩) ∧ W.cell? { block := (ad.add (i * 4)).block, off := (ad.add (i * 4)).off + 1 } = some (.int .u32 ((R[i]'(by have := h.len; omega)).sum : Int)) ∧
      W.cell? { block := (ad.add (i * 4)).block, off := (ad.add (i * 4)).off + 2 } = some (.int .u32 ((R[i]'(by have := h.len; omega)).place : Int)) ∧ W.cell? { block := (ad.add (i * 4)).block, off := (ad.add (i * 4)).off + 3 } = some (.int .u32 ((R[i]'(by have := h.len; omega)).size : Int)) := by
  obtain ⟨ad, h1, h2, h3, h4, h5, h6⟩ := h.get i hi
  have e : ∀ j, W.cell? (ad.add j) = w.cell? (ad.add j) := fun j => hb.cell (by rw [block_of_add]; exact h2)
  refine ⟨ad, h1, (e _).trans h3, ?_, ?_, ?_⟩
  · rw [add_two, if_neg (by omega)]; exact (e _).trans h4
  · rw [add_two, if_neg (by omega)]; exact (e _).trans h5
  · rw [add_two, if_neg (by omega)]; exact (e _).trans h6
theorem total_q (t d : ByteArray) (w : World) (hs : d.data.toList.length ≤ 1000000) : Calls Tryz.prog 111 #[.string t, .string d] w fun e w' => e = .returned (.int .u32 (total t.data.toList d.data.toList : Int)) ∧ ∃ q, w' = w.drewN q :=
  (total_any t d w hs).mono fun _ _ ⟨q, h1, h2⟩ => ⟨h1, q, h2⟩
theorem behind_snoc (t : List UInt8) (R : List Row) (h : 0 < R.length) : behind t R = bLe t (R[R.length - 1]'(by omega)).tag := by
  unfold behind
  rw [List.getLast?_eq_getElem?, List.getElem?_eq_getElem (by omega)]
end Go.Proofs.YtfhaloclbbmbeaaGreat
