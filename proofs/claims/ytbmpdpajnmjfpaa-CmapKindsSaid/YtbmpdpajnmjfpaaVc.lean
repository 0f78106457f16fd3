/- Proved here: what readSegment and glyph answer. Condition: a text of at most a billion bytes that has the segment's numbers. -/
import Derived.Test.YtbmpdpajnmjfpaaVb
namespace Go.Proofs.Ytbmpdpajnmjfpaa
open Go.RowKit

/-- A segment's box. -/
def Bs (w : World) (g : Nat) (x y z u v : Int) : Prop := w.heap[g]? = some (.cells #[.int .i64 x, .int .i64 y, .int .i64 z, .int .i64 u, .int .i64 v] 96 (0, 0))
section
variable {w w' : World} {g : Nat} {x y z u v : Int}
theorem Bs.lt (h : Bs w g x y z u v) : g < w.heap.size := heap_lt h
theorem Bs.bel (h : Bs w g x y z u v) (hb : Below w.heap.size w w') : Bs w' g x y z u v := (hb.block g h.lt).trans h
theorem Bs.cells (h : Bs w g x y z u v) : w.cell? ⟨g, 0, none⟩ = some (.int .i64 x) ∧ w.cell? ⟨g, 1, none⟩ = some (.int .i64 y) ∧ w.cell? ⟨g, 2, none⟩ = some (.int .i64 z) ∧ w.cell? ⟨g, 3, none⟩ = some (.int .i64 u) ∧ w.cell? ⟨g, 4, none⟩ = some (.int .i64 v) :=
  ⟨cell_of_row w g 0 _ 96 (0, 0) h, cell_of_row w g 1 _ 96 (0, 0) h, cell_of_row w g 2 _ 96 (0, 0) h, cell_of_row w g 3 _ 96 (0, 0) h, cell_of_row w g 4 _ 96 (0, 0) h⟩
end
theorem Bs.put {W : World} {b : Nat} {c0 c1 c2 c3 c4 : Value} (h : W.heap[b]? = some (.cells #[c0, c1, c2, c3, c4] 96 (0, 0))) (x y z u v : Int) : Bs (((((W.setCell ⟨b, 0, none⟩ (.int .i64 x)).setCell ⟨b, 1, none⟩ (.int .i64 y)).setCell ⟨b, 2, none⟩ (.int .i64 z)).setCell ⟨b, 3, none⟩ (.int .i64 u)).setCell ⟨b, 4, none⟩ (.int .i64 v)) b x y z u v := by
  unfold Bs; simp [World.setCell, Array.getElem?_modify, h]
theorem ret_seg {fn : Func} {p : Tmp} {tmps : Array Value} {W : World} {g : Nat} {x y z u v : Int} (h : fn.results = #[.cell p 96]) (hp : tmps.getD p undef = .pointer (some ⟨g, 0, none⟩)) (hb : Bs W g x y z u v) :
    (results fn tmps).run Try.prog W = .ok (.agg #[.int .i64 x, .int .i64 y, .int .i64 z, .int .i64 u, .int .i64 v]) W := by
  obtain ⟨hc0, hc1, hc2, hc3, hc4⟩ := hb.cells
  rw [Array.getD_eq_getD_getElem?] at hp
  simp [results, h, hp, go_sem, hc0, hc1, hc2, hc3, hc4]
set_option maxHeartbeats 4000000 in
set_option maxRecDepth 100000 in
theorem readSegment_any (s : ByteArray) (n i : Nat) (w : World) (hs : s.size ≤ 1000000000) (hn : n ≤ 8192) (hi : i < n) (hl : 16 + 8 * n ≤ s.size) :
    Calls Try.prog 46 #[.string s, .int .i64 (n : Int), .int .i64 (i : Int)] w fun e w' => e = .returned (.agg #[.int .i64 (sF s.data.toList n i : Int), .int .i64 (sT s.data.toList i : Int), .int .i64 (sD s.data.toList n i : Int), .int .i64 (sJ s.data.toList n i : Int), .int .i64 (sAt n i : Int)]) ∧ Below w.heap.size w w' := by
  have C1 := Lib.hid (show ∀ (z : Int) W, z = ((14 + 2 * i + 2 * n + 2 : Nat) : Int) → Calls Try.prog 45 #[.string s, .int .i64 z] W fun e w' => e = .returned (.int .i64 (sF s.data.toList n i : Int)) ∧ W = w' from fun z W hz => by rw [hz]; exact number_any s _ W hs (by omega))
  have C2 := Lib.hid (show ∀ (z : Int) W, z = ((14 + 2 * i : Nat) : Int) → Calls Try.prog 45 #[.string s, .int .i64 z] W fun e w' => e = .returned (.int .i64 (sT s.data.toList i : Int)) ∧ W = w' from fun z W hz => by rw [hz]; exact number_any s _ W hs (by omega))
  have C3 := Lib.hid (show ∀ (z : Int) W, z = ((14 + 2 * i + 2 * n + 2 + 2 * n : Nat) : Int) → Calls Try.prog 45 #[.string s, .int .i64 z] W fun e w' => e = .returned (.int .i64 (sD s.data.toList n i : Int)) ∧ W = w' from fun z W hz => by rw [hz]; exact number_any s _ W hs (by omega))
  have C4 := Lib.hid (show ∀ (z : Int) W, z = ((14 + 2 * i + 2 * n + 2 + 2 * n + 2 * n : Nat) : Int) → Calls Try.prog 45 #[.string s, .int .i64 z] W fun e w' => e = .returned (.int .i64 (sJ s.data.toList n i : Int)) ∧ W = w' from fun z W hz => by rw [hz]; exact number_any s _ W hs (by omega))
  obtain ⟨x1, h1⟩ : ∃ x, x = sF s.data.toList n i := ⟨_, rfl⟩
  obtain ⟨x2, h2⟩ : ∃ x, x = sT s.data.toList i := ⟨_, rfl⟩
  obtain ⟨x3, h3⟩ : ∃ x, x = sD s.data.toList n i := ⟨_, rfl⟩
  obtain ⟨x4, h4⟩ : ∃ x, x = sJ s.data.toList n i := ⟨_, rfl⟩
  have hat : sAt n i = 14 + 2 * i + 2 * n + 2 + 2 * n + 2 * n := rfl
  obtain ⟨x5, h5⟩ : ∃ x, x = sAt n i := ⟨_, rfl⟩
  rw [← h1] at C1 ⊢
  rw [← h2] at C2 ⊢
  rw [← h3] at C3 ⊢
  rw [← h4] at C4 ⊢
  rw [← h5] at hat ⊢
  have HAT := Lib.hid hat
  have HB := Lib.hid ((Below.refl w.heap.size w).alloc (Nat.le_refl _) (.cells #[.int .i64 0, .int .i64 0, .int .i64 0, .int .i64 0, .int .i64 0] 96))
  have hbox := heap_alloc_new w (.cells #[.int .i64 0, .int .i64 0, .int .i64 0, .int .i64 0, .int .i64 0] 96)
  have e5 : IntKind.i64.wrap (2 * (i : Int)) = 2 * (i : Int) := i64_in _ (by omega)
  have e6 : IntKind.i64.wrap (14 + 2 * (i : Int)) = 14 + 2 * (i : Int) := i64_in _ (by omega)
  have e7 : IntKind.i64.wrap (2 * (n : Int)) = 2 * (n : Int) := i64_in _ (by omega)
  clear h1 h2 h3 h4 h5 hs hl hat
  go_enter Try.func46, Try.ntmps46
  go_upto_region 1 with fail
  obtain ⟨b, hb⟩ : ∃ b, b = w.heap.size := ⟨_, rfl⟩
  obtain ⟨W0, hW0⟩ : ∃ W, W = w.alloc (.cells #[.int .i64 0, .int .i64 0, .int .i64 0, .int .i64 0, .int .i64 0] 96) := ⟨_, rfl⟩
  rw [← hW0] at HB hbox ⊢
  rw [← hb] at hbox ⊢
  have HBX := Lib.hid (And.intro hbox (show w.heap.size ≤ b by omega))
  have d0 := cell_of_row W0 b 0 _ 96 (0, 0) hbox
  have d1 := cell_of_row W0 b 1 _ 96 (0, 0) hbox
  have d2 := cell_of_row W0 b 2 _ 96 (0, 0) hbox
  have d3 := cell_of_row W0 b 3 _ 96 (0, 0) hbox
  have d4 := cell_of_row W0 b 4 _ 96 (0, 0) hbox
  have r0 : ∀ j, W0.frozen? ⟨b, j, none⟩ = false := fun j => by simp [World.frozen?, hbox]
  have r1 := r0 0
  have r2 := r0 1
  have r3 := r0 2
  have r4 := r0 3
  have r5 := r0 4
  clear hb hW0 hbox r0
  go_wp2_with (first
    | (go_at_call 45; (with_reducible refine (C1.out _ _ (by omega)).mono ?_); rintro e w' ⟨rfl, rfl⟩)
    | (go_at_call 45; (with_reducible refine (C2.out _ _ (by omega)).mono ?_); rintro e w' ⟨rfl, rfl⟩)
    | (go_at_call 45; (with_reducible refine (C3.out _ _ (by omega)).mono ?_); rintro e w' ⟨rfl, rfl⟩)
    | (go_at_call 45; (with_reducible refine (C4.out _ _ (by omega)).mono ?_); rintro e w' ⟨rfl, rfl⟩))
  refine bodyPost_ret (ret_seg rfl rfl (Bs.put HBX.out.1 _ _ _ _ _)) rfl ?_
  have hx5 : (x5 : Int) = 14 + 2 * (i : Int) + 2 * (n : Int) + 2 + 2 * (n : Int) + 2 * (n : Int) := by have := HAT.out; omega
  rw [hx5]
  exact ⟨rfl, ((((HB.out.setCell HBX.out.2 _).setCell HBX.out.2 _).setCell HBX.out.2 _).setCell HBX.out.2 _).setCell HBX.out.2 _⟩
/-- The place of a code point's glyph, and what stands there. -/
theorem u16_place (s : ByteArray) (p : Nat) (w : World) (hs : s.size ≤ 1000000000) (hp : p < 5000000000) : Calls Try.prog 58 #[.string s, .int .i64 (p : Int)] w fun e w' => e = .returned (.tuple #[.int .u16 ((if s.size < p + 2 then 0 else n2 s.data.toList p : Nat) : Int), .int .i64 (if s.size < p + 2 then 3 else 0)]) ∧ w = w' := by
  have h := u16_any s (p : Int) w hs (by omega)
  by_cases hlt : s.size < p + 2
  · rw [if_pos hlt, if_pos hlt]
    have h2 : ¬ Has s.data.toList.length (p : Int) 2 := by rw [size_list]; rintro ⟨_, _, h3⟩; omega
    unfold cutL cutE at h
    rw [if_neg h2, if_neg h2] at h
    exact h
  · rw [if_neg hlt, if_neg hlt]
    have h2 := cutL_in (l := s.data.toList) (a := p) (n := 2) (by rw [size_list]; omega)
    rw [show ((2 : Nat) : Int) = 2 from rfl] at h2
    rw [h2.1, h2.2] at h
    exact h
theorem mod_tail (a b : Nat) (ha : a < 4294967296) (hb : b < 65536) : ((a : Int) + (b : Int)).tmod 65536 = (((a + b) % 65536 : Nat) : Int) := by
  rw [Int.tmod_eq_emod_of_nonneg (by omega)]; omega
set_option maxHeartbeats 4000000 in
set_option maxRecDepth 100000 in
theorem glyph_any (s : ByteArray) (F T D J at_ c : Nat) (w : World) (hs : s.size ≤ 1000000000) (hF : F ≤ c) (hc : c < 65536) (hD : D < 65536) (hJ : J < 65536) (ha : at_ < 1000000) :
    Calls Try.prog 59 #[.agg #[.int .i64 (F : Int), .int .i64 (T : Int), .int .i64 (D : Int), .int .i64 (J : Int), .int .i64 (at_ : Int)], .string s, .int .i64 (c : Int)] w fun e w' => e = .returned (.tuple #[.int .i64 (gly s.data.toList F D J at_ c).1, .int .i64 (gly s.data.toList F D J at_ c).2]) ∧ Below w.heap.size w w' := by
  have HB := Lib.hid ((Below.refl w.heap.size w).alloc (Nat.le_refl _) (.cells #[.int .i64 (F : Int), .int .i64 (T : Int), .int .i64 (D : Int), .int .i64 (J : Int), .int .i64 (at_ : Int)] 96))
  have hbox := heap_alloc_new w (.cells #[.int .i64 (F : Int), .int .i64 (T : Int), .int .i64 (D : Int), .int .i64 (J : Int), .int .i64 (at_ : Int)] 96)
  obtain ⟨b, hb⟩ : ∃ b, b = w.heap.size := ⟨_, rfl⟩
  obtain ⟨W0, hW0⟩ : ∃ W, W = w.alloc (.cells #[.int .i64 (F : Int), .int .i64 (T : Int), .int .i64 (D : Int), .int .i64 (J : Int), .int .i64 (at_ : Int)] 96) := ⟨_, rfl⟩
  rw [← hW0] at HB
  rw [← hW0, ← hb] at hbox
  have HW := Lib.hid (And.intro hb hW0)
  obtain ⟨d0, d1, d2, d3, d4⟩ := Bs.cells (show Bs W0 b F T D J at_ from hbox)
  clear hb hW0 hbox
  unfold gly
  rw [size_list]
  by_cases hJ0 : J = 0
  · rw [if_pos hJ0]
    have g0 : ((J : Int) == 0) = true := by simp [hJ0]
    clear hJ0
    have e1 : IntKind.i64.wrap ((c : Int) + (D : Int)) = (c : Int) + (D : Int) := i64_in _ (by omega)
    have e2 := mod_tail c D (by omega) hD
    obtain ⟨r, hr⟩ : ∃ r, r = (c + D) % 65536 := ⟨_, rfl⟩
    rw [← hr] at e2 ⊢
    have e3 : IntKind.i64.wrap (r : Int) = (r : Int) := i64_in _ (by omega)
    clear hr
    go_enter Try.func59, Try.ntmps59
    go_upto_region 1 with fail
    rw [← HW.out.1, ← HW.out.2]
    go_wp2_with fail
    go_ret2
    exact ⟨rfl, HB.out⟩
  · rw [if_neg hJ0]
    have g0 : ((J : Int) == 0) = false := by simp; omega
    obtain ⟨p, hp⟩ : ∃ p, p = at_ + J + 2 * (c - F) := ⟨_, rfl⟩
    rw [← hp]
    have C := Lib.hid (show ∀ (z : Int) W, z = (p : Int) → Calls Try.prog 58 #[.string s, .int .i64 z] W fun e w' => e = .returned (.tuple #[.int .u16 ((if s.size < p + 2 then 0 else n2 s.data.toList p : Nat) : Int), .int .i64 (if s.size < p + 2 then 3 else 0)]) ∧ W = w' from fun z W hz => by rw [hz]; exact u16_place s p W hs (by omega))
    have hpp : (at_ : Int) + (J : Int) + 2 * ((c : Int) - (F : Int)) = (p : Int) := by omega
    have HPP := Lib.hid hpp
    have e1 : IntKind.i64.wrap ((at_ : Int) + (J : Int)) = (at_ : Int) + (J : Int) := i64_in _ (by omega)
    have e2 : IntKind.i64.wrap ((c : Int) - (F : Int)) = (c : Int) - (F : Int) := i64_in _ (by omega)
    have e3 : IntKind.i64.wrap (2 * ((c : Int) - (F : Int))) = 2 * ((c : Int) - (F : Int)) := i64_in _ (by omega)
    have e4 : IntKind.i64.wrap ((at_ : Int) + (J : Int) + 2 * ((c : Int) - (F : Int))) = (p : Int) := by rw [hpp]; exact i64_in _ (by omega)
    by_cases hlt : s.size < p + 2
    · rw [if_pos hlt, if_pos hlt] at C
      rw [if_pos hlt]
      clear hJ0 hp hpp hlt
      go_enter Try.func59, Try.ntmps59
      go_upto_region 1 with fail
      rw [← HW.out.1, ← HW.out.2]
      go_wp2_with (go_at_call 58; (with_reducible refine (C.out _ _ (by have := HPP.out; omega)).mono ?_); rintro e w' ⟨rfl, rfl⟩)
      go_ret2
      exact ⟨rfl, HB.out⟩
    · rw [if_neg hlt, if_neg hlt] at C
      rw [if_neg hlt]
      have hx := n2_lt s.data.toList p
      obtain ⟨x, hxx⟩ : ∃ x, x = n2 s.data.toList p := ⟨_, rfl⟩
      rw [← hxx] at C hx ⊢
      by_cases hx0 : x = 0
      · rw [if_pos hx0]
        have g1 : ((x : Int) == 0) = true := by simp; omega
        clear hJ0 hp hpp hlt hxx hx0
        go_enter Try.func59, Try.ntmps59
        go_upto_region 1 with fail
        rw [← HW.out.1, ← HW.out.2]
        go_wp2_with (go_at_call 58; (with_reducible refine (C.out _ _ (by have := HPP.out; omega)).mono ?_); rintro e w' ⟨rfl, rfl⟩)
        go_ret2
        exact ⟨rfl, HB.out⟩
      · rw [if_neg hx0]
        have g1 : ((x : Int) == 0) = false := by simp; omega
        have e5 : IntKind.i64.wrap ((x : Int) + (D : Int)) = (x : Int) + (D : Int) := i64_in _ (by omega)
        have e6 := mod_tail x D (by omega) hD
        obtain ⟨r, hr⟩ : ∃ r, r = (x + D) % 65536 := ⟨_, rfl⟩
        rw [← hr] at e6 ⊢
        have e7 : IntKind.i64.wrap (r : Int) = (r : Int) := i64_in _ (by omega)
        have e8 : IntKind.i64.wrap (x : Int) = (x : Int) := i64_in _ (by omega)
        clear hJ0 hp hpp hlt hxx hx0 hr
        go_enter Try.func59, Try.ntmps59
        go_upto_region 1 with fail
        rw [← HW.out.1, ← HW.out.2]
        go_wp2_with (go_at_call 58; (with_reducible refine (C.out _ _ (by have := HPP.out; omega)).mono ?_); rintro e w' ⟨rfl, rfl⟩)
        go_ret2
        exact ⟨rfl, HB.out⟩
end Go.Proofs.Ytbmpdpajnmjfpaa
