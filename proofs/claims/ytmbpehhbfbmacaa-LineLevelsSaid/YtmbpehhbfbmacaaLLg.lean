/- Proved here: the level of a root of a fraction (the document's Of). Condition: halves of 64 bits. -/
import Derived.Test.YtmbpehhbfbmacaaLLf
namespace Go.Proofs.Ytmbpehhbfbmacaa
open Go.RowKit

/-- Two numbers of two halves in boxes, one after the other. -/
structure OfS (w W : World) (sh sl bh bl : Int) : Prop where
  bel : Below w.heap.size w W
  h0 : W.heap[w.heap.size]? = some (.cells #[.int .u64 sh, .int .u64 sl] 37 (0, 0))
  h1 : W.heap[w.heap.size + 1]? = some (.cells #[.int .u64 bh, .int .u64 bl] 37 (0, 0))
section
variable {w W W' : World} {sh sl bh bl : Int}
theorem OfS.next (h : OfS w W sh sl bh bl) (hb : Below W.heap.size W W') : OfS w W' sh sl bh bl := ⟨h.bel.trans (hb.mono h.bel.size), (hb.block _ (heap_lt h.h0)).trans h.h0, (hb.block _ (heap_lt h.h1)).trans h.h1⟩
theorem OfS.drew (h : OfS w W sh sl bh bl) : OfS w W.drew sh sl bh bl := h.next (Below.drew (Below.refl _ _))
theorem OfS.cells (h : OfS w W sh sl bh bl) : W.cell? ⟨w.heap.size, 0, none⟩ = some (.int .u64 sh) ∧ W.cell? ⟨w.heap.size, 1, none⟩ = some (.int .u64 sl) ∧ W.cell? ⟨w.heap.size + 1, 0, none⟩ = some (.int .u64 bh) ∧ W.cell? ⟨w.heap.size + 1, 1, none⟩ = some (.int .u64 bl) :=
  ⟨cell_of_row W _ 0 _ 37 (0, 0) h.h0, cell_of_row W _ 1 _ 37 (0, 0) h.h0, cell_of_row W _ 0 _ 37 (0, 0) h.h1, cell_of_row W _ 1 _ 37 (0, 0) h.h1⟩
end
theorem OfS.new (w : World) (sh sl bh bl : Int) : OfS w ((w.alloc (.cells #[.int .u64 sh, .int .u64 sl] 37)).alloc (.cells #[.int .u64 bh, .int .u64 bl] 37)) sh sl bh bl := by
  obtain ⟨w1, e1⟩ : ∃ W, W = w.alloc (.cells #[.int .u64 sh, .int .u64 sl] 37) := ⟨_, rfl⟩
  have s1 : w1.heap.size = w.heap.size + 1 := by rw [e1]; simp
  have g0 : w1.heap[w.heap.size]? = some (.cells #[.int .u64 sh, .int .u64 sl] 37 (0, 0)) := by rw [e1]; exact heap_alloc_new w _
  have b1 : Below w.heap.size w w1 := by rw [e1]; exact (Below.refl _ _).alloc (Nat.le_refl _) _
  have b2 : Below w1.heap.size w1 (w1.alloc (.cells #[.int .u64 bh, .int .u64 bl] 37)) := (Below.refl _ _).alloc (Nat.le_refl _) _
  rw [← e1]
  refine ⟨b1.trans (b2.mono (by omega)), (b2.block _ (heap_lt g0)).trans g0, ?_⟩
  rw [← s1]
  exact heap_alloc_new w1 _
/-- What Of answers: a level, and 0, 1 or 13. -/
def ofA (sh sl bh bl : Nat) (r n : Int) : Int × Int := if riP r n then (if bh = 0 ∧ bl = 0 then (0, 13) else ((lev (numW sh sl) (numW bh bl) r.toNat n.toNat : Int), 0)) else (0, 1)
set_option maxHeartbeats 8000000 in
set_option maxRecDepth 100000 in
theorem of_any (sh sl bh bl : Nat) (r n : Int) (w : World) (h1 : sh < 18446744073709551616) (h2 : sl < 18446744073709551616) (h3 : bh < 18446744073709551616) (h4 : bl < 18446744073709551616) : Calls Try.prog 15 #[.agg #[.int .u64 (sh : Int), .int .u64 (sl : Int)], .agg #[.int .u64 (bh : Int), .int .u64 (bl : Int)], .int .i64 r, .int .i64 n] w fun e w' => e = .returned (.tuple #[.int .i64 (ofA sh sl bh bl r n).1, .int .i64 (ofA sh sl bh bl r n).2]) ∧ Below w.heap.size w w' := by
  have CR := Lib.hid (fun W => right_any r n W)
  have Q0 := Lib.hid (OfS.new w sh sl bh bl)
  obtain ⟨k0, k1, k2, k3⟩ := Q0.out.cells
  by_cases hr : riP r n
  · rw [decide_eq_true hr] at CR
    by_cases hz : bh = 0 ∧ bl = 0
    · have HX := Lib.hid (show ofA sh sl bh bl r n = (0, 13) by unfold ofA; rw [if_pos hr, if_pos hz])
      obtain ⟨rfl, rfl⟩ := hz
      clear hr
      go_enter Try.func15, Try.ntmps15
      go_wp2_with (go_at_call 21; (with_reducible refine (CR.out _).mono ?_); rintro e w1 ⟨rfl, rfl⟩)
      go_ret2
      exact ⟨by rw [HX.out]; rfl, Q0.out.bel⟩
    · obtain ⟨R, rfl⟩ : ∃ R : Nat, r = (R : Int) := ⟨r.toNat, by have := hr.1.1; omega⟩
      obtain ⟨N, rfl⟩ : ∃ N : Nat, n = (N : Int) := ⟨n.toNat, by have := hr.2.1; omega⟩
      have hR : R ≤ 1048576 := by have := hr.1.2; omega
      have hN : N ≤ 255 := by have := hr.2.2; omega
      have HX := Lib.hid (show ofA sh sl bh bl R N = ((lev (numW sh sl) (numW bh bl) R N : Int), 0) by unfold ofA; rw [if_pos hr, if_neg hz]; rfl)
      have K1 := Lib.hid (fun W => digits_num sh sl W h1 h2)
      have K2 := Lib.hid (fun W => digits_num bh bl W h3 h4)
      have hs : ¬ (bh : Int) = 0 ∨ ((bh : Int) = 0 ∧ ¬ (bl : Int) = 0) := by omega
      obtain ⟨BH, hB⟩ : ∃ B, B = (bh : Int) := ⟨_, rfl⟩
      rw [← hB] at hs K2 Q0 k2 ⊢
      clear hr hz h1 h2 h3 h4 hB
      rcases hs with g0 | ⟨rfl, g0⟩
      · go_enter Try.func15, Try.ntmps15
        go_wp2_with (first
          | (go_at_call 21; (with_reducible refine (CR.out _).mono ?_); rintro e w1 ⟨rfl, rfl⟩))
        have R0 := Lib.hid (Q0.out.drew)
        go_region_held3 (fun w' => w'.cell? ⟨w.heap.size, 0, none⟩ = some (.int .u64 (sh : Int)) ∧ w'.cell? ⟨w.heap.size, 1, none⟩ = some (.int .u64 (sl : Int)) ∧ w'.cell? ⟨w.heap.size + 1, 0, none⟩ = some (.int .u64 BH) ∧ w'.cell? ⟨w.heap.size + 1, 1, none⟩ = some (.int .u64 (bl : Int)))
          (first | exact ⟨k0, k1, k2, k3⟩ | go_keep)
          (first
            | (go_at_call 31; (with_reducible refine (K1.out _).mono ?_); rintro e v1 ⟨z1, rfl, hz, hb⟩; have R1 := Lib.hid (R0.out.next hb); have Z1 := Lib.hid hz; clear hz hb K1; (try clear k0 k1 k2 k3); obtain ⟨k0, k1, k2, k3⟩ := R1.out.cells)
            | (go_at_call 31; (with_reducible refine (K2.out _).mono ?_); rintro e v2 ⟨z2, rfl, hz, hb⟩; have R2 := Lib.hid (R1.out.next hb); have Z2 := Lib.hid hz; have Z1 := Lib.hid (Z1.out.below hb (Nat.le_refl _)); clear hz hb K2; (try clear k0 k1 k2 k3); obtain ⟨k0, k1, k2, k3⟩ := R2.out.cells)
            | (go_at_call 23; (with_reducible refine (level_any _ _ _ _ R N 8 26 _ Z1.out Z2.out tim8 (by decide) hR hN).mono ?_); rintro e v3 ⟨rfl, hb⟩; have R3 := Lib.hid (R2.out.next hb); clear hb; (try clear k0 k1 k2 k3); obtain ⟨k0, k1, k2, k3⟩ := R3.out.cells))
        go_wp2_with fail
        go_ret2
        exact ⟨by rw [HX.out]; rfl, R3.out.bel⟩
      · go_enter Try.func15, Try.ntmps15
        go_wp2_with (first
          | (go_at_call 21; (with_reducible refine (CR.out _).mono ?_); rintro e w1 ⟨rfl, rfl⟩))
        have R0 := Lib.hid (Q0.out.drew)
        go_region_held3 (fun w' => w'.cell? ⟨w.heap.size, 0, none⟩ = some (.int .u64 (sh : Int)) ∧ w'.cell? ⟨w.heap.size, 1, none⟩ = some (.int .u64 (sl : Int)) ∧ w'.cell? ⟨w.heap.size + 1, 0, none⟩ = some (.int .u64 0) ∧ w'.cell? ⟨w.heap.size + 1, 1, none⟩ = some (.int .u64 (bl : Int)))
          (first | exact ⟨k0, k1, k2, k3⟩ | go_keep)
          (first
            | (go_at_call 31; (with_reducible refine (K1.out _).mono ?_); rintro e v1 ⟨z1, rfl, hz, hb⟩; have R1 := Lib.hid (R0.out.next hb); have Z1 := Lib.hid hz; clear hz hb K1; (try clear k0 k1 k2 k3); obtain ⟨k0, k1, k2, k3⟩ := R1.out.cells)
            | (go_at_call 31; (with_reducible refine (K2.out _).mono ?_); rintro e v2 ⟨z2, rfl, hz, hb⟩; have R2 := Lib.hid (R1.out.next hb); have Z2 := Lib.hid hz; have Z1 := Lib.hid (Z1.out.below hb (Nat.le_refl _)); clear hz hb K2; (try clear k0 k1 k2 k3); obtain ⟨k0, k1, k2, k3⟩ := R2.out.cells)
            | (go_at_call 23; (with_reducible refine (level_any _ _ _ _ R N 8 26 _ Z1.out Z2.out tim8 (by decide) hR hN).mono ?_); rintro e v3 ⟨rfl, hb⟩; have R3 := Lib.hid (R2.out.next hb); clear hb; (try clear k0 k1 k2 k3); obtain ⟨k0, k1, k2, k3⟩ := R3.out.cells))
        go_wp2_with fail
        go_ret2
        exact ⟨by rw [HX.out]; rfl, R3.out.bel⟩
  · rw [decide_eq_false hr] at CR
    have HX := Lib.hid (show ofA sh sl bh bl r n = (0, 1) from if_neg hr)
    clear hr
    go_enter Try.func15, Try.ntmps15
    go_wp2_with (go_at_call 21; (with_reducible refine (CR.out _).mono ?_); rintro e w1 ⟨rfl, rfl⟩)
    go_ret2
    exact ⟨by rw [HX.out]; rfl, Q0.out.bel⟩
end Go.Proofs.Ytmbpehhbfbmacaa
