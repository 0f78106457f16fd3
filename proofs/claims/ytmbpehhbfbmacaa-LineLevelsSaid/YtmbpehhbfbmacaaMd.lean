/- Proved here: what line's Of answers. Condition: halves of 64 bits. -/
import Derived.Test.YtmbpehhbfbmacaaMc
import Derived.Test.YtmbpehhbfbmacaaLLp0
namespace Go.Proofs.Ytmbpehhbfbmacaa
open Go.RowKit

/-- What the question of Of's search holds: the reach, the divisor, the bound, each in a box. -/
structure QuS (W : World) (gr gb gu : Nat) (r : Nat) (bh bl x y z : Nat) : Prop where
  xr : W.heap[gr]? = some (.cells #[.int .i64 (r : Int)] 3 (0, 0))
  xb : Box W gb bh bl
  xu : B3 W gu x y z
section
variable {W W' : World} {gr gb gu r bh bl x y z : Nat}
theorem QuS.bel (h : QuS W gr gb gu r bh bl x y z) (hb : Below W.heap.size W W') : QuS W' gr gb gu r bh bl x y z := ⟨(hb.block gr (heap_lt h.xr)).trans h.xr, h.xb.below hb h.xb.lt, h.xu.bel hb⟩
theorem QuS.c1 (h : QuS W gr gb gu r bh bl x y z) : W.cell? ⟨gr, 0, none⟩ = some (.int .i64 (r : Int)) := cell_of_row W gr 0 _ 3 (0, 0) h.xr
theorem QuS.cells (h : QuS W gr gb gu r bh bl x y z) : W.cell? ⟨gb, 0, none⟩ = some (.int .u64 (bh : Int)) ∧ W.cell? ⟨gb, 1, none⟩ = some (.int .u64 (bl : Int)) ∧ W.cell? ⟨gu, 0, none⟩ = some (.int .u64 (x : Int)) ∧ W.cell? ⟨gu, 1, none⟩ = some (.int .u64 (y : Int)) ∧ W.cell? ⟨gu, 2, none⟩ = some (.int .u64 (z : Int)) :=
  ⟨h.xb.c0, h.xb.c1, h.xu.cells.1, h.xu.cells.2.1, h.xu.cells.2.2⟩
end
theorem i64_in (n : Int) (h : -9223372036854775808 ≤ n ∧ n < 9223372036854775808) : IntKind.i64.wrap n = n := by rw [IntKind.wrap_i64]; omega
theorem next_in {k r m : Nat} (hk : k < 255) (hr : r ≤ 1048576) (hm : m = (k + 1) * r) : m ≤ 267386880 := by
  rw [hm]; exact Nat.le_trans (Nat.mul_le_mul (show k + 1 ≤ 255 by omega) hr) (by decide)
set_option maxHeartbeats 4000000 in
set_option maxRecDepth 100000 in
theorem ask_any (gr gb gu r bh bl x y z k : Nat) (W : World) (h : QuS W gr gb gu r bh bl x y z) (hr : r ≤ 1048576) (hk : k < 255) (h3 : bh < 18446744073709551616) (h4 : bl < 18446744073709551616) (hy : y < 18446744073709551616) (hz : z < 18446744073709551616) :
    Calls Try.prog 29 #[.int .i64 (k : Int), .pointer (some ⟨gr, 0, none⟩), .pointer (some ⟨gb, 0, none⟩), .pointer (some ⟨gu, 0, none⟩)] W fun e w' => e = .returned (.bool (decide (num3 x y z < numW bh bl * ((k + 1) * r * ((k + 1) * r))))) ∧ Below W.heap.size W w' := by
  have H := Lib.hid h
  have d1 := h.c1
  obtain ⟨m, hm⟩ : ∃ m, m = (k + 1) * r := ⟨_, rfl⟩
  have hm2 := next_in hk hr hm
  obtain ⟨q, hq⟩ : ∃ q, q = m * m := ⟨_, rfl⟩
  have hq2 : q ≤ 267386880 * 267386880 := by rw [hq]; exact Nat.mul_le_mul hm2 hm2
  have e1 : IntKind.i64.wrap ((k : Int) + 1) = ((k + 1 : Nat) : Int) := by rw [i64_in _ (by omega)]; omega
  have e2 : IntKind.u64.wrap ((k + 1 : Nat) : Int) = ((k + 1 : Nat) : Int) := by rw [IntKind.wrap_u64]; omega
  have e3 : IntKind.u64.wrap (r : Int) = (r : Int) := by rw [IntKind.wrap_u64]; omega
  have e4 : IntKind.u64.wrap (((k + 1 : Nat) : Int) * (r : Int)) = (m : Int) := by
    rw [← Int.natCast_mul, ← hm, IntKind.wrap_u64]; omega
  have e5 : IntKind.u64.wrap ((m : Int) * (m : Int)) = (q : Int) := by
    rw [← Int.natCast_mul, ← hq, IntKind.wrap_u64]; omega
  have C1 := Lib.hid (fun W => times_any bh bl q W h3 h4 (by omega))
  have C2 := Lib.hid (fun (a b c : Nat) W hb hc => above_any a b c x y z W hb hy hc hz)
  rw [← hm, ← hq]
  obtain ⟨s, hs⟩ : ∃ s, s = k + 1 := ⟨_, rfl⟩
  rw [← hs] at e1 e2 e4
  obtain ⟨c0, c1, c2, c3, c4⟩ := h.cells
  obtain ⟨S, hS⟩ : ∃ S : Int, S = (k : Int) + 1 := ⟨_, rfl⟩
  clear h hr hk h3 h4 hy hz hm hm2 hq hq2 hs
  go_enter Try.func29, Try.ntmps29
  go_wp2_with fail
  go_region_held3 (fun w' => w'.cell? ⟨gb, 0, none⟩ = some (.int .u64 (bh : Int)) ∧ w'.cell? ⟨gb, 1, none⟩ = some (.int .u64 (bl : Int)) ∧ w'.cell? ⟨gu, 0, none⟩ = some (.int .u64 (x : Int)) ∧ w'.cell? ⟨gu, 1, none⟩ = some (.int .u64 (y : Int)) ∧ w'.cell? ⟨gu, 2, none⟩ = some (.int .u64 (z : Int)))
    (first | exact ⟨c0, c1, c2, c3, c4⟩ | go_keep)
    (first
      | (go_at_call 27; (with_reducible refine (C1.out _).mono ?_); rintro e w1 ⟨ta, tb, tc, rfl, ht, ha, hb, hc, hbb⟩; have T := Lib.hid (And.intro ht (And.intro hb hc)); have B1 := Lib.hid ((Below.drew (Below.refl _ _)).trans hbb); clear ht ha hb hc hbb C1; (try clear c0 c1 c2 c3 c4); obtain ⟨c0, c1, c2, c3, c4⟩ := (H.out.bel B1.out).cells)
      | (go_at_call 30; (with_reducible refine (C2.out _ _ _ _ T.out.2.1 T.out.2.2).mono ?_); rintro e w2 ⟨rfl, hbb⟩; have B2 := Lib.hid (B1.out.trans (hbb.mono B1.out.size)); clear hbb; (try clear c0 c1 c2 c3 c4); obtain ⟨c0, c1, c2, c3, c4⟩ := (H.out.bel B2.out).cells))
  go_wp2_with fail
  go_ret
  exact ⟨by rw [← T.out.1]; rfl, B2.out⟩
end Go.Proofs.Ytmbpehhbfbmacaa
