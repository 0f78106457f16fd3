/- Proved here: the first pair of a code, in the program. Condition: pairs whose codes rise. -/
import Derived.Test.YtbmpdpajnmjfpaaPc
namespace Go.Proofs.Ytbmpdpajnmjfpaa
open Go.RowKit

/-- What the search's question holds: the pairs, and the code, each in a box. -/
structure FdS (W : World) (b1 b2 : Nat) (A : Option Addr) (m c : Nat) (L : List (Int × Int)) (t : Int) : Prop where
  x1 : W.heap[b1]? = some (.cells #[.slice A m c] 22 (0, 0))
  x2 : W.heap[b2]? = some (.cells #[.int .i64 t] 3 (0, 0))
  pl : Pl W A m L
section
variable {W W' : World} {b1 b2 m c : Nat} {A : Option Addr} {L : List (Int × Int)} {t : Int}
theorem FdS.bel (h : FdS W b1 b2 A m c L t) (hb : Below W.heap.size W W') : FdS W' b1 b2 A m c L t := ⟨(hb.block b1 (heap_lt h.x1)).trans h.x1, (hb.block b2 (heap_lt h.x2)).trans h.x2, h.pl.bel hb⟩
theorem FdS.c1 (h : FdS W b1 b2 A m c L t) : W.cell? ⟨b1, 0, none⟩ = some (.slice A m c) := cell_of_row W b1 0 _ 22 (0, 0) h.x1
theorem FdS.c2 (h : FdS W b1 b2 A m c L t) : W.cell? ⟨b2, 0, none⟩ = some (.int .i64 t) := cell_of_row W b2 0 _ 3 (0, 0) h.x2
end
theorem clo_any (b1 b2 m c : Nat) (A : Option Addr) (L : List (Int × Int)) (t : Int) (W : World) (h : FdS W b1 b2 A m c L t) (i : Nat) (hi : i < m) :
    Calls Try.prog 24 #[.int .i64 (i : Int), .pointer (some ⟨b1, 0, none⟩), .pointer (some ⟨b2, 0, none⟩)] W fun e w' => e = .returned (.bool (decide (t ≤ cd L i))) ∧ Below W.heap.size W w' := by
  obtain ⟨a, rfl, c0, c1⟩ := h.pl.at_ (Below.refl _ _) hi
  have d1 := h.c1
  have d2 := h.c2
  obtain ⟨x, hx⟩ : ∃ x, x = cd L i := ⟨_, rfl⟩
  rw [← hx] at c0 ⊢
  clear h hx
  go_enter Try.func24, Try.ntmps24
  go_wp2_with fail
  go_quiet (fail)
  all_goals
    go_wp2_with fail
    go_ret
    exact ⟨by simp, below_drewN (Below.refl _ _) _⟩
set_option maxHeartbeats 1000000 in
theorem search_any (b1 b2 m c : Nat) (A : Option Addr) (L : List (Int × Int)) (t : Int) (w : World) (h : FdS w b1 b2 A m c L t) (hm : m ≤ 1000000) (hr : ∀ i j, i ≤ j → j < m → cd L i ≤ cd L j) :
    Calls Try.prog 23 #[.int .i64 (m : Int), .func (.func 24) #[] #[.pointer (some ⟨b1, 0, none⟩), .pointer (some ⟨b2, 0, none⟩)]] w fun e w' => ∃ n : Nat, e = .returned (.int .i64 (n : Int)) ∧ n ≤ m ∧ (∀ k, k < n → cd L k < t) ∧ (n < m → t ≤ cd L n) ∧ Below w.heap.size w w' := by
  have HC := Lib.hid (clo_any b1 b2 m c A L t)
  have HS := Lib.hid h
  have HR := Lib.hid hr
  clear h hr
  go_enter Try.func23, Try.ntmps23
  go_wp2_with fail
  go_loopw [5, 6] (fun x y wr => ∃ i j : Nat, x = .int .i64 (i : Int) ∧ y = .int .i64 (j : Int) ∧ i ≤ j ∧ j ≤ m ∧ (∀ k, k < i → cd L k < t) ∧ (j < m → t ≤ cd L j) ∧ Below w.heap.size w wr) (fun x y _ => (intOf y).toNat - (intOf x).toNat)
  case atStart => exact ⟨0, m, rfl, rfl, Nat.zero_le _, Nat.le_refl _, fun k hk => by omega, fun h => by omega, Below.refl _ _⟩
  case round =>
    obtain ⟨i, j, rfl, rfl, hij, hj, h1, h2, hb⟩ := hrel
    have HB := Lib.hid hb
    have H1 := Lib.hid h1
    have H2 := Lib.hid h2
    clear hb h1 h2
    by_cases hgo : i < j
    · obtain ⟨s, hs⟩ : ∃ s, s = i + j := ⟨_, rfl⟩
      obtain ⟨q, hq⟩ : ∃ q, q = s / 2 := ⟨_, rfl⟩
      have e1 : IntKind.i64.wrap ((i : Int) + (j : Int)) = (s : Int) := by rw [i64_in _ (by omega)]; omega
      have e2 : IntKind.u64.wrap (s : Int) = (s : Int) := by rw [IntKind.wrap_u64]; omega
      have e3 : (s : Int) / 2 = (q : Int) := by omega
      have e4 : IntKind.i64.wrap (q : Int) = (q : Int) := i64_in _ (by omega)
      have hqi : i ≤ q ∧ q < j := by omega
      have HQ := Lib.hid hqi
      have HX := Lib.hid (fun W (hW : FdS W b1 b2 A m c L t) => HC.out W hW q (by omega))
      obtain ⟨x, hx⟩ : ∃ x, x = cd L q := ⟨_, rfl⟩
      have HXX := Lib.hid hx
      have hqb := hqi.1
      have hqm : q < m := by omega
      rw [← hx] at HX
      clear hs hq hx hqi
      by_cases ht : t ≤ x
      · rw [decide_eq_true ht] at HX
        go_wp2_with ((go_at_call 24; (with_reducible refine (HX.out _ (HS.out.bel HB.out)).mono ?_); rintro e w1 ⟨rfl, hb⟩; have HB1 := Lib.hid (HB.out.trans (hb.mono HB.out.size)); clear hb))
        exact ⟨⟨i, q, rfl, rfl, by omega, by omega, H1.out, fun _ => by rw [← HXX.out]; exact ht, HB1.out⟩, by have := HQ.out; simp [intOf]; omega⟩
      · rw [decide_eq_false ht] at HX
        go_wp2_with ((go_at_call 24; (with_reducible refine (HX.out _ (HS.out.bel HB.out)).mono ?_); rintro e w1 ⟨rfl, hb⟩; have HB1 := Lib.hid (HB.out.trans (hb.mono HB.out.size)); clear hb))
        exact ⟨⟨q + 1, j, by simp, rfl, by have := HQ.out; omega, hj, fun k hk => by have := HR.out k q (by omega) hqm; rw [← HXX.out] at this; omega, H2.out, HB1.out⟩, by have := HQ.out; simp [intOf]; omega⟩
    · obtain rfl : i = j := by omega
      go_wp2_with fail
      go_ret
      exact ⟨i, rfl, hj, H1.out, H2.out, HB.out⟩
end Go.Proofs.Ytbmpdpajnmjfpaa
