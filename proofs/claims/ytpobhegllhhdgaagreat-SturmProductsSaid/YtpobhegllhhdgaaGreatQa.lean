/- Proved here: what package poly's at and the document's at answer. Condition: polynomials that lie in memory. -/
import Derived.Test.YtpobhegllhhdgaaGreatPb
namespace Go.Proofs.YtpobhegllhhdgaaGreat
open Go.RowKit

/-- A number is answered. -/
def ElE (K : Kd) (z : Int) (l : Nat) (w : World) (e : Ending) (w' : World) : Prop := ∃ Z, e = .returned Z ∧ El K w' Z z l ∧ Below w.heap.size w w'
set_option maxRecDepth 100000 in
theorem at_any (K : Kd) (A : Option Addr) (m c : Nat) (L : List Int) (l i : Nat) (w : World) (h : Pol K w (.slice A m c) L l) :
    Calls Tryz.prog 66 #[.slice A m c, .int .i64 (i : Int)] w (ElE K (co L i) l w) := by
  have hm := h.cap.1
  have HC := Lib.hid h.cap.2
  by_cases hi : i < m
  · obtain ⟨ad, n, B, p, q, rfl, hl, c0, c1, he⟩ := h.get i (by omega)
    have HE := Lib.hid he
    have f0 : ∀ o, (w.alloc o).cell? (ad.add (i * 2)) = some (.bool n) := fun o => by rw [(bel_a w o).cell (by rw [block_of_add]; exact hl)]; exact c0
    have f1 : ∀ o, (w.alloc o).cell? { block := (ad.add (i * 2)).block, off := (ad.add (i * 2)).off + 1 } = some (.slice B p q) := fun o => by rw [add_next, (bel_a w o).cell (by rw [block_of_add]; exact hl)]; exact c1
    clear h he c0 c1 hm
    go_enter Tryz.func66, Tryz.ntmps66
    go_wp2_with fail
    exact bodyPost_ret (ret_bx24 rfl rfl (Bx.new 60 w _ _)) rfl ⟨_, rfl, HE.out.bel (bel_a w _), bel_a w _⟩
  · have HZ := Lib.hid (co_beyond (L := L) (i := i) (by omega))
    have hd : decide ((i : Int) < (m : Int)) = false := decide_eq_false (by omega)
    clear h hm
    go_enter Tryz.func66, Tryz.ntmps66
    go_wp2_with fail
    refine bodyPost_ret (ret_bx24 rfl rfl (Bx.new 60 w _ _)) rfl ⟨_, rfl, ?_, bel_a w _⟩
    rw [HZ.out]
    exact El.zero K _ l
/-- A coefficient, at a place that may be below 0. -/
def coI (L : List Int) (i : Int) : Int := if 0 ≤ i then co L i.toNat else 0
theorem coI_nat (L : List Int) (i : Nat) : coI L (i : Int) = co L i := by unfold coI; rw [if_pos (by omega)]; rfl
set_option maxRecDepth 100000 in
theorem rat_any (K : Kd) (A : Option Addr) (m c : Nat) (L : List Int) (l : Nat) (i : Int) (w : World) (h : Pol K w (.slice A m c) L l) :
    Calls Tryz.prog 73 #[.slice A m c, .int .i64 i] w (ElE K (coI L i) l w) := by
  have hm := h.cap.1
  have HC := Lib.hid h.cap.2
  by_cases h0 : 0 ≤ i
  · obtain ⟨j, rfl⟩ := Int.eq_ofNat_of_zero_le h0
    rw [coI_nat]
    by_cases hi : j < m
    · obtain ⟨ad, n, B, p, q, rfl, hl, c0, c1, he⟩ := h.get j (by omega)
      have HE := Lib.hid he
      have f0 : ∀ o, (w.alloc o).cell? (ad.add (j * 2)) = some (.bool n) := fun o => by rw [(bel_a w o).cell (by rw [block_of_add]; exact hl)]; exact c0
      have f1 : ∀ o, (w.alloc o).cell? { block := (ad.add (j * 2)).block, off := (ad.add (j * 2)).off + 1 } = some (.slice B p q) := fun o => by rw [add_next, (bel_a w o).cell (by rw [block_of_add]; exact hl)]; exact c1
      clear h he c0 c1 hm h0
      go_enter Tryz.func73, Tryz.ntmps73
      go_wp2_with fail
      exact bodyPost_ret (ret_bx28 rfl rfl (Bx.new 69 w _ _)) rfl ⟨_, rfl, HE.out.bel (bel_a w _), bel_a w _⟩
    · have HZ := Lib.hid (co_beyond (L := L) (i := j) (by omega))
      have hd : decide ((j : Int) < (m : Int)) = false := decide_eq_false (by omega)
      clear h hm h0
      go_enter Tryz.func73, Tryz.ntmps73
      go_wp2_with fail
      refine bodyPost_ret (ret_bx28 rfl rfl (Bx.new 69 w _ _)) rfl ⟨_, rfl, ?_, bel_a w _⟩
      rw [HZ.out]
      exact El.zero K _ l
  · have HZ := Lib.hid (show coI L i = 0 by unfold coI; rw [if_neg h0])
    have hd : decide (0 ≤ i) = false := decide_eq_false h0
    clear h hm
    go_enter Tryz.func73, Tryz.ntmps73
    go_wp2_with fail
    refine bodyPost_ret (ret_bx28 rfl rfl (Bx.new 69 w _ _)) rfl ⟨_, rfl, ?_, bel_a w _⟩
    rw [HZ.out]
    exact El.zero K _ l
end Go.Proofs.YtpobhegllhhdgaaGreat
