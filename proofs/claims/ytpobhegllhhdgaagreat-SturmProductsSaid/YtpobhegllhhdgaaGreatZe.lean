/- Proved here: what stands in memory while the law makes its product: all of it stays where the map alone is written. No condition. -/
import Derived.Test.YtpobhegllhhdgaaGreatZd
import Derived.Test.YtpobhegllhhdgaaGreatZa
namespace Go.Proofs.YtpobhegllhhdgaaGreat
open Go.RowKit Go.Maps

section
variable {H : Type} {P : Program} {k : TypeId} {R : Value → Option (DataW H × List MemPlace)} {b n : Nat} {D : DataW H} {w w' : World}
theorem block_turn (ho : w.ownsMap P k R b n D) (hg : w.grownBy w' (some b)) {g : Nat} {o : Obj} (h : w.heap[g]? = some o) (hm : ∀ es c, o ≠ .map es c) : w'.heap[g]? = some o := by
  obtain ⟨es, clock, hb, _⟩ := ho
  have hne : g ≠ b := fun e => by
    subst e
    rw [h] at hb
    injection hb with hb
    exact hm _ _ hb
  have hlt : g < w.heap.size := by
    rcases Nat.lt_or_ge g w.heap.size with hl | hl
    · exact hl
    · rw [Array.getElem?_eq_none hl] at h; cases h
  rw [hg.block g hlt (fun e => hne (by injection e))]
  exact h
theorem cell_turn (ho : w.ownsMap P k R b n D) (hg : w.grownBy w' (some b)) {a : Addr} {x : Value} (h : w.cell? a = some x) : w'.cell? a = some x := by
  obtain ⟨es, clock, hb, _⟩ := ho
  have hne : a.block ≠ b := fun e => by
    subst e
    simp [World.cell?, hb] at h
  have hlt : a.block < w.heap.size := by
    rcases Nat.lt_or_ge a.block w.heap.size with hl | hl
    · exact hl
    · simp [World.cell?, Array.getElem?_eq_none hl] at h
  rw [World.cell?_of_block (hg.block a.block hlt (fun e => hne (by injection e)))]
  exact h
theorem Arr.turn {q : IntKind} {v : Value} {xs : List Nat} (ho : w.ownsMap P k R b n D) (hg : w.grownBy w' (some b)) (h : Arr w q v xs) : Arr w' q v xs := by
  obtain ⟨A, c, h1, h2, h3, h4, h5⟩ := h
  exact ⟨A, c, h1, h2, h3, h4, fun ad ha => ⟨fun h0 => Nat.lt_of_lt_of_le ((h5 ad ha).1 h0) hg.size, fun j hj => cell_turn ho hg ((h5 ad ha).2 j hj)⟩⟩
theorem BigC.turn {Z : Value} {z : Int} {l : Nat} (ho : w.ownsMap P k R b n D) (hg : w.grownBy w' (some b)) (h : BigC w Z z l) : BigC w' Z z l := by
  obtain ⟨s, v, xs, h1, h2, h3⟩ := h
  exact ⟨s, v, xs, h1, h2.turn ho hg, h3⟩
theorem Pol.turn {v : Value} {L : List Int} {l : Nat} (ho : w.ownsMap P k R b n D) (hg : w.grownBy w' (some b)) (h : Pol .c w v L l) : Pol .c w' v L l := by
  obtain ⟨A, c, h1, h2, h3, h4, h5⟩ := h
  refine ⟨A, c, h1, h2, h3, h4, fun ad ha => ⟨Nat.lt_of_lt_of_le (h5 ad ha).1 hg.size, fun i hi => ?_⟩⟩
  obtain ⟨s, B, p, q, e1, e2, e3⟩ := (h5 ad ha).2 i hi
  exact ⟨s, B, p, q, cell_turn ho hg e1, cell_turn ho hg e2, BigC.turn ho hg e3⟩
theorem Rt.turn {g : Nat} {x y : Int} (ho : w.ownsMap P k R b n D) (hg : w.grownBy w' (some b)) (h : Rt w g x y) : Rt w' g x y := block_turn ho hg h (fun _ _ e => by cases e)
theorem grown_of_below (h : Below w.heap.size w w') : w.grownBy w' none := ⟨h.os, h.tape, h.output, h.size, fun i hi _ => h.block i hi⟩
end
/-- What stands in memory: the map, the product, three fractions. -/
structure SpS (w W : World) (B gx gl gh : Nat) (xn : Int) (k : Nat) (D : DataW Unit) (v : Value) (L : List Int) (l : Nat) : Prop where
  bel : Below w.heap.size w W
  new : w.heap.size ≤ B
  own : W.ownsMap Tryz.prog 24 (plainElem Tryz.prog 3) B k D
  pol : Pol .c W v L l
  rx : Rt W gx xn 7
  rl : Rt W gl (-100) 1
  rh : Rt W gh 100 1
section
variable {w W W' : World} {B gx gl gh k : Nat} {xn : Int} {D : DataW Unit} {v : Value} {L : List Int} {l : Nat}
theorem SpS.step (h : SpS w W B gx gl gh xn k D v L l) (hb : Below W.heap.size W W') : SpS w W' B gx gl gh xn k D v L l :=
  ⟨bel_tr h.bel hb, h.new, h.own.kept (grown_of_below hb) (by simp), h.pol.bel hb, h.rx.bel hb, h.rl.bel hb, h.rh.bel hb⟩
theorem SpS.alloc (h : SpS w W B gx gl gh xn k D v L l) (o : Obj) : SpS w (W.alloc o) B gx gl gh xn k D v L l := h.step ((Below.refl _ _).alloc (Nat.le_refl _) o)
theorem SpS.drew (h : SpS w W B gx gl gh xn k D v L l) : SpS w W.drew B gx gl gh xn k D v L l := ⟨⟨h.bel.os, h.bel.tape, h.bel.output, h.bel.size, h.bel.block⟩, h.new, h.own, h.pol, h.rx, h.rl, h.rh⟩
theorem SpS.prod (h : SpS w W B gx gl gh xn k D v L l) {v' : Value} {L' : List Int} {l' : Nat} (hp : Pol .c W v' L' l') : SpS w W B gx gl gh xn k D v' L' l' := ⟨h.bel, h.new, h.own, hp, h.rx, h.rl, h.rh⟩
theorem SpS.turn (h : SpS w W B gx gl gh xn k D v L l) (hg : W.grownBy W' (some B)) {k' : Nat} {D' : DataW Unit} (ho : W'.ownsMap Tryz.prog 24 (plainElem Tryz.prog 3) B k' D') : SpS w W' B gx gl gh xn k' D' v L l :=
  ⟨⟨hg.os.trans h.bel.os, hg.tape.trans h.bel.tape, hg.output.trans h.bel.output, Nat.le_trans h.bel.size hg.size, fun i hi => (hg.block i (Nat.lt_of_lt_of_le hi h.bel.size) (fun e => by injection e with e; have := h.new; omega)).trans (h.bel.block i hi)⟩,
    h.new, ho, h.pol.turn h.own hg, h.rx.turn h.own hg, h.rl.turn h.own hg, h.rh.turn h.own hg⟩
end
end Go.Proofs.YtpobhegllhhdgaaGreat
