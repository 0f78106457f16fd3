/- Proved here: what the reference package's Div answers and leaves in memory. Condition: a number in its one form, of at most 1000 digits, that lies in memory, and a divisor of 64 bits that isn't 0. -/
import Derived.Test.YtjjinncecfilpaaDoorVa
import Derived.IntWalk
namespace Go.Proofs.YtjjinncecfilpaaDoor
open Go.RowKit

theorem NumC.parts {W : World} {b : Bool} {v : Value} {z l : Nat} (h : NumC W (.agg #[.bool b, v]) (z : Int) l) : ∃ zs, Arr W .u64 v zs ∧ Dg zs ∧ zs.length ≤ l ∧ dv zs = z := by
  obtain ⟨b', v', zs, hZ, h1, h2, h3, h4, h5⟩ := h
  injection hZ with hZ
  simp at hZ
  obtain ⟨rfl, rfl⟩ := hZ
  exact ⟨zs, h1, h2, h4, by cases b <;> simp [sv] at h5 <;> omega⟩
theorem rof_parts (n : Int) (N : Nat) (hN : N = n.natAbs) (w : World) (h1 : -9223372036854775808 ≤ n) (h2 : n ≤ 9223372036854775807) :
    Calls Tryd.prog 51 #[.int .i64 n] w fun e w' => ∃ m C r q, e = .returned (.agg #[.bool m, .slice C r q]) ∧ NumC w' (.agg #[.bool false, .slice C r q]) (N : Int) 4 ∧ Below w.heap.size w w' :=
  (rof_any n w h1 h2).mono fun _ _ ⟨Z, he, ⟨m, v, zs, hZ, a1, a2, a3, a4, a5⟩, hb⟩ => by
    subst hZ
    obtain ⟨C, q, rfl⟩ := a1.slice
    exact ⟨m, C, _, q, he, ⟨false, _, zs, rfl, a1, a2, ⟨a3.1, fun _ => rfl⟩, a4, by rw [hN, ← a5, natAbs_sv]; rfl⟩, hb⟩
section
variable {w W W' : World} {g : Nat} {na bq br n1 n2 m : Bool} {va vb vq vr v1 v2 z : Value} {xs : List Nat} {N : Nat} {Q R Q' R' : Int} {lq lr lq' lr' r q : Nat} {C : Option Addr}
theorem DeH.vals (h : DeH w W g na va vb bq vq br vr xs N Q R lq lr n1 v1 n2 v2) (hQ : NumC W (.agg #[.bool bq, vq]) Q' lq') (hR : NumC W (.agg #[.bool br, vr]) R' lr') : DeH w W g na va vb bq vq br vr xs N Q' R' lq' lr' n1 v1 n2 v2 :=
  ⟨h.a, h.b, h.q, h.r, h.A, h.B, hQ, hR, h.hg, h.bel, h.r1, h.r2⟩
theorem DeH.f3 (h : DeH w W g na va vb bq vq br vr xs N Q R lq lr n1 v1 n2 v2) : W.cell? ⟨w.heap.size, 0, none⟩ = some (.bool na) ∧ W.cell? ⟨g + 1, 1, none⟩ = some vq ∧ W.cell? ⟨g + 1 + 1, 1, none⟩ = some vr := ⟨h.a.c0, h.q.c1, h.r.c1⟩
theorem DeH.fr2 (h : DeH w W g na va vb bq vq br vr xs N Q R lq lr n1 v1 n2 v2) : W.cell? ⟨g + 1 + 1, 0, none⟩ = some (.bool br) ∧ W.cell? ⟨g + 1 + 1, 1, none⟩ = some vr := ⟨h.r.c0, h.r.c1⟩
theorem DeH.fq2 (h : DeH w W g na va vb bq vq br vr xs N Q R lq lr n1 v1 n2 v2) : W.cell? ⟨g + 1, 0, none⟩ = some (.bool bq) ∧ W.cell? ⟨g + 1, 1, none⟩ = some vq := ⟨h.q.c0, h.q.c1⟩
/-- What stands in memory behind both answers. -/
structure DfH (w W : World) (g : Nat) (na : Bool) (va vb : Value) (bq : Bool) (vq : Value) (br : Bool) (vr : Value) (xs : List Nat) (N : Nat) (Q R : Int) (lq lr : Nat) (n1 : Bool) (v1 : Value) (n2 : Bool) (v2 : Value) (X Y : Value) (x y : Int) (l : Nat) : Prop where
  H : DeH w W g na va vb bq vq br vr xs N Q R lq lr n1 v1 n2 v2
  X : NumC W X x l
  Y : NumC W Y y 4
variable {X Y : Value} {x y : Int} {l : Nat}
theorem DfH.put1 (h : DfH w W g na va vb bq vq br vr xs N Q R lq lr n1 (.slice C r q) n2 v2 X Y x y l) :
    DfH w ((W.setCell ⟨w.heap.size + 1, 0, none⟩ (.bool m)).setCell ⟨w.heap.size + 1, 1, none⟩ z) g na va vb bq vq br vr xs N Q R lq lr m z n2 v2 X Y x y l :=
  ⟨h.H.put1, (h.X.box_ h.H.r1 0 _).box_ (h.H.r1.set0 m) 1 _, (h.Y.box_ h.H.r1 0 _).box_ (h.H.r1.set0 m) 1 _⟩
theorem DfH.put2 (h : DfH w W g na va vb bq vq br vr xs N Q R lq lr n1 v1 n2 (.slice C r q) X Y x y l) :
    DfH w ((W.setCell ⟨w.heap.size + 1 + 1, 0, none⟩ (.bool m)).setCell ⟨w.heap.size + 1 + 1, 1, none⟩ z) g na va vb bq vq br vr xs N Q R lq lr n1 v1 m z X Y x y l :=
  ⟨h.H.put2, (h.X.box_ h.H.r2 0 _).box_ (h.H.r2.set0 m) 1 _, (h.Y.box_ h.H.r2 0 _).box_ (h.H.r2.set0 m) 1 _⟩
theorem DfH.fin {n : Int} {a : Int} (h : DfH w W g na va vb bq vq br vr xs N Q R lq lr n1 v1 n2 v2 (.agg #[.bool n1, v1]) (.agg #[.bool n2, v2]) x y l) (hx : x = a.tdiv n) (hy : y = a.tmod n) : DivRE a n l w (.returned (.tuple #[.agg #[.bool n1, v1], .agg #[.bool n2, v2]])) W :=
  ⟨_, _, rfl, hx ▸ h.X, hy ▸ h.Y, h.H.bel⟩
end
theorem fld_L (m : Bool) (C : Option Addr) (r q : Nat) (W : World) : (Instr.field 65 (.agg #[.bool m, .slice C r q]) 1).run Tryd.prog W = .ok (.slice C r q) W := by kernel_rfl
end Go.Proofs.YtjjinncecfilpaaDoor
