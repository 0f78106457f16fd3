/- Proved here: words for the document's division bit by bit of layer 3 as it lies in memory. No condition but numbers that lie in memory. -/
import Derived.Test.YtjjinncecfilpaaDoorXa
import Derived.Test.YtjjinncecfilpaaDoorVb
namespace Go.Proofs.YtjjinncecfilpaaDoor
open Go.RowKit

/-- What stands in memory: the number, its divisor, the answers' boxes, how often, what is left over. -/
structure EeH (w W : World) (na : Bool) (va : Value) (nb : Bool) (vb : Value) (bq : Bool) (vq : Value) (br : Bool) (vr : Value) (xs : List Nat) (N : Nat) (Q R : Int) (lb lq lr : Nat) (n1 : Bool) (v1 : Value) (n2 : Bool) (v2 : Value) : Prop where
  a : Bx 65 W w.heap.size na va
  b : Bx 65 W (w.heap.size + 1) nb vb
  r1 : Bx 65 W (w.heap.size + 1 + 1) n1 v1
  r2 : Bx 65 W (w.heap.size + 1 + 1 + 1) n2 v2
  q : Bx 65 W (w.heap.size + 1 + 1 + 1 + 1) bq vq
  r : Bx 65 W (w.heap.size + 1 + 1 + 1 + 1 + 1) br vr
  A : Arr W .u64 va xs
  B : NumC W (.agg #[.bool nb, vb]) (N : Int) lb
  Q : NumC W (.agg #[.bool bq, vq]) Q lq
  R : NumC W (.agg #[.bool br, vr]) R lr
  bel : Below w.heap.size w W
section
variable {w W W' : World} {na nb bq br n1 n2 m : Bool} {va vb vq vr v1 v2 z : Value} {xs : List Nat} {N : Nat} {Q R Q' R' : Int} {lb lq lr lq' lr' r q : Nat} {C : Option Addr}
theorem EeH.next (h : EeH w W na va nb vb bq vq br vr xs N Q R lb lq lr n1 v1 n2 v2) (hb : Below W.heap.size W W') : EeH w W' na va nb vb bq vq br vr xs N Q R lb lq lr n1 v1 n2 v2 :=
  ⟨h.a.bel hb, h.b.bel hb, h.r1.bel hb, h.r2.bel hb, h.q.bel hb, h.r.bel hb, h.A.bel hb, h.B.bel hb, h.Q.bel hb, h.R.bel hb, bel_tr h.bel hb⟩
theorem EeH.drew (h : EeH w W na va nb vb bq vq br vr xs N Q R lb lq lr n1 v1 n2 v2) : EeH w W.drew na va nb vb bq vq br vr xs N Q R lb lq lr n1 v1 n2 v2 := ⟨h.a, h.b, h.r1, h.r2, h.q, h.r, h.A, h.B, h.Q, h.R, h.bel.drew⟩
theorem EeH.facts (h : EeH w W na va nb vb bq vq br vr xs N Q R lb lq lr n1 v1 n2 v2) : W.cell? ⟨w.heap.size, 0, none⟩ = some (.bool na) ∧ W.cell? ⟨w.heap.size, 1, none⟩ = some va ∧ W.cell? ⟨w.heap.size + 1, 0, none⟩ = some (.bool nb) ∧ W.cell? ⟨w.heap.size + 1, 1, none⟩ = some vb ∧
    W.cell? ⟨w.heap.size + 1 + 1 + 1 + 1, 0, none⟩ = some (.bool bq) ∧ W.cell? ⟨w.heap.size + 1 + 1 + 1 + 1, 1, none⟩ = some vq ∧ W.cell? ⟨w.heap.size + 1 + 1 + 1 + 1 + 1, 0, none⟩ = some (.bool br) ∧ W.cell? ⟨w.heap.size + 1 + 1 + 1 + 1 + 1, 1, none⟩ = some vr :=
  ⟨h.a.c0, h.a.c1, h.b.c0, h.b.c1, h.q.c0, h.q.c1, h.r.c0, h.r.c1⟩
theorem EeH.frs (h : EeH w W na va nb vb bq vq br vr xs N Q R lb lq lr n1 v1 n2 v2) : W.frozen? ⟨w.heap.size + 1 + 1 + 1 + 1, 0, none⟩ = false ∧ W.frozen? ⟨w.heap.size + 1 + 1 + 1 + 1, 1, none⟩ = false ∧ W.frozen? ⟨w.heap.size + 1 + 1 + 1 + 1 + 1, 0, none⟩ = false ∧ W.frozen? ⟨w.heap.size + 1 + 1 + 1 + 1 + 1, 1, none⟩ = false :=
  ⟨h.q.fr 0, h.q.fr 1, h.r.fr 0, h.r.fr 1⟩
theorem EeH.res (h : EeH w W na va nb vb bq vq br vr xs N Q R lb lq lr n1 v1 n2 v2) : W.cell? ⟨w.heap.size + 1 + 1, 0, none⟩ = some (.bool n1) ∧ W.cell? ⟨w.heap.size + 1 + 1, 1, none⟩ = some v1 ∧ W.cell? ⟨w.heap.size + 1 + 1 + 1, 0, none⟩ = some (.bool n2) ∧ W.cell? ⟨w.heap.size + 1 + 1 + 1, 1, none⟩ = some v2 ∧
    W.frozen? ⟨w.heap.size + 1 + 1, 0, none⟩ = false ∧ W.frozen? ⟨w.heap.size + 1 + 1, 1, none⟩ = false ∧ W.frozen? ⟨w.heap.size + 1 + 1 + 1, 0, none⟩ = false ∧ W.frozen? ⟨w.heap.size + 1 + 1 + 1, 1, none⟩ = false :=
  ⟨h.r1.c0, h.r1.c1, h.r2.c0, h.r2.c1, h.r1.fr 0, h.r1.fr 1, h.r2.fr 0, h.r2.fr 1⟩
theorem EeH.vals (h : EeH w W na va nb vb bq vq br vr xs N Q R lb lq lr n1 v1 n2 v2) (hQ : NumC W (.agg #[.bool bq, vq]) Q' lq') (hR : NumC W (.agg #[.bool br, vr]) R' lr') : EeH w W na va nb vb bq vq br vr xs N Q' R' lb lq' lr' n1 v1 n2 v2 :=
  ⟨h.a, h.b, h.r1, h.r2, h.q, h.r, h.A, h.B, hQ, hR, h.bel⟩
theorem EeH.putq (h : EeH w W na va nb vb bq (.slice C r q) br vr xs N Q R lb lq lr n1 v1 n2 v2) (hz : NumC W (.agg #[.bool m, z]) Q' lq') :
    EeH w ((W.setCell ⟨w.heap.size + 1 + 1 + 1 + 1, 0, none⟩ (.bool m)).setCell ⟨w.heap.size + 1 + 1 + 1 + 1, 1, none⟩ z) na va nb vb m z br vr xs N Q' R lb lq' lr n1 v1 n2 v2 := by
  have k : ∀ {T : TypeId} {G : Nat} {n : Bool} {v : Value}, G ≠ w.heap.size + 1 + 1 + 1 + 1 → Bx T W G n v → Bx T ((W.setCell ⟨w.heap.size + 1 + 1 + 1 + 1, 0, none⟩ (.bool m)).setCell ⟨w.heap.size + 1 + 1 + 1 + 1, 1, none⟩ z) G n v := fun hG hB => (hB.far hG _).far hG _
  exact ⟨k (by omega) h.a, k (by omega) h.b, k (by omega) h.r1, k (by omega) h.r2, (h.q.set0 m).set1 z, k (by omega) h.r, (h.A.box h.q 0 _).box (h.q.set0 m) 1 _, (h.B.box_ h.q 0 _).box_ (h.q.set0 m) 1 _, (hz.box_ h.q 0 _).box_ (h.q.set0 m) 1 _, (h.R.box_ h.q 0 _).box_ (h.q.set0 m) 1 _, bel_set (bel_set h.bel (by omega) _ _) (by omega) _ _⟩
theorem EeH.putr (h : EeH w W na va nb vb bq vq br (.slice C r q) xs N Q R lb lq lr n1 v1 n2 v2) (hz : NumC W (.agg #[.bool m, z]) R' lr') :
    EeH w ((W.setCell ⟨w.heap.size + 1 + 1 + 1 + 1 + 1, 0, none⟩ (.bool m)).setCell ⟨w.heap.size + 1 + 1 + 1 + 1 + 1, 1, none⟩ z) na va nb vb bq vq m z xs N Q R' lb lq lr' n1 v1 n2 v2 := by
  have k : ∀ {T : TypeId} {G : Nat} {n : Bool} {v : Value}, G ≠ w.heap.size + 1 + 1 + 1 + 1 + 1 → Bx T W G n v → Bx T ((W.setCell ⟨w.heap.size + 1 + 1 + 1 + 1 + 1, 0, none⟩ (.bool m)).setCell ⟨w.heap.size + 1 + 1 + 1 + 1 + 1, 1, none⟩ z) G n v := fun hG hB => (hB.far hG _).far hG _
  exact ⟨k (by omega) h.a, k (by omega) h.b, k (by omega) h.r1, k (by omega) h.r2, k (by omega) h.q, (h.r.set0 m).set1 z, (h.A.box h.r 0 _).box (h.r.set0 m) 1 _, (h.B.box_ h.r 0 _).box_ (h.r.set0 m) 1 _, (h.Q.box_ h.r 0 _).box_ (h.r.set0 m) 1 _, (hz.box_ h.r 0 _).box_ (h.r.set0 m) 1 _, bel_set (bel_set h.bel (by omega) _ _) (by omega) _ _⟩
theorem EeH.put1 (h : EeH w W na va nb vb bq vq br vr xs N Q R lb lq lr n1 (.slice C r q) n2 v2) :
    EeH w ((W.setCell ⟨w.heap.size + 1 + 1, 0, none⟩ (.bool m)).setCell ⟨w.heap.size + 1 + 1, 1, none⟩ z) na va nb vb bq vq br vr xs N Q R lb lq lr m z n2 v2 := by
  have k : ∀ {T : TypeId} {G : Nat} {n : Bool} {v : Value}, G ≠ w.heap.size + 1 + 1 → Bx T W G n v → Bx T ((W.setCell ⟨w.heap.size + 1 + 1, 0, none⟩ (.bool m)).setCell ⟨w.heap.size + 1 + 1, 1, none⟩ z) G n v := fun hG hB => (hB.far hG _).far hG _
  exact ⟨k (by omega) h.a, k (by omega) h.b, (h.r1.set0 m).set1 z, k (by omega) h.r2, k (by omega) h.q, k (by omega) h.r, (h.A.box h.r1 0 _).box (h.r1.set0 m) 1 _, (h.B.box_ h.r1 0 _).box_ (h.r1.set0 m) 1 _, (h.Q.box_ h.r1 0 _).box_ (h.r1.set0 m) 1 _, (h.R.box_ h.r1 0 _).box_ (h.r1.set0 m) 1 _, bel_set (bel_set h.bel (by omega) _ _) (by omega) _ _⟩
theorem EeH.put2 (h : EeH w W na va nb vb bq vq br vr xs N Q R lb lq lr n1 v1 n2 (.slice C r q)) :
    EeH w ((W.setCell ⟨w.heap.size + 1 + 1 + 1, 0, none⟩ (.bool m)).setCell ⟨w.heap.size + 1 + 1 + 1, 1, none⟩ z) na va nb vb bq vq br vr xs N Q R lb lq lr n1 v1 m z := by
  have k : ∀ {T : TypeId} {G : Nat} {n : Bool} {v : Value}, G ≠ w.heap.size + 1 + 1 + 1 → Bx T W G n v → Bx T ((W.setCell ⟨w.heap.size + 1 + 1 + 1, 0, none⟩ (.bool m)).setCell ⟨w.heap.size + 1 + 1 + 1, 1, none⟩ z) G n v := fun hG hB => (hB.far hG _).far hG _
  exact ⟨k (by omega) h.a, k (by omega) h.b, k (by omega) h.r1, (h.r2.set0 m).set1 z, k (by omega) h.q, k (by omega) h.r, (h.A.box h.r2 0 _).box (h.r2.set0 m) 1 _, (h.B.box_ h.r2 0 _).box_ (h.r2.set0 m) 1 _, (h.Q.box_ h.r2 0 _).box_ (h.r2.set0 m) 1 _, (h.R.box_ h.r2 0 _).box_ (h.r2.set0 m) 1 _, bel_set (bel_set h.bel (by omega) _ _) (by omega) _ _⟩
theorem EeH.start (w : World) (hv : Arr w .u64 va xs) (hB : NumC w (.agg #[.bool nb, vb]) (N : Int) lb) :
    EeH w ((((((w.alloc (.cells #[.bool na, va] 65)).alloc (.cells #[.bool nb, vb] 65)).alloc (.cells #[.bool false, .slice none 0 0] 65)).alloc (.cells #[.bool false, .slice none 0 0] 65)).alloc (.cells #[.bool false, .slice none 0 0] 65)).alloc (.cells #[.bool false, .slice none 0 0] 65)) na va nb vb false (.slice none 0 0) false (.slice none 0 0) xs N 0 0 lb 0 0 false (.slice none 0 0) false (.slice none 0 0) := by
  have z0 : ∀ W : World, NumC W (.agg #[.bool false, .slice none 0 0]) 0 0 := fun W => ⟨false, _, [], rfl, Arr.nil _ _, fun j => by simp, ⟨top_nil, fun _ => rfl⟩, Nat.le_refl _, rfl⟩
  have nw : ∀ {T : TypeId} {W : World} {G : Nat} {n : Bool} {z : Value}, G = W.heap.size → Bx T (W.alloc (.cells #[.bool n, z] T)) G n z := fun hG => hG ▸ Bx.new _ _ _ _
  have hw := bel_tr (bel_tr (bel_tr (bel_tr (bel_tr (bel_a w (.cells #[.bool na, va] 65)) (bel_a _ (.cells #[.bool nb, vb] 65))) (bel_a _ (.cells #[.bool false, .slice none 0 0] 65))) (bel_a _ (.cells #[.bool false, .slice none 0 0] 65))) (bel_a _ (.cells #[.bool false, .slice none 0 0] 65))) (bel_a _ (.cells #[.bool false, .slice none 0 0] 65))
  exact ⟨(((((Bx.new 65 w na va).alloc _).alloc _).alloc _).alloc _).alloc _, ((((nw (by simp)).alloc _).alloc _).alloc _).alloc _, (((nw (by simp)).alloc _).alloc _).alloc _, ((nw (by simp)).alloc _).alloc _, (nw (by simp)).alloc _, nw (by simp),
    hv.bel hw, hB.bel hw, z0 _, z0 _, hw⟩
end
/-- What the document's division answers. -/
def DivN (A N l k : Nat) (w : World) (e : Ending) (w' : World) : Prop := ∃ X Y, e = .returned (.tuple #[X, Y]) ∧ NumC w' X ((A / N : Nat) : Int) l ∧ NumC w' Y ((A % N : Nat) : Int) k ∧ Below w.heap.size w w'
end Go.Proofs.YtjjinncecfilpaaDoor
