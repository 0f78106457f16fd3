/- Proved here: words for a division bit by bit as it lies in memory. No condition but numbers that lie in memory. -/
import Derived.Test.YtjjinncecfilpaaDoorGE
namespace Go.Proofs.YtjjinncecfilpaaDoor
open Go.RowKit

theorem NumC.short_ {W : World} {Z : Value} {z l : Nat} {n : Nat} (h : NumC W Z (z : Int) l) (hz : z < 65536 ^ n) : NumC W Z (z : Int) n := by
  obtain ⟨b, v, xs, h1, h2, h3, h4, h5, h6⟩ := h
  refine ⟨b, v, xs, h1, h2, h3, h4, top_len16 h4.1 ?_, h6⟩
  have : dv xs = z := by cases b <;> simp [sv] at h6 <;> omega
  rw [this]
  exact hz
theorem NumC.box_ {W : World} {Z : Value} {z : Int} {l : Nat} {T : TypeId} {g : Nat} {n : Bool} {C : Option Addr} {r q : Nat} (h : NumC W Z z l) (hb : Bx T W g n (.slice C r q)) (j : Nat) (y : Value) : NumC (W.setCell ⟨g, j, none⟩ y) Z z l := by
  obtain ⟨n, v, xs, h1, h2, h3⟩ := h
  exact ⟨n, v, xs, h1, h2.box hb j y, h3⟩
theorem NumC.eqv {W : World} {Z : Value} {z z' : Int} {l : Nat} (h : NumC W Z z l) (e : z = z') : NumC W Z z' l := e ▸ h
/-- One step of a division bit by bit. -/
theorem div_step (A N k : Nat) (hN : 0 < N) :
    (N ≤ 2 * (A / 2 ^ (k + 1) % N) + A / 2 ^ k % 2 → A / 2 ^ k / N = 2 * (A / 2 ^ (k + 1) / N) + 1 ∧ A / 2 ^ k % N = 2 * (A / 2 ^ (k + 1) % N) + A / 2 ^ k % 2 - N) ∧
    (2 * (A / 2 ^ (k + 1) % N) + A / 2 ^ k % 2 < N → A / 2 ^ k / N = 2 * (A / 2 ^ (k + 1) / N) ∧ A / 2 ^ k % N = 2 * (A / 2 ^ (k + 1) % N) + A / 2 ^ k % 2) := by
  have e1 : A / 2 ^ (k + 1) = A / 2 ^ k / 2 := by rw [Nat.pow_succ, Nat.div_div_eq_div_mul]
  rw [e1]
  generalize A / 2 ^ k = x
  have h1 := Nat.div_add_mod (x / 2) N
  have h2 := Nat.mod_lt (x / 2) hN
  have h3 := Nat.div_add_mod x 2
  generalize hq : x / 2 / N = q at *
  generalize hr : x / 2 % N = r at *
  have h4 : x = N * (2 * q) + (2 * r + x % 2) := by
    rw [Nat.mul_left_comm]
    omega
  have ht : x % 2 < 2 := Nat.mod_lt _ (by decide)
  generalize x % 2 = t at *
  constructor
  · intro hle
    have h5 : x = N * (2 * q + 1) + (2 * r + t - N) := by rw [Nat.mul_add, Nat.mul_one]; omega
    have h6 : 2 * r + t - N < N := by omega
    exact ⟨by rw [h5, Nat.mul_add_div hN, Nat.div_eq_of_lt h6], by rw [h5, Nat.mul_add_mod, Nat.mod_eq_of_lt h6]⟩
  · intro hlt
    exact ⟨by rw [h4, Nat.mul_add_div hN, Nat.div_eq_of_lt hlt]; try rfl, by rw [h4, Nat.mul_add_mod, Nat.mod_eq_of_lt hlt]⟩
/-- What stands in memory: the number, its divisor, how often, what is left over, and the answers' boxes. -/
structure DeH (w W : World) (g : Nat) (na : Bool) (va vb : Value) (bq : Bool) (vq : Value) (br : Bool) (vr : Value) (xs : List Nat) (N : Nat) (Q R : Int) (lq lr : Nat) (n1 : Bool) (v1 : Value) (n2 : Bool) (v2 : Value) : Prop where
  a : Bx 65 W w.heap.size na va
  b : Bx 65 W g false vb
  q : Bx 65 W (g + 1) bq vq
  r : Bx 65 W (g + 1 + 1) br vr
  A : Arr W .u64 va xs
  B : NumC W (.agg #[.bool false, vb]) (N : Int) 4
  Q : NumC W (.agg #[.bool bq, vq]) Q lq
  R : NumC W (.agg #[.bool br, vr]) R lr
  hg : w.heap.size + 1 + 1 < g
  bel : Below w.heap.size w W
  r1 : Bx 65 W (w.heap.size + 1) n1 v1
  r2 : Bx 65 W (w.heap.size + 1 + 1) n2 v2
section
variable {w W W' : World} {g : Nat} {na bq br n1 n2 m : Bool} {va vb vq vr v1 v2 z : Value} {xs : List Nat} {N : Nat} {Q R Q' R' : Int} {lq lr lq' lr' r q r' q' : Nat} {C C' : Option Addr}
theorem DeH.next (h : DeH w W g na va vb bq vq br vr xs N Q R lq lr n1 v1 n2 v2) (hb : Below W.heap.size W W') : DeH w W' g na va vb bq vq br vr xs N Q R lq lr n1 v1 n2 v2 :=
  ⟨h.a.bel hb, h.b.bel hb, h.q.bel hb, h.r.bel hb, h.A.bel hb, h.B.bel hb, h.Q.bel hb, h.R.bel hb, h.hg, bel_tr h.bel hb, h.r1.bel hb, h.r2.bel hb⟩
theorem DeH.drew (h : DeH w W g na va vb bq vq br vr xs N Q R lq lr n1 v1 n2 v2) : DeH w W.drew g na va vb bq vq br vr xs N Q R lq lr n1 v1 n2 v2 :=
  ⟨h.a, h.b, h.q, h.r, h.A, h.B, h.Q, h.R, h.hg, h.bel.drew, h.r1, h.r2⟩
theorem DeH.facts (h : DeH w W g na va vb bq vq br vr xs N Q R lq lr n1 v1 n2 v2) : W.cell? ⟨w.heap.size, 0, none⟩ = some (.bool na) ∧ W.cell? ⟨w.heap.size, 1, none⟩ = some va ∧
    W.cell? ⟨g, 0, none⟩ = some (.bool false) ∧ W.cell? ⟨g, 1, none⟩ = some vb ∧ W.cell? ⟨g + 1, 0, none⟩ = some (.bool bq) ∧ W.cell? ⟨g + 1, 1, none⟩ = some vq ∧ W.cell? ⟨g + 1 + 1, 0, none⟩ = some (.bool br) ∧ W.cell? ⟨g + 1 + 1, 1, none⟩ = some vr :=
  ⟨h.a.c0, h.a.c1, h.b.c0, h.b.c1, h.q.c0, h.q.c1, h.r.c0, h.r.c1⟩
theorem DeH.frs (h : DeH w W g na va vb bq vq br vr xs N Q R lq lr n1 v1 n2 v2) : W.frozen? ⟨g + 1, 0, none⟩ = false ∧ W.frozen? ⟨g + 1, 1, none⟩ = false ∧ W.frozen? ⟨g + 1 + 1, 0, none⟩ = false ∧ W.frozen? ⟨g + 1 + 1, 1, none⟩ = false :=
  ⟨h.q.fr 0, h.q.fr 1, h.r.fr 0, h.r.fr 1⟩
theorem DeH.putq (h : DeH w W g na va vb bq (.slice C r q) br vr xs N Q R lq lr n1 v1 n2 v2) (hz : NumC W (.agg #[.bool m, z]) Q' lq') :
    DeH w ((W.setCell ⟨g + 1, 0, none⟩ (.bool m)).setCell ⟨g + 1, 1, none⟩ z) g na va vb m z br vr xs N Q' R lq' lr n1 v1 n2 v2 := by
  have hg := h.hg
  have k : ∀ {T : TypeId} {G : Nat} {n : Bool} {v : Value}, G ≠ g + 1 → Bx T W G n v → Bx T ((W.setCell ⟨g + 1, 0, none⟩ (.bool m)).setCell ⟨g + 1, 1, none⟩ z) G n v := fun hG hB => (hB.far hG _).far hG _
  exact ⟨k (by omega) h.a, k (by omega) h.b, (h.q.set0 m).set1 z, k (by omega) h.r, (h.A.box h.q 0 _).box (h.q.set0 m) 1 _, (h.B.box_ h.q 0 _).box_ (h.q.set0 m) 1 _, (hz.box_ h.q 0 _).box_ (h.q.set0 m) 1 _, (h.R.box_ h.q 0 _).box_ (h.q.set0 m) 1 _, hg,
    bel_set (bel_set h.bel (by omega) _ _) (by omega) _ _, k (by omega) h.r1, k (by omega) h.r2⟩
theorem DeH.putr (h : DeH w W g na va vb bq vq br (.slice C r q) xs N Q R lq lr n1 v1 n2 v2) (hz : NumC W (.agg #[.bool m, z]) R' lr') :
    DeH w ((W.setCell ⟨g + 1 + 1, 0, none⟩ (.bool m)).setCell ⟨g + 1 + 1, 1, none⟩ z) g na va vb bq vq m z xs N Q R' lq lr' n1 v1 n2 v2 := by
  have hg := h.hg
  have k : ∀ {T : TypeId} {G : Nat} {n : Bool} {v : Value}, G ≠ g + 1 + 1 → Bx T W G n v → Bx T ((W.setCell ⟨g + 1 + 1, 0, none⟩ (.bool m)).setCell ⟨g + 1 + 1, 1, none⟩ z) G n v := fun hG hB => (hB.far hG _).far hG _
  exact ⟨k (by omega) h.a, k (by omega) h.b, k (by omega) h.q, (h.r.set0 m).set1 z, (h.A.box h.r 0 _).box (h.r.set0 m) 1 _, (h.B.box_ h.r 0 _).box_ (h.r.set0 m) 1 _, (h.Q.box_ h.r 0 _).box_ (h.r.set0 m) 1 _, (hz.box_ h.r 0 _).box_ (h.r.set0 m) 1 _, hg,
    bel_set (bel_set h.bel (by omega) _ _) (by omega) _ _, k (by omega) h.r1, k (by omega) h.r2⟩
theorem DeH.put1 (h : DeH w W g na va vb bq vq br vr xs N Q R lq lr n1 (.slice C r q) n2 v2) :
    DeH w ((W.setCell ⟨w.heap.size + 1, 0, none⟩ (.bool m)).setCell ⟨w.heap.size + 1, 1, none⟩ z) g na va vb bq vq br vr xs N Q R lq lr m z n2 v2 := by
  have hg := h.hg
  have k : ∀ {T : TypeId} {G : Nat} {n : Bool} {v : Value}, G ≠ w.heap.size + 1 → Bx T W G n v → Bx T ((W.setCell ⟨w.heap.size + 1, 0, none⟩ (.bool m)).setCell ⟨w.heap.size + 1, 1, none⟩ z) G n v := fun hG hB => (hB.far hG _).far hG _
  exact ⟨k (by omega) h.a, k (by omega) h.b, k (by omega) h.q, k (by omega) h.r, (h.A.box h.r1 0 _).box (h.r1.set0 m) 1 _, (h.B.box_ h.r1 0 _).box_ (h.r1.set0 m) 1 _, (h.Q.box_ h.r1 0 _).box_ (h.r1.set0 m) 1 _, (h.R.box_ h.r1 0 _).box_ (h.r1.set0 m) 1 _, hg,
    bel_set (bel_set h.bel (by omega) _ _) (by omega) _ _, (h.r1.set0 m).set1 z, k (by omega) h.r2⟩
theorem DeH.put2 (h : DeH w W g na va vb bq vq br vr xs N Q R lq lr n1 v1 n2 (.slice C r q)) :
    DeH w ((W.setCell ⟨w.heap.size + 1 + 1, 0, none⟩ (.bool m)).setCell ⟨w.heap.size + 1 + 1, 1, none⟩ z) g na va vb bq vq br vr xs N Q R lq lr n1 v1 m z := by
  have hg := h.hg
  have k : ∀ {T : TypeId} {G : Nat} {n : Bool} {v : Value}, G ≠ w.heap.size + 1 + 1 → Bx T W G n v → Bx T ((W.setCell ⟨w.heap.size + 1 + 1, 0, none⟩ (.bool m)).setCell ⟨w.heap.size + 1 + 1, 1, none⟩ z) G n v := fun hG hB => (hB.far hG _).far hG _
  exact ⟨k (by omega) h.a, k (by omega) h.b, k (by omega) h.q, k (by omega) h.r, (h.A.box h.r2 0 _).box (h.r2.set0 m) 1 _, (h.B.box_ h.r2 0 _).box_ (h.r2.set0 m) 1 _, (h.Q.box_ h.r2 0 _).box_ (h.r2.set0 m) 1 _, (h.R.box_ h.r2 0 _).box_ (h.r2.set0 m) 1 _, hg,
    bel_set (bel_set h.bel (by omega) _ _) (by omega) _ _, k (by omega) h.r1, (h.r2.set0 m).set1 z⟩
theorem DeH.start (w w1 : World) (hv : Arr w .u64 va xs) (hb : Below (((w.alloc (.cells #[.bool na, va] 65)).alloc (.cells #[.bool false, .slice none 0 0] 65)).alloc (.cells #[.bool false, .slice none 0 0] 65)).heap.size (((w.alloc (.cells #[.bool na, va] 65)).alloc (.cells #[.bool false, .slice none 0 0] 65)).alloc (.cells #[.bool false, .slice none 0 0] 65)) w1)
    (hB : NumC w1 (.agg #[.bool false, vb]) (N : Int) 4) :
    DeH w (((w1.alloc (.cells #[.bool false, vb] 65)).alloc (.cells #[.bool false, .slice none 0 0] 65)).alloc (.cells #[.bool false, .slice none 0 0] 65)) w1.heap.size na va vb false (.slice none 0 0) false (.slice none 0 0) xs N 0 0 0 0 false (.slice none 0 0) false (.slice none 0 0) := by
  have z0 : ∀ W : World, NumC W (.agg #[.bool false, .slice none 0 0]) 0 0 := fun W => ⟨false, _, [], rfl, Arr.nil _ _, fun j => by simp, ⟨top_nil, fun _ => rfl⟩, Nat.le_refl _, rfl⟩
  have a1 := Bx.new 65 w na va
  have a2 := Bx.new 65 (w.alloc (.cells #[.bool na, va] 65)) false (.slice none 0 0)
  have a3 := Bx.new 65 ((w.alloc (.cells #[.bool na, va] 65)).alloc (.cells #[.bool false, .slice none 0 0] 65)) false (.slice none 0 0)
  have b1 := Bx.new 65 w1 false vb
  have b2 := Bx.new 65 (w1.alloc (.cells #[.bool false, vb] 65)) false (.slice none 0 0)
  have b3 := Bx.new 65 ((w1.alloc (.cells #[.bool false, vb] 65)).alloc (.cells #[.bool false, .slice none 0 0] 65)) false (.slice none 0 0)
  have e : ∀ (W : World) (o : Obj), (W.alloc o).heap.size = W.heap.size + 1 := fun W o => by simp
  rw [e] at a2 b2
  rw [e, e] at a3 b3
  have hs := hb.size
  rw [e, e, e] at hs
  have hw := bel_tr (bel_tr (bel_tr (bel_a w (.cells #[.bool na, va] 65)) (bel_a _ (.cells #[.bool false, .slice none 0 0] 65))) (bel_a _ (.cells #[.bool false, .slice none 0 0] 65))) hb
  exact ⟨((((a1.alloc _).alloc _).bel hb).alloc _ |>.alloc _).alloc _, (b1.alloc _).alloc _, b2.alloc _, b3, (((hv.bel hw).alloc _).alloc _).alloc _, ((hB.bel (bel_a _ _)).bel (bel_a _ _)).bel (bel_a _ _), z0 _, z0 _, by omega,
    bel_tr (bel_tr (bel_tr hw (bel_a _ _)) (bel_a _ _)) (bel_a _ _), (((a2.alloc _).bel hb).alloc _ |>.alloc _).alloc _, ((a3.bel hb).alloc _ |>.alloc _).alloc _⟩
end
theorem ret_bx28_28 {fn : Func} {p u : Tmp} {tmps : Array Value} {W : World} {g h : Nat} {n m : Bool} {v x : Value} (hf : fn.results = #[.cell p 65, .cell u 65]) (hp : tmps.getD p undef = .pointer (some ⟨g, 0, none⟩)) (hu : tmps.getD u undef = .pointer (some ⟨h, 0, none⟩)) (hb : Bx 65 W g n v) (hc : Bx 65 W h m x) :
    (results fn tmps).run Tryd.prog W = .ok (.tuple #[.agg #[.bool n, v], .agg #[.bool m, x]]) W := by
  have hb0 := hb.c0
  have hb1 := hb.c1
  have hc0 := hc.c0
  have hc1 := hc.c1
  rw [Array.getD_eq_getD_getElem?] at hp hu
  simp [results, hf, hp, hu, go_sem, hb0, hb1, hc0, hc1]
/-- What the reference's Div answers. -/
def DivRE (x n : Int) (l : Nat) (w : World) (e : Ending) (w' : World) : Prop := ∃ X Y, e = .returned (.tuple #[X, Y]) ∧ NumC w' X (x.tdiv n) l ∧ NumC w' Y (x.tmod n) 4 ∧ Below w.heap.size w w'
end Go.Proofs.YtjjinncecfilpaaDoor
