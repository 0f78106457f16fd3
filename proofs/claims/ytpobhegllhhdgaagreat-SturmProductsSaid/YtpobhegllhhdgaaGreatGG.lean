/- Proved here: what the document's numbers of any size answer and leave in memory (ported). Conditions stand at each. -/
import Derived.Test.YtpobhegllhhdgaaGreatGF
import Derived.IntWalk
namespace Go.Proofs.YtpobhegllhhdgaaGreat
open Go.RowKit

theorem NumC.short_ {W : World} {Z : Value} {z l : Nat} {n : Nat} (h : NumC W Z (z : Int) l) (hz : z < 65536 ^ n) : NumC W Z (z : Int) n := by
  obtain ⟨b, v, xs, h1, h2, h3, h4, h5, h6⟩ := h
  refine ⟨b, v, xs, h1, h2, h3, h4, top_len16 h4.1 ?_, h6⟩
  have : dv xs = z := by cases b <;> simp [sv] at h6 <;> omega
  rw [this]
  exact hz
theorem NumC.box_ {W : World} {Z : Value} {z : Int} {l : Nat} {T : TypeId} {g : Nat} {n : Bool} {C : Option Addr} {r q : Nat} (h : NumC W Z z l) (hb : Bx T W g n (.slice C r q)) (j : Nat) (y : Value) : NumC (W.setCell ⟨g, j, none⟩ y) Z z l := by
  obtain ⟨n, v, xs, h1, h2, h3⟩ := h
  exact ⟨n, v, xs, h1, h2.box hb j y, h3⟩
theorem NumC.eqv {W : World} {Z : Value} {z z' : Int} {l : Nat} (h : NumC W Z z l) (e : z = z') : NumC W Z z' l := e ▸ h
/-- One step of a division bit by bit. -/
theorem div_step (A N k : Nat) (hN : 0 < N) :
    (N ≤ 2 * (A / 2 ^ (k + 1) % N) + A / 2 ^ k % 2 → A / 2 ^ k / N = 2 * (A / 2 ^ (k + 1) / N) + 1 ∧ A / 2 ^ k % N = 2 * (A / 2 ^ (k + 1) % N) + A / 2 ^ k % 2 - N) ∧
    (2 * (A / 2 ^ (k + 1) % N) + A / 2 ^ k % 2 < N → A / 2 ^ k / N = 2 * (A / 2 ^ (k + 1) / N) ∧ A / 2 ^ k % N = 2 * (A / 2 ^ (k + 1) % N) + A / 2 ^ k % 2) := by
  have e1 : A / 2 ^ (k + 1) = A / 2 ^ k / 2 := by rw [Nat.pow_succ, Nat.div_div_eq_div_mul]
  rw [e1]
  generalize A / 2 ^ k = x
  have h1 := Nat.div_add_mod (x / 2) N
  have h2 := Nat.mod_lt (x / 2) hN
  have h3 := Nat.div_add_mod x 2
  generalize hq : x / 2 / N = q at *
  generalize hr : x / 2 % N = r at *
  have h4 : x = N * (2 * q) + (2 * r + x % 2) := by
    rw [Nat.mul_left_comm]
    omega
  have ht : x % 2 < 2 := Nat.mod_lt _ (by decide)
  generalize x % 2 = t at *
  constructor
  · intro hle
    have h5 : x = N * (2 * q + 1) + (2 * r + t - N) := by rw [Nat.mul_add, Nat.mul_one]; omega
    have h6 : 2 * r + t - N < N := by omega
    exact ⟨by rw [h5, Nat.mul_add_div hN, Nat.div_eq_of_lt h6], by rw [h5, Nat.mul_add_mod, Nat.mod_eq_of_lt h6]⟩
  · intro hlt
    exact ⟨by rw [h4, Nat.mul_add_div hN, Nat.div_eq_of_lt hlt]; try rfl, by rw [h4, Nat.mul_add_mod, Nat.mod_eq_of_lt hlt]⟩
/-- What stands in memory: the number, its divisor, how often, what is left over, and the answers' boxes. -/
structure DeH (w W : World) (g : Nat) (na : Bool) (va vb : Value) (bq : Bool) (vq : Value) (br : Bool) (vr : Value) (xs : List Nat) (N : Nat) (Q R : Int) (lq lr : Nat) (n1 : Bool) (v1 : Value) (n2 : Bool) (v2 : Value) : Prop where
  a : Bx 69 W w.heap.size na va
  b : Bx 69 W g false vb
  q : Bx 69 W (g + 1) bq vq
  r : Bx 69 W (g + 1 + 1) br vr
  A : Arr W .u64 va xs
  B : NumC W (.agg #[.bool false, vb]) (N : Int) 4
  Q : NumC W (.agg #[.bool bq, vq]) Q lq
  R : NumC W (.agg #[.bool br, vr]) R lr
  hg : w.heap.size + 1 + 1 < g
  bel : Below w.heap.size w W
  r1 : Bx 69 W (w.heap.size + 1) n1 v1
  r2 : Bx 69 W (w.heap.size + 1 + 1) n2 v2
section
variable {w W W' : World} {g : Nat} {na bq br n1 n2 m : Bool} {va vb vq vr v1 v2 z : Value} {xs : List Nat} {N : Nat} {Q R Q' R' : Int} {lq lr lq' lr' r q r' q' : Nat} {C C' : Option Addr}
theorem DeH.next (h : DeH w W g na va vb bq vq br vr xs N Q R lq lr n1 v1 n2 v2) (hb : Below W.heap.size W W') : DeH w W' g na va vb bq vq br vr xs N Q R lq lr n1 v1 n2 v2 :=
  ⟨h.a.bel hb, h.b.bel hb, h.q.bel hb, h.r.bel hb, h.A.bel hb, h.B.bel hb, h.Q.bel hb, h.R.bel hb, h.hg, bel_tr h.bel hb, h.r1.bel hb, h.r2.bel hb⟩
theorem DeH.drew (h : DeH w W g na va vb bq vq br vr xs N Q R lq lr n1 v1 n2 v2) : DeH w W.drew g na va vb bq vq br vr xs N Q R lq lr n1 v1 n2 v2 :=
  ⟨h.a, h.b, h.q, h.r, h.A, h.B, h.Q, h.R, h.hg, h.bel.drew, h.r1, h.r2⟩
theorem DeH.facts (h : DeH w W g na va vb bq vq br vr xs N Q R lq lr n1 v1 n2 v2) : W.cell? ⟨w.heap.size, 0, none⟩ = some (.bool na) ∧ W.cell? ⟨w.heap.size, 1, none⟩ = some va ∧
    W.cell? ⟨g, 0, none⟩ = some (.bool false) ∧ W.cell? ⟨g, 1, none⟩ = some vb ∧ W.cell? ⟨g + 1, 0, none⟩ = some (.bool bq) ∧ W.cell? ⟨g + 1, 1, none⟩ = some vq ∧ W.cell? ⟨g + 1 + 1, 0, none⟩ = some (.bool br) ∧ W.cell? ⟨g + 1 + 1, 1, none⟩ = some vr :=
  ⟨h.a.c0, h.a.c1, h.b.c0, h.b.c1, h.q.c0, h.q.c1, h.r.c0, h.r.c1⟩
theorem DeH.frs (h : DeH w W g na va vb bq vq br vr xs N Q R lq lr n1 v1 n2 v2) : W.frozen? ⟨g + 1, 0, none⟩ = false ∧ W.frozen? ⟨g + 1, 1, none⟩ = false ∧ W.frozen? ⟨g + 1 + 1, 0, none⟩ = false ∧ W.frozen? ⟨g + 1 + 1, 1, none⟩ = false :=
  ⟨h.q.fr 0, h.q.fr 1, h.r.fr 0, h.r.fr 1⟩
theorem DeH.putq (h : DeH w W g na va vb bq (.slice C r q) br vr xs N Q R lq lr n1 v1 n2 v2) (hz : NumC W (.agg #[.bool m, z]) Q' lq') :
    DeH w ((W.setCell ⟨g + 1, 0, none⟩ (.bool m)).setCell ⟨g + 1, 1, none⟩ z) g na va vb m z br vr xs N Q' R lq' lr n1 v1 n2 v2 := by
  have hg := h.hg
  have k : ∀ {T : TypeId} {G : Nat} {n : Bool} {v : Value}, G ≠ g + 1 → Bx T W G n v → Bx T ((W.setCell ⟨g + 1, 0, none⟩ (.bool m)).setCell ⟨g + 1, 1, none⟩ z) G n v := fun hG hB => (hB.far hG _).far hG _
  exact ⟨k (by omega) h.a, k (by omega) h.b, (h.q.set0 m).set1 z, k (by omega) h.r, (h.A.box h.q 0 _).box (h.q.set0 m) 1 _, (h.B.box_ h.q 0 _).box_ (h.q.set0 m) 1 _, (hz.box_ h.q 0 _).box_ (h.q.set0 m) 1 _, (h.R.box_ h.q 0 _).box_ (h.q.set0 m) 1 _, hg,
    bel_set (bel_set h.bel (by omega) _ _) (by omega) _ _, k (by omega) h.r1, k (by omega) h.r2⟩
theorem DeH.putr (h : DeH w W g na va vb bq vq br (.slice C r q) xs N Q R lq lr n1 v1 n2 v2) (hz : NumC W (.agg #[.bool m, z]) R' lr') :
    DeH w ((W.setCell ⟨g + 1 + 1, 0, none⟩ (.bool m)).setCell ⟨g + 1 + 1, 1, none⟩ z) g na va vb bq vq m z xs N Q R' lq lr' n1 v1 n2 v2 := by
  have hg := h.hg
  have k : ∀ {T : TypeId} {G : Nat} {n : Bool} {v : Value}, G ≠ g + 1 + 1 → Bx T W G n v → Bx T ((W.setCell ⟨g + 1 + 1, 0, none⟩ (.bool m)).setCell ⟨g + 1 + 1, 1, none⟩ z) G n v := fun hG hB => (hB.far hG _).far hG _
  exact ⟨k (by omega) h.a, k (by omega) h.b, k (by omega) h.q, (h.r.set0 m).set1 z, (h.A.box h.r 0 _).box (h.r.set0 m) 1 _, (h.B.box_ h.r 0 _).box_ (h.r.set0 m) 1 _, (h.Q.box_ h.r 0 _).box_ (h.r.set0 m) 1 _, (hz.box_ h.r 0 _).box_ (h.r.set0 m) 1 _, hg,
    bel_set (bel_set h.bel (by omega) _ _) (by omega) _ _, k (by omega) h.r1, k (by omega) h.r2⟩
theorem DeH.put1 (h : DeH w W g na va vb bq vq br vr xs N Q R lq lr n1 (.slice C r q) n2 v2) :
    DeH w ((W.setCell ⟨w.heap.size + 1, 0, none⟩ (.bool m)).setCell ⟨w.heap.size + 1, 1, none⟩ z) g na va vb bq vq br vr xs N Q R lq lr m z n2 v2 := by
  have hg := h.hg
  have k : ∀ {T : TypeId} {G : Nat} {n : Bool} {v : Value}, G ≠ w.heap.size + 1 → Bx T W G n v → Bx T ((W.setCell ⟨w.heap.size + 1, 0, none⟩ (.bool m)).setCell ⟨w.heap.size + 1, 1, none⟩ z) G n v := fun hG hB => (hB.far hG _).far hG _
  exact ⟨k (by omega) h.a, k (by omega) h.b, k (by omega) h.q, k (by omega) h.r, (h.A.box h.r1 0 _).box (h.r1.set0 m) 1 _, (h.B.box_ h.r1 0 _).box_ (h.r1.set0 m) 1 _, (h.Q.box_ h.r1 0 _).box_ (h.r1.set0 m) 1 _, (h.R.box_ h.r1 0 _).box_ (h.r1.set0 m) 1 _, hg,
    bel_set (bel_set h.bel (by omega) _ _) (by omega) _ _, (h.r1.set0 m).set1 z, k (by omega) h.r2⟩
theorem DeH.put2 (h : DeH w W g na va vb bq vq br vr xs N Q R lq lr n1 v1 n2 (.slice C r q)) :
    DeH w ((W.setCell ⟨w.heap.size + 1 + 1, 0, none⟩ (.bool m)).setCell ⟨w.heap.size + 1 + 1, 1, none⟩ z) g na va vb bq vq br vr xs N Q R lq lr n1 v1 m z := by
  have hg := h.hg
  have k : ∀ {T : TypeId} {G : Nat} {n : Bool} {v : Value}, G ≠ w.heap.size + 1 + 1 → Bx T W G n v → Bx T ((W.setCell ⟨w.heap.size + 1 + 1, 0, none⟩ (.bool m)).setCell ⟨w.heap.size + 1 + 1, 1, none⟩ z) G n v := fun hG hB => (hB.far hG _).far hG _
  exact ⟨k (by omega) h.a, k (by omega) h.b, k (by omega) h.q, k (by omega) h.r, (h.A.box h.r2 0 _).box (h.r2.set0 m) 1 _, (h.B.box_ h.r2 0 _).box_ (h.r2.set0 m) 1 _, (h.Q.box_ h.r2 0 _).box_ (h.r2.set0 m) 1 _, (h.R.box_ h.r2 0 _).box_ (h.r2.set0 m) 1 _, hg,
    bel_set (bel_set h.bel (by omega) _ _) (by omega) _ _, k (by omega) h.r1, (h.r2.set0 m).set1 z⟩
theorem DeH.start (w w1 : World) (hv : Arr w .u64 va xs) (hb : Below (((w.alloc (.cells #[.bool na, va] 69)).alloc (.cells #[.bool false, .slice none 0 0] 69)).alloc (.cells #[.bool false, .slice none 0 0] 69)).heap.size (((w.alloc (.cells #[.bool na, va] 69)).alloc (.cells #[.bool false, .slice none 0 0] 69)).alloc (.cells #[.bool false, .slice none 0 0] 69)) w1)
    (hB : NumC w1 (.agg #[.bool false, vb]) (N : Int) 4) :
    DeH w (((w1.alloc (.cells #[.bool false, vb] 69)).alloc (.cells #[.bool false, .slice none 0 0] 69)).alloc (.cells #[.bool false, .slice none 0 0] 69)) w1.heap.size na va vb false (.slice none 0 0) false (.slice none 0 0) xs N 0 0 0 0 false (.slice none 0 0) false (.slice none 0 0) := by
  have z0 : ∀ W : World, NumC W (.agg #[.bool false, .slice none 0 0]) 0 0 := fun W => ⟨false, _, [], rfl, Arr.nil _ _, fun j => by simp, ⟨top_nil, fun _ => rfl⟩, Nat.le_refl _, rfl⟩
  have a1 := Bx.new 69 w na va
  have a2 := Bx.new 69 (w.alloc (.cells #[.bool na, va] 69)) false (.slice none 0 0)
  have a3 := Bx.new 69 ((w.alloc (.cells #[.bool na, va] 69)).alloc (.cells #[.bool false, .slice none 0 0] 69)) false (.slice none 0 0)
  have b1 := Bx.new 69 w1 false vb
  have b2 := Bx.new 69 (w1.alloc (.cells #[.bool false, vb] 69)) false (.slice none 0 0)
  have b3 := Bx.new 69 ((w1.alloc (.cells #[.bool false, vb] 69)).alloc (.cells #[.bool false, .slice none 0 0] 69)) false (.slice none 0 0)
  have e : ∀ (W : World) (o : Obj), (W.alloc o).heap.size = W.heap.size + 1 := fun W o => by simp
  rw [e] at a2 b2
  rw [e, e] at a3 b3
  have hs := hb.size
  rw [e, e, e] at hs
  have hw := bel_tr (bel_tr (bel_tr (bel_a w (.cells #[.bool na, va] 69)) (bel_a _ (.cells #[.bool false, .slice none 0 0] 69))) (bel_a _ (.cells #[.bool false, .slice none 0 0] 69))) hb
  exact ⟨((((a1.alloc _).alloc _).bel hb).alloc _ |>.alloc _).alloc _, (b1.alloc _).alloc _, b2.alloc _, b3, (((hv.bel hw).alloc _).alloc _).alloc _, ((hB.bel (bel_a _ _)).bel (bel_a _ _)).bel (bel_a _ _), z0 _, z0 _, by omega,
    bel_tr (bel_tr (bel_tr hw (bel_a _ _)) (bel_a _ _)) (bel_a _ _), (((a2.alloc _).bel hb).alloc _ |>.alloc _).alloc _, ((a3.bel hb).alloc _ |>.alloc _).alloc _⟩
end
theorem ret_bx28_28 {fn : Func} {p u : Tmp} {tmps : Array Value} {W : World} {g h : Nat} {n m : Bool} {v x : Value} (hf : fn.results = #[.cell p 69, .cell u 69]) (hp : tmps.getD p undef = .pointer (some ⟨g, 0, none⟩)) (hu : tmps.getD u undef = .pointer (some ⟨h, 0, none⟩)) (hb : Bx 69 W g n v) (hc : Bx 69 W h m x) :
    (results fn tmps).run Tryz.prog W = .ok (.tuple #[.agg #[.bool n, v], .agg #[.bool m, x]]) W := by
  have hb0 := hb.c0
  have hb1 := hb.c1
  have hc0 := hc.c0
  have hc1 := hc.c1
  rw [Array.getD_eq_getD_getElem?] at hp hu
  simp [results, hf, hp, hu, go_sem, hb0, hb1, hc0, hc1]
/-- What the reference's Div answers. -/
def DivRE (x n : Int) (l : Nat) (w : World) (e : Ending) (w' : World) : Prop := ∃ X Y, e = .returned (.tuple #[X, Y]) ∧ NumC w' X (x.tdiv n) l ∧ NumC w' Y (x.tmod n) 4 ∧ Below w.heap.size w w'
end Go.Proofs.YtpobhegllhhdgaaGreat

namespace Go.Proofs.YtpobhegllhhdgaaGreat
open Go.RowKit

theorem NumC.parts {W : World} {b : Bool} {v : Value} {z l : Nat} (h : NumC W (.agg #[.bool b, v]) (z : Int) l) : ∃ zs, Arr W .u64 v zs ∧ Dg zs ∧ zs.length ≤ l ∧ dv zs = z := by
  obtain ⟨b', v', zs, hZ, h1, h2, h3, h4, h5⟩ := h
  injection hZ with hZ
  simp at hZ
  obtain ⟨rfl, rfl⟩ := hZ
  exact ⟨zs, h1, h2, h4, by cases b <;> simp [sv] at h5 <;> omega⟩
theorem rof_parts (n : Int) (N : Nat) (hN : N = n.natAbs) (w : World) (h1 : -9223372036854775808 ≤ n) (h2 : n ≤ 9223372036854775807) :
    Calls Tryz.prog 71 #[.int .i64 n] w fun e w' => ∃ m C r q, e = .returned (.agg #[.bool m, .slice C r q]) ∧ NumC w' (.agg #[.bool false, .slice C r q]) (N : Int) 4 ∧ Below w.heap.size w w' :=
  (rof_any n w h1 h2).mono fun _ _ ⟨Z, he, ⟨m, v, zs, hZ, a1, a2, a3, a4, a5⟩, hb⟩ => by
    subst hZ
    obtain ⟨C, q, rfl⟩ := a1.slice
    exact ⟨m, C, _, q, he, ⟨false, _, zs, rfl, a1, a2, ⟨a3.1, fun _ => rfl⟩, a4, by rw [hN, ← a5, natAbs_sv]; rfl⟩, hb⟩
section
variable {w W W' : World} {g : Nat} {na bq br n1 n2 m : Bool} {va vb vq vr v1 v2 z : Value} {xs : List Nat} {N : Nat} {Q R Q' R' : Int} {lq lr lq' lr' r q : Nat} {C : Option Addr}
theorem DeH.vals (h : DeH w W g na va vb bq vq br vr xs N Q R lq lr n1 v1 n2 v2) (hQ : NumC W (.agg #[.bool bq, vq]) Q' lq') (hR : NumC W (.agg #[.bool br, vr]) R' lr') : DeH w W g na va vb bq vq br vr xs N Q' R' lq' lr' n1 v1 n2 v2 :=
  ⟨h.a, h.b, h.q, h.r, h.A, h.B, hQ, hR, h.hg, h.bel, h.r1, h.r2⟩
theorem DeH.f3 (h : DeH w W g na va vb bq vq br vr xs N Q R lq lr n1 v1 n2 v2) : W.cell? ⟨w.heap.size, 0, none⟩ = some (.bool na) ∧ W.cell? ⟨g + 1, 1, none⟩ = some vq ∧ W.cell? ⟨g + 1 + 1, 1, none⟩ = some vr := ⟨h.a.c0, h.q.c1, h.r.c1⟩
/-- What stands in memory behind both answers. -/
structure DfH (w W : World) (g : Nat) (na : Bool) (va vb : Value) (bq : Bool) (vq : Value) (br : Bool) (vr : Value) (xs : List Nat) (N : Nat) (Q R : Int) (lq lr : Nat) (n1 : Bool) (v1 : Value) (n2 : Bool) (v2 : Value) (X Y : Value) (x y : Int) (l : Nat) : Prop where
  H : DeH w W g na va vb bq vq br vr xs N Q R lq lr n1 v1 n2 v2
  X : NumC W X x l
  Y : NumC W Y y 4
variable {X Y : Value} {x y : Int} {l : Nat}
theorem DfH.put1 (h : DfH w W g na va vb bq vq br vr xs N Q R lq lr n1 (.slice C r q) n2 v2 X Y x y l) :
    DfH w ((W.setCell ⟨w.heap.size + 1, 0, none⟩ (.bool m)).setCell ⟨w.heap.size + 1, 1, none⟩ z) g na va vb bq vq br vr xs N Q R lq lr m z n2 v2 X Y x y l :=
  ⟨h.H.put1, (h.X.box_ h.H.r1 0 _).box_ (h.H.r1.set0 m) 1 _, (h.Y.box_ h.H.r1 0 _).box_ (h.H.r1.set0 m) 1 _⟩
theorem DfH.put2 (h : DfH w W g na va vb bq vq br vr xs N Q R lq lr n1 v1 n2 (.slice C r q) X Y x y l) :
    DfH w ((W.setCell ⟨w.heap.size + 1 + 1, 0, none⟩ (.bool m)).setCell ⟨w.heap.size + 1 + 1, 1, none⟩ z) g na va vb bq vq br vr xs N Q R lq lr n1 v1 m z X Y x y l :=
  ⟨h.H.put2, (h.X.box_ h.H.r2 0 _).box_ (h.H.r2.set0 m) 1 _, (h.Y.box_ h.H.r2 0 _).box_ (h.H.r2.set0 m) 1 _⟩
theorem DfH.fin {n : Int} {a : Int} (h : DfH w W g na va vb bq vq br vr xs N Q R lq lr n1 v1 n2 v2 (.agg #[.bool n1, v1]) (.agg #[.bool n2, v2]) x y l) (hx : x = a.tdiv n) (hy : y = a.tmod n) : DivRE a n l w (.returned (.tuple #[.agg #[.bool n1, v1], .agg #[.bool n2, v2]])) W :=
  ⟨_, _, rfl, hx ▸ h.X, hy ▸ h.Y, h.H.bel⟩
end
theorem fld_L (m : Bool) (C : Option Addr) (r q : Nat) (W : World) : (Instr.field 69 (.agg #[.bool m, .slice C r q]) 1).run Tryz.prog W = .ok (.slice C r q) W := by kernel_rfl
set_option maxHeartbeats 8000000 in
set_option maxRecDepth 100000 in
theorem rdiv_core (na : Bool) (v : Value) (xs : List Nat) (n : Int) (w : World) (hv : Arr w .u64 v xs) (hx : Dg xs) (hxl : xs.length ≤ 1000) (hn : n ≠ 0) (h1 : -9223372036854775808 ≤ n) (h2 : n ≤ 9223372036854775807) :
    Calls Tryz.prog 107 #[.agg #[.bool na, v], .int .i64 n] w (DivRE (sv na (dv xs)) n xs.length w) := by
  obtain ⟨A, c, rfl⟩ := hv.slice
  obtain ⟨p, hp⟩ : ∃ p, p = xs.length := ⟨_, rfl⟩
  rw [← hp] at hv hxl ⊢
  have HV := Lib.hid hv
  have HX := Lib.hid (And.intro hx hp)
  obtain ⟨N, hN⟩ : ∃ N, N = n.natAbs := ⟨_, rfl⟩
  have HN := Lib.hid (show 0 < N ∧ N < 65536 ^ 4 by omega)
  have HO := Lib.hid (fun W => rof_parts n N hN W h1 h2)
  have HO1 := Lib.hid (fun W => rof_any 1 W (by decide) (by decide))
  have HD := Lib.hid (sv_tdiv na (dv xs) n)
  have HM := Lib.hid (sv_tmod na (dv xs) n)
  rw [← hN] at HD HM
  have HA := Lib.hid (show dv xs < 65536 ^ p by rw [hp]; exact dv_lt hx)
  clear hv hx hp hN h1 h2 hn
  have hfd := fld_L
  go_enter Tryz.func107, Tryz.ntmps107
  go_wp2_with (go_at_call 71; (with_reducible refine (HO.out _).mono ?_); rintro e w1 ⟨m, C, r, q, rfl, hB, hb⟩; have L0 := Lib.hid (DeH.start (na := na) (va := .slice A p c) (vb := .slice C r q) w w1 HV.out hb hB); obtain ⟨f1, f2, f3, f4, f5, f6, f7, f8⟩ := L0.out.facts; clear hB hb)
  have L1 := Lib.hid (L0.out.vals (Q' := ((dv xs / 2 ^ (16 * p) / N : Nat) : Int)) (R' := ((dv xs / 2 ^ (16 * p) % N : Nat) : Int)) (lq' := p) (lr' := 4)
    ((L0.out.Q.eqv (by rw [Nat.div_eq_of_lt (show dv xs < 2 ^ (16 * p) by rw [Nat.pow_mul]; exact HA.out)]; simp)).le (Nat.zero_le _)) ((L0.out.R.eqv (by rw [Nat.div_eq_of_lt (show dv xs < 2 ^ (16 * p) by rw [Nat.pow_mul]; exact HA.out)]; simp)).le (Nat.zero_le _)))
  clear f1 f2 f3 f4 f5 f6 f7 f8
  go_loopw [9] (fun i wr => ∃ (k : Nat) (y : Int) (bq : Bool) (Cq : Option Addr) (rq qq : Nat) (br : Bool) (Cr : Option Addr) (rr qr : Nat), i = .int .i64 y ∧ y = (k : Int) - 1 ∧ k ≤ 16 * p ∧
    DeH w wr w1.heap.size na (.slice A p c) (.slice C r q) bq (.slice Cq rq qq) br (.slice Cr rr qr) xs N ((dv xs / 2 ^ k / N : Nat) : Int) ((dv xs / 2 ^ k % N : Nat) : Int) p 4 false (.slice none 0 0) false (.slice none 0 0)) (fun i _ => (intOf i + 1).toNat)
  case atStart => exact ⟨16 * p, 16 * (p : Int) - 1, false, none, 0, 0, false, none, 0, 0, rfl, by omega, Nat.le_refl _, L1.out⟩
  case round =>
    obtain ⟨k, y, bq, Cq, rq, qq, br, Cr, rr, qr, rfl, hy, hk, hr⟩ := hrel
    have L := Lib.hid hr
    have hg := hr.hg
    obtain ⟨f1, f2, f3, f4, f5, f6, f7, f8⟩ := hr.facts
    clear L0 L1
    rcases k with _ | k
    · obtain rfl : y = -1 := by omega
      clear hr hy
      obtain ⟨zq, hzq⟩ := L.out.drew.Q.parts
      obtain ⟨zr, hzr⟩ := L.out.drew.R.parts
      have HQ := Lib.hid hzq
      have HR := Lib.hid hzr
      clear hzq hzr f3 f4
      go_wp2_with fail
      have ne1 : ¬ w.heap.size + 1 = w.heap.size := by omega
      have ne2 : ¬ w.heap.size = w.heap.size + 1 := by omega
      have ne3 : ¬ w.heap.size + 1 = w1.heap.size + 1 := by omega
      have ne4 : ¬ w1.heap.size + 1 = w.heap.size + 1 := by omega
      have ne5 : ¬ w.heap.size + 1 = w1.heap.size + 1 + 1 := by omega
      have ne6 : ¬ w1.heap.size + 1 + 1 = w.heap.size + 1 := by omega
      go_region_held3 (fun w' => w'.cell? ⟨w.heap.size, 0, none⟩ = some (.bool na) ∧ w'.cell? ⟨w1.heap.size + 1, 1, none⟩ = some (.slice Cq rq qq) ∧ w'.cell? ⟨w1.heap.size + 1 + 1, 1, none⟩ = some (.slice Cr rr qr))
        (first | with_reducible exact L.out.f3 | with_reducible exact L.out.drew.f3 | with_reducible exact L.out.put1.f3 | with_reducible exact L.out.put2.f3 | with_reducible exact L.out.put1.put2.f3 | with_reducible exact L.out.put2.put1.f3 | go_keep)
        (first
          | (go_at_call 65; (with_reducible refine (norm_parts _ (.slice Cq rq qq) zq _ HQ.out.1 HQ.out.2.1).mono ?_); rintro e w5 ⟨b5, C5, p5, q5, z5, rfl, hs5, hb5⟩; have L := Lib.hid (L.out.drew.next hb5); have HR := Lib.hid (And.intro (HR.out.1.bel hb5) HR.out.2); have HS5 := Lib.hid hs5; have k1 := L.out.r1.c0; have k2 := L.out.r1.c1; have k3 := L.out.r1.fr 0; have k4 := L.out.r1.fr 1; clear hs5 hb5)
          | (go_at_call 65; (with_reducible refine (norm_parts _ (.slice Cr rr qr) zr _ HR.out.1 HR.out.2.1).mono ?_); rintro e w6 ⟨b6, C6, p6, q6, z6, rfl, hs6, hb6⟩; have L := Lib.hid (L.out.next hb6); have HS5 := Lib.hid (And.intro (HS5.out.1.bel hb6) HS5.out.2); have HS6 := Lib.hid hs6; have m1 := L.out.r1.c0; have m2 := L.out.r1.c1; have m3 := L.out.r1.fr 0; have m4 := L.out.r1.fr 1; have m5 := L.out.r2.c0; have m6 := L.out.r2.c1; have m7 := L.out.r2.fr 0; have m8 := L.out.r2.fr 1; clear hs6 hb6)
          | (go_at_call 65; (with_reducible refine (norm_parts _ (.slice Cr rr qr) zr _ ((HR.out.1.box L.out.r1 0 _).box (L.out.r1.set0 b5) 1 _) HR.out.2.1).mono ?_); rintro e w6 ⟨b6, C6, p6, q6, z6, rfl, hs6, hb6⟩; have HS5 := Lib.hid (And.intro (((HS5.out.1.box L.out.r1 0 _).box (L.out.r1.set0 b5) 1 _).bel hb6) HS5.out.2); have L := Lib.hid (L.out.put1.next hb6); have HS6 := Lib.hid hs6; have m1 := L.out.r1.c0; have m2 := L.out.r1.c1; have m3 := L.out.r1.fr 0; have m4 := L.out.r1.fr 1; have m5 := L.out.r2.c0; have m6 := L.out.r2.c1; have m7 := L.out.r2.fr 0; have m8 := L.out.r2.fr 1; clear hs6 hb6))
      go_wp2_with fail
      have hX : NumC w6 (.agg #[.bool b5, .slice C5 p5 q5]) ((sv na (dv xs)).tdiv n) p := ⟨b5, _, z5, rfl, HS5.out.1, HS5.out.2.1, HS5.out.2.2.1, Nat.le_trans HS5.out.2.2.2.1 HQ.out.2.2.1, by rw [HS5.out.2.2.2.2, HQ.out.2.2.2, ← HD.out]; simp⟩
      have hY : NumC w6 (.agg #[.bool b6, .slice C6 p6 q6]) ((sv na (dv xs)).tmod n) 4 := ⟨b6, _, z6, rfl, HS6.out.1, HS6.out.2.1, HS6.out.2.2.1, Nat.le_trans HS6.out.2.2.2.1 HR.out.2.2.1, by rw [HS6.out.2.2.2.2, HR.out.2.2.2, ← HM.out]; simp⟩
      have K := DfH.put2 (m := b6) (z := .slice C6 p6 q6) (DfH.put1 (m := b5) (z := .slice C5 p5 q5) ⟨L.out, hX, hY⟩)
      exact bodyPost_ret (ret_bx28_28 rfl rfl rfl K.H.r1 K.H.r2) rfl (K.fin rfl rfl)
    · obtain rfl : y = (k : Int) := by omega
      clear hr hy
      obtain ⟨g1, g2, g3, g4⟩ := L.out.frs
      obtain ⟨Q, hQ⟩ : ∃ Q, Q = dv xs / 2 ^ (k + 1) / N := ⟨_, rfl⟩
      obtain ⟨R, hR⟩ : ∃ R, R = dv xs / 2 ^ (k + 1) % N := ⟨_, rfl⟩
      obtain ⟨t, ht⟩ : ∃ t, t = dv xs / 2 ^ k % 2 := ⟨_, rfl⟩
      have hst := div_step (dv xs) N k HN.out.1
      rw [← hQ, ← hR, ← ht] at hst
      rw [← hQ, ← hR] at L
      have hRN : R < N := by rw [hR]; exact Nat.mod_lt _ HN.out.1
      have ht2 : t < 2 := by rw [ht]; exact Nat.mod_lt _ (by decide)
      have hbit := bit_dat HX.out.1 k
      rw [← ht] at hbit
      obtain ⟨d, hd⟩ : ∃ d, d = k / 16 := ⟨_, rfl⟩
      obtain ⟨b, hb⟩ : ∃ b, b = k % 16 := ⟨_, rfl⟩
      rw [← hd, ← hb] at hbit
      have hdp : d < p := by omega
      have hb16 : b < 16 := by omega
      have hdl : dat xs d < 65536 := HX.out.1 d
      have F1 : (k : Int) / 16 = (d : Int) := by omega
      have F2 : (k : Int) % 16 = (b : Int) := by omega
      have F3 : ((dat xs d : Int) / 2 ^ b).tmod 2 = (t : Int) := by rw [bit_eq, hbit]
      obtain ⟨ad, rfl, _, _⟩ := L.out.A.get d (by rw [← HX.out.2]; exact hdp)
      have HG := Lib.hid (show ∀ W, Arr W .u64 (.slice (some ad) p c) xs → W.cell? (ad.add d) = some (.int .u64 (dat xs d : Int)) from fun W h => by
        obtain ⟨ad', h1, _, h2⟩ := h.get d (by rw [← HX.out.2]; exact hdp)
        injection h1 with h1
        rw [h1]
        exact h2)
      have HST := Lib.hid hst
      have HRN := Lib.hid hRN
      clear hQ hR ht hst hRN hbit hd hb
      have ne1 : ¬ w1.heap.size + 1 = w1.heap.size + 1 + 1 := by omega
      have ne2 : ¬ w1.heap.size + 1 + 1 = w1.heap.size + 1 := by omega
      rcases Nat.lt_or_ge t 1 with ht1 | ht1
      · have HT0 := Lib.hid (show t = 0 by omega)
        have hb1 : ((t : Int) == 1) = false := by simp; omega
        obtain ⟨cc, hcc⟩ : ∃ cc, cc = cmpI ((R : Int) + (R : Int)) (N : Int) := ⟨_, rfl⟩
        have HC := Lib.hid hcc
        by_cases hle : N ≤ 2 * R + t
        · have HLE := Lib.hid (show N ≤ 2 * R + t from hle)
          have hdc : decide (0 ≤ cc) = true := decide_eq_true (by rw [hcc]; unfold cmpI; split <;> (try split) <;> omega)
          clear hle hcc
          go_wp2_with (first
            | (go_at_call 79; (with_reducible refine (radd_any (.agg #[.bool bq, .slice Cq rq qq]) (.agg #[.bool bq, .slice Cq rq qq]) (Q : Int) (Q : Int) p p _ L.out.Q L.out.Q (by omega) (by omega)).mono ?_); rintro e w2 he; obtain ⟨bw2, Cw2, pw2, qw2, zw2, rfl, hs, hb⟩ := he.open_; have L := Lib.hid (L.out.next hb); (try clear f1 f2 f3 f4 f5 f6 f7 f8 g1 g2 g3 g4); obtain ⟨f1, f2, f3, f4, f5, f6, f7, f8⟩ := L.out.facts; obtain ⟨g1, g2, g3, g4⟩ := L.out.frs; have L := Lib.hid (DeH.putq (m := bw2) (z := .slice Cw2 pw2 qw2) L.out ⟨bw2, _, zw2, rfl, hs⟩); clear he hs hb)
            | (go_at_call 79; (with_reducible refine (radd_any (.agg #[.bool br, .slice Cr rr qr]) (.agg #[.bool br, .slice Cr rr qr]) (R : Int) (R : Int) 4 4 _ L.out.R L.out.R (by decide) (by decide)).mono ?_); rintro e w3 he; obtain ⟨bw3, Cw3, pw3, qw3, zw3, rfl, hs, hb⟩ := he.open_; have L := Lib.hid (L.out.next hb); (try clear f1 f2 f3 f4 f5 f6 f7 f8 g1 g2 g3 g4); obtain ⟨f1, f2, f3, f4, f5, f6, f7, f8⟩ := L.out.facts; obtain ⟨g1, g2, g3, g4⟩ := L.out.frs; have L := Lib.hid (DeH.putr (m := bw3) (z := .slice Cw3 pw3 qw3) L.out ⟨bw3, _, zw3, rfl, hs⟩); have hxc := HG.out _ L.out.A; clear he hs hb)
            | (go_at_call 61; (with_reducible refine (rcmp_any (.agg #[.bool bw3, .slice Cw3 pw3 qw3]) (.agg #[.bool false, .slice C r q]) ((R : Int) + (R : Int)) (N : Int) (max 4 4 + 1) 4 _ L.out.R L.out.B (by omega) (by omega)).mono ?_); rintro e w6 ⟨he, hb⟩; rw [← HC.out] at he; subst he; have L := Lib.hid (L.out.next hb); clear f1 f2 f3 f4 f5 f6 f7 f8 g1 g2 g3 g4; obtain ⟨f1, f2, f3, f4, f5, f6, f7, f8⟩ := L.out.facts; obtain ⟨g1, g2, g3, g4⟩ := L.out.frs; clear hb)
            | (go_at_call 74; (with_reducible refine (rsub_any (.agg #[.bool bw3, .slice Cw3 pw3 qw3]) (.agg #[.bool false, .slice C r q]) ((R : Int) + (R : Int)) (N : Int) (max 4 4 + 1) 4 _ L.out.R L.out.B (by omega) (by omega)).mono ?_); rintro e w7 he; obtain ⟨bw7, Cw7, pw7, qw7, zw7, rfl, hs, hb⟩ := he.open_; have L := Lib.hid (L.out.next hb); (try clear f1 f2 f3 f4 f5 f6 f7 f8 g1 g2 g3 g4); obtain ⟨f1, f2, f3, f4, f5, f6, f7, f8⟩ := L.out.facts; obtain ⟨g1, g2, g3, g4⟩ := L.out.frs; have L := Lib.hid (DeH.putr (m := bw7) (z := .slice Cw7 pw7 qw7) L.out ⟨bw7, _, zw7, rfl, hs⟩); clear he hs hb))
          go_region_with (first
            | (go_at_call 71; (with_reducible refine (HO1.out _).mono ?_); rintro e w8 ⟨Zw8, rfl, hz, hb⟩; have HZ := Lib.hid hz; have L := Lib.hid (L.out.drew.next hb); (try clear f1 f2 f3 f4 f5 f6 f7 f8 g1 g2 g3 g4); obtain ⟨f1, f2, f3, f4, f5, f6, f7, f8⟩ := L.out.facts; obtain ⟨g1, g2, g3, g4⟩ := L.out.frs; clear hz hb)
            | (go_at_call 79; (with_reducible refine (radd_any (.agg #[.bool bw2, .slice Cw2 pw2 qw2]) Zw8 ((Q : Int) + (Q : Int)) 1 (max p p + 1) 4 _ L.out.Q HZ.out (by omega) (by omega)).mono ?_); rintro e w9 he; obtain ⟨bw9, Cw9, pw9, qw9, zw9, rfl, hs, hb⟩ := he.open_; have L := Lib.hid (L.out.next hb); (try clear f1 f2 f3 f4 f5 f6 f7 f8 g1 g2 g3 g4); obtain ⟨f1, f2, f3, f4, f5, f6, f7, f8⟩ := L.out.facts; obtain ⟨g1, g2, g3, g4⟩ := L.out.frs; have L := Lib.hid (DeH.putq (m := bw9) (z := .slice Cw9 pw9 qw9) L.out ⟨bw9, _, zw9, rfl, hs⟩); clear he hs hb))
          all_goals go_wp2_with fail
          all_goals have HE := Lib.hid (HST.out.1 HLE.out)
          all_goals exact ⟨⟨k, (k : Int) - 1, bw9, Cw9, pw9, qw9, bw7, Cw7, pw7, qw7, by simp, rfl, by omega, L.out.vals
            ((L.out.Q.eqv (by rw [HE.out.1]; omega)).short_ (Nat.lt_of_le_of_lt (Nat.le_trans (Nat.div_le_self _ _) (Nat.div_le_self _ _)) HA.out))
            ((L.out.R.eqv (by have := HT0.out; have := HLE.out; rw [HE.out.2]; omega)).short_ (Nat.lt_trans (Nat.mod_lt _ HN.out.1) HN.out.2))⟩, by simp [intOf]⟩

        · have HLE := Lib.hid (show ¬ N ≤ 2 * R + t from hle)
          have hdc : decide (0 ≤ cc) = false := decide_eq_false (by rw [hcc]; unfold cmpI; split <;> (try split) <;> omega)
          clear hle hcc
          go_wp2_with (first
            | (go_at_call 79; (with_reducible refine (radd_any (.agg #[.bool bq, .slice Cq rq qq]) (.agg #[.bool bq, .slice Cq rq qq]) (Q : Int) (Q : Int) p p _ L.out.Q L.out.Q (by omega) (by omega)).mono ?_); rintro e w2 he; obtain ⟨bw2, Cw2, pw2, qw2, zw2, rfl, hs, hb⟩ := he.open_; have L := Lib.hid (L.out.next hb); (try clear f1 f2 f3 f4 f5 f6 f7 f8 g1 g2 g3 g4); obtain ⟨f1, f2, f3, f4, f5, f6, f7, f8⟩ := L.out.facts; obtain ⟨g1, g2, g3, g4⟩ := L.out.frs; have L := Lib.hid (DeH.putq (m := bw2) (z := .slice Cw2 pw2 qw2) L.out ⟨bw2, _, zw2, rfl, hs⟩); clear he hs hb)
            | (go_at_call 79; (with_reducible refine (radd_any (.agg #[.bool br, .slice Cr rr qr]) (.agg #[.bool br, .slice Cr rr qr]) (R : Int) (R : Int) 4 4 _ L.out.R L.out.R (by decide) (by decide)).mono ?_); rintro e w3 he; obtain ⟨bw3, Cw3, pw3, qw3, zw3, rfl, hs, hb⟩ := he.open_; have L := Lib.hid (L.out.next hb); (try clear f1 f2 f3 f4 f5 f6 f7 f8 g1 g2 g3 g4); obtain ⟨f1, f2, f3, f4, f5, f6, f7, f8⟩ := L.out.facts; obtain ⟨g1, g2, g3, g4⟩ := L.out.frs; have L := Lib.hid (DeH.putr (m := bw3) (z := .slice Cw3 pw3 qw3) L.out ⟨bw3, _, zw3, rfl, hs⟩); have hxc := HG.out _ L.out.A; clear he hs hb)
            | (go_at_call 61; (with_reducible refine (rcmp_any (.agg #[.bool bw3, .slice Cw3 pw3 qw3]) (.agg #[.bool false, .slice C r q]) ((R : Int) + (R : Int)) (N : Int) (max 4 4 + 1) 4 _ L.out.R L.out.B (by omega) (by omega)).mono ?_); rintro e w6 ⟨he, hb⟩; rw [← HC.out] at he; subst he; have L := Lib.hid (L.out.next hb); clear f1 f2 f3 f4 f5 f6 f7 f8 g1 g2 g3 g4; obtain ⟨f1, f2, f3, f4, f5, f6, f7, f8⟩ := L.out.facts; obtain ⟨g1, g2, g3, g4⟩ := L.out.frs; clear hb)
            | (go_at_call 74; (with_reducible refine (rsub_any (.agg #[.bool bw3, .slice Cw3 pw3 qw3]) (.agg #[.bool false, .slice C r q]) ((R : Int) + (R : Int)) (N : Int) (max 4 4 + 1) 4 _ L.out.R L.out.B (by omega) (by omega)).mono ?_); rintro e w7 he; obtain ⟨bw7, Cw7, pw7, qw7, zw7, rfl, hs, hb⟩ := he.open_; have L := Lib.hid (L.out.next hb); (try clear f1 f2 f3 f4 f5 f6 f7 f8 g1 g2 g3 g4); obtain ⟨f1, f2, f3, f4, f5, f6, f7, f8⟩ := L.out.facts; obtain ⟨g1, g2, g3, g4⟩ := L.out.frs; have L := Lib.hid (DeH.putr (m := bw7) (z := .slice Cw7 pw7 qw7) L.out ⟨bw7, _, zw7, rfl, hs⟩); clear he hs hb))
          all_goals have HE := Lib.hid (HST.out.2 (Nat.lt_of_not_le HLE.out))
          all_goals exact ⟨⟨k, (k : Int) - 1, bw2, Cw2, pw2, qw2, bw3, Cw3, pw3, qw3, by simp, rfl, by omega, L.out.vals
            ((L.out.Q.eqv (by rw [HE.out.1]; omega)).short_ (Nat.lt_of_le_of_lt (Nat.le_trans (Nat.div_le_self _ _) (Nat.div_le_self _ _)) HA.out))
            ((L.out.R.eqv (by have := HT0.out; have := HLE.out; rw [HE.out.2]; omega)).short_ (Nat.lt_trans (Nat.mod_lt _ HN.out.1) HN.out.2))⟩, by simp [intOf]⟩


      · have HT0 := Lib.hid (show t = 1 by omega)
        have hb1 : ((t : Int) == 1) = true := by simp; omega
        obtain ⟨cc, hcc⟩ : ∃ cc, cc = cmpI ((R : Int) + (R : Int) + 1) (N : Int) := ⟨_, rfl⟩
        have HC := Lib.hid hcc
        by_cases hle : N ≤ 2 * R + t
        · have HLE := Lib.hid (show N ≤ 2 * R + t from hle)
          have hdc : decide (0 ≤ cc) = true := decide_eq_true (by rw [hcc]; unfold cmpI; split <;> (try split) <;> omega)
          clear hle hcc
          go_wp2_with (first
            | (go_at_call 79; (with_reducible refine (radd_any (.agg #[.bool bq, .slice Cq rq qq]) (.agg #[.bool bq, .slice Cq rq qq]) (Q : Int) (Q : Int) p p _ L.out.Q L.out.Q (by omega) (by omega)).mono ?_); rintro e w2 he; obtain ⟨bw2, Cw2, pw2, qw2, zw2, rfl, hs, hb⟩ := he.open_; have L := Lib.hid (L.out.next hb); (try clear f1 f2 f3 f4 f5 f6 f7 f8 g1 g2 g3 g4); obtain ⟨f1, f2, f3, f4, f5, f6, f7, f8⟩ := L.out.facts; obtain ⟨g1, g2, g3, g4⟩ := L.out.frs; have L := Lib.hid (DeH.putq (m := bw2) (z := .slice Cw2 pw2 qw2) L.out ⟨bw2, _, zw2, rfl, hs⟩); clear he hs hb)
            | (go_at_call 79; (with_reducible refine (radd_any (.agg #[.bool br, .slice Cr rr qr]) (.agg #[.bool br, .slice Cr rr qr]) (R : Int) (R : Int) 4 4 _ L.out.R L.out.R (by decide) (by decide)).mono ?_); rintro e w3 he; obtain ⟨bw3, Cw3, pw3, qw3, zw3, rfl, hs, hb⟩ := he.open_; have L := Lib.hid (L.out.next hb); (try clear f1 f2 f3 f4 f5 f6 f7 f8 g1 g2 g3 g4); obtain ⟨f1, f2, f3, f4, f5, f6, f7, f8⟩ := L.out.facts; obtain ⟨g1, g2, g3, g4⟩ := L.out.frs; have L := Lib.hid (DeH.putr (m := bw3) (z := .slice Cw3 pw3 qw3) L.out ⟨bw3, _, zw3, rfl, hs⟩); have hxc := HG.out _ L.out.A; clear he hs hb))
          clear hxc
          go_region_with (first
            | (go_at_call 71; (with_reducible refine (HO1.out _).mono ?_); rintro e w4 ⟨Zw4, rfl, hz, hb⟩; have HZ := Lib.hid hz; have L := Lib.hid (L.out.drew.next hb); (try clear f1 f2 f3 f4 f5 f6 f7 f8 g1 g2 g3 g4); obtain ⟨f1, f2, f3, f4, f5, f6, f7, f8⟩ := L.out.facts; obtain ⟨g1, g2, g3, g4⟩ := L.out.frs; clear hz hb)
            | (go_at_call 79; (with_reducible refine (radd_any (.agg #[.bool bw3, .slice Cw3 pw3 qw3]) Zw4 ((R : Int) + (R : Int)) 1 (max 4 4 + 1) 4 _ L.out.R HZ.out (by omega) (by omega)).mono ?_); rintro e w5 he; obtain ⟨bw5, Cw5, pw5, qw5, zw5, rfl, hs, hb⟩ := he.open_; have L := Lib.hid (L.out.next hb); (try clear f1 f2 f3 f4 f5 f6 f7 f8 g1 g2 g3 g4); obtain ⟨f1, f2, f3, f4, f5, f6, f7, f8⟩ := L.out.facts; obtain ⟨g1, g2, g3, g4⟩ := L.out.frs; have L := Lib.hid (DeH.putr (m := bw5) (z := .slice Cw5 pw5 qw5) L.out ⟨bw5, _, zw5, rfl, hs⟩); clear he hs hb))
          all_goals go_wp2_with (first
            | (go_at_call 61; (with_reducible refine (rcmp_any (.agg #[.bool bw5, .slice Cw5 pw5 qw5]) (.agg #[.bool false, .slice C r q]) ((R : Int) + (R : Int) + 1) (N : Int) (max (max 4 4 + 1) 4 + 1) 4 _ L.out.R L.out.B (by omega) (by omega)).mono ?_); rintro e w6 ⟨he, hb⟩; rw [← HC.out] at he; subst he; have L := Lib.hid (L.out.next hb); clear f1 f2 f3 f4 f5 f6 f7 f8 g1 g2 g3 g4; obtain ⟨f1, f2, f3, f4, f5, f6, f7, f8⟩ := L.out.facts; obtain ⟨g1, g2, g3, g4⟩ := L.out.frs; clear hb)
            | (go_at_call 74; (with_reducible refine (rsub_any (.agg #[.bool bw5, .slice Cw5 pw5 qw5]) (.agg #[.bool false, .slice C r q]) ((R : Int) + (R : Int) + 1) (N : Int) (max (max 4 4 + 1) 4 + 1) 4 _ L.out.R L.out.B (by omega) (by omega)).mono ?_); rintro e w7 he; obtain ⟨bw7, Cw7, pw7, qw7, zw7, rfl, hs, hb⟩ := he.open_; have L := Lib.hid (L.out.next hb); (try clear f1 f2 f3 f4 f5 f6 f7 f8 g1 g2 g3 g4); obtain ⟨f1, f2, f3, f4, f5, f6, f7, f8⟩ := L.out.facts; obtain ⟨g1, g2, g3, g4⟩ := L.out.frs; have L := Lib.hid (DeH.putr (m := bw7) (z := .slice Cw7 pw7 qw7) L.out ⟨bw7, _, zw7, rfl, hs⟩); clear he hs hb))
          all_goals go_region_with (first
            | (go_at_call 71; (with_reducible refine (HO1.out _).mono ?_); rintro e w8 ⟨Zw8, rfl, hz, hb⟩; have HZ := Lib.hid hz; have L := Lib.hid (L.out.drew.next hb); (try clear f1 f2 f3 f4 f5 f6 f7 f8 g1 g2 g3 g4); obtain ⟨f1, f2, f3, f4, f5, f6, f7, f8⟩ := L.out.facts; obtain ⟨g1, g2, g3, g4⟩ := L.out.frs; clear hz hb)
            | (go_at_call 79; (with_reducible refine (radd_any (.agg #[.bool bw2, .slice Cw2 pw2 qw2]) Zw8 ((Q : Int) + (Q : Int)) 1 (max p p + 1) 4 _ L.out.Q HZ.out (by omega) (by omega)).mono ?_); rintro e w9 he; obtain ⟨bw9, Cw9, pw9, qw9, zw9, rfl, hs, hb⟩ := he.open_; have L := Lib.hid (L.out.next hb); (try clear f1 f2 f3 f4 f5 f6 f7 f8 g1 g2 g3 g4); obtain ⟨f1, f2, f3, f4, f5, f6, f7, f8⟩ := L.out.facts; obtain ⟨g1, g2, g3, g4⟩ := L.out.frs; have L := Lib.hid (DeH.putq (m := bw9) (z := .slice Cw9 pw9 qw9) L.out ⟨bw9, _, zw9, rfl, hs⟩); clear he hs hb))
          all_goals go_wp2_with fail
          all_goals have HE := Lib.hid (HST.out.1 HLE.out)
          all_goals exact ⟨⟨k, (k : Int) - 1, bw9, Cw9, pw9, qw9, bw7, Cw7, pw7, qw7, by simp, rfl, by omega, L.out.vals
            ((L.out.Q.eqv (by rw [HE.out.1]; omega)).short_ (Nat.lt_of_le_of_lt (Nat.le_trans (Nat.div_le_self _ _) (Nat.div_le_self _ _)) HA.out))
            ((L.out.R.eqv (by have := HT0.out; have := HLE.out; rw [HE.out.2]; omega)).short_ (Nat.lt_trans (Nat.mod_lt _ HN.out.1) HN.out.2))⟩, by simp [intOf]⟩

        · have HLE := Lib.hid (show ¬ N ≤ 2 * R + t from hle)
          have hdc : decide (0 ≤ cc) = false := decide_eq_false (by rw [hcc]; unfold cmpI; split <;> (try split) <;> omega)
          clear hle hcc
          go_wp2_with (first
            | (go_at_call 79; (with_reducible refine (radd_any (.agg #[.bool bq, .slice Cq rq qq]) (.agg #[.bool bq, .slice Cq rq qq]) (Q : Int) (Q : Int) p p _ L.out.Q L.out.Q (by omega) (by omega)).mono ?_); rintro e w2 he; obtain ⟨bw2, Cw2, pw2, qw2, zw2, rfl, hs, hb⟩ := he.open_; have L := Lib.hid (L.out.next hb); (try clear f1 f2 f3 f4 f5 f6 f7 f8 g1 g2 g3 g4); obtain ⟨f1, f2, f3, f4, f5, f6, f7, f8⟩ := L.out.facts; obtain ⟨g1, g2, g3, g4⟩ := L.out.frs; have L := Lib.hid (DeH.putq (m := bw2) (z := .slice Cw2 pw2 qw2) L.out ⟨bw2, _, zw2, rfl, hs⟩); clear he hs hb)
            | (go_at_call 79; (with_reducible refine (radd_any (.agg #[.bool br, .slice Cr rr qr]) (.agg #[.bool br, .slice Cr rr qr]) (R : Int) (R : Int) 4 4 _ L.out.R L.out.R (by decide) (by decide)).mono ?_); rintro e w3 he; obtain ⟨bw3, Cw3, pw3, qw3, zw3, rfl, hs, hb⟩ := he.open_; have L := Lib.hid (L.out.next hb); (try clear f1 f2 f3 f4 f5 f6 f7 f8 g1 g2 g3 g4); obtain ⟨f1, f2, f3, f4, f5, f6, f7, f8⟩ := L.out.facts; obtain ⟨g1, g2, g3, g4⟩ := L.out.frs; have L := Lib.hid (DeH.putr (m := bw3) (z := .slice Cw3 pw3 qw3) L.out ⟨bw3, _, zw3, rfl, hs⟩); have hxc := HG.out _ L.out.A; clear he hs hb))
          clear hxc
          go_region_with (first
            | (go_at_call 71; (with_reducible refine (HO1.out _).mono ?_); rintro e w4 ⟨Zw4, rfl, hz, hb⟩; have HZ := Lib.hid hz; have L := Lib.hid (L.out.drew.next hb); (try clear f1 f2 f3 f4 f5 f6 f7 f8 g1 g2 g3 g4); obtain ⟨f1, f2, f3, f4, f5, f6, f7, f8⟩ := L.out.facts; obtain ⟨g1, g2, g3, g4⟩ := L.out.frs; clear hz hb)
            | (go_at_call 79; (with_reducible refine (radd_any (.agg #[.bool bw3, .slice Cw3 pw3 qw3]) Zw4 ((R : Int) + (R : Int)) 1 (max 4 4 + 1) 4 _ L.out.R HZ.out (by omega) (by omega)).mono ?_); rintro e w5 he; obtain ⟨bw5, Cw5, pw5, qw5, zw5, rfl, hs, hb⟩ := he.open_; have L := Lib.hid (L.out.next hb); (try clear f1 f2 f3 f4 f5 f6 f7 f8 g1 g2 g3 g4); obtain ⟨f1, f2, f3, f4, f5, f6, f7, f8⟩ := L.out.facts; obtain ⟨g1, g2, g3, g4⟩ := L.out.frs; have L := Lib.hid (DeH.putr (m := bw5) (z := .slice Cw5 pw5 qw5) L.out ⟨bw5, _, zw5, rfl, hs⟩); clear he hs hb))
          all_goals go_wp2_with (first
            | (go_at_call 61; (with_reducible refine (rcmp_any (.agg #[.bool bw5, .slice Cw5 pw5 qw5]) (.agg #[.bool false, .slice C r q]) ((R : Int) + (R : Int) + 1) (N : Int) (max (max 4 4 + 1) 4 + 1) 4 _ L.out.R L.out.B (by omega) (by omega)).mono ?_); rintro e w6 ⟨he, hb⟩; rw [← HC.out] at he; subst he; have L := Lib.hid (L.out.next hb); clear f1 f2 f3 f4 f5 f6 f7 f8 g1 g2 g3 g4; obtain ⟨f1, f2, f3, f4, f5, f6, f7, f8⟩ := L.out.facts; obtain ⟨g1, g2, g3, g4⟩ := L.out.frs; clear hb)
            | (go_at_call 74; (with_reducible refine (rsub_any (.agg #[.bool bw5, .slice Cw5 pw5 qw5]) (.agg #[.bool false, .slice C r q]) ((R : Int) + (R : Int) + 1) (N : Int) (max (max 4 4 + 1) 4 + 1) 4 _ L.out.R L.out.B (by omega) (by omega)).mono ?_); rintro e w7 he; obtain ⟨bw7, Cw7, pw7, qw7, zw7, rfl, hs, hb⟩ := he.open_; have L := Lib.hid (L.out.next hb); (try clear f1 f2 f3 f4 f5 f6 f7 f8 g1 g2 g3 g4); obtain ⟨f1, f2, f3, f4, f5, f6, f7, f8⟩ := L.out.facts; obtain ⟨g1, g2, g3, g4⟩ := L.out.frs; have L := Lib.hid (DeH.putr (m := bw7) (z := .slice Cw7 pw7 qw7) L.out ⟨bw7, _, zw7, rfl, hs⟩); clear he hs hb))
          all_goals have HE := Lib.hid (HST.out.2 (Nat.lt_of_not_le HLE.out))
          all_goals exact ⟨⟨k, (k : Int) - 1, bw2, Cw2, pw2, qw2, bw5, Cw5, pw5, qw5, by simp, rfl, by omega, L.out.vals
            ((L.out.Q.eqv (by rw [HE.out.1]; omega)).short_ (Nat.lt_of_le_of_lt (Nat.le_trans (Nat.div_le_self _ _) (Nat.div_le_self _ _)) HA.out))
            ((L.out.R.eqv (by have := HT0.out; have := HLE.out; rw [HE.out.2]; omega)).short_ (Nat.lt_trans (Nat.mod_lt _ HN.out.1) HN.out.2))⟩, by simp [intOf]⟩



theorem rdiv_any (X : Value) (x n : Int) (l : Nat) (w : World) (hX : NumC w X x l) (hl : l ≤ 1000) (hn : n ≠ 0) (h1 : -9223372036854775808 ≤ n) (h2 : n ≤ 9223372036854775807) : Calls Tryz.prog 107 #[X, .int .i64 n] w (DivRE x n l w) := by
  obtain ⟨b, v, xs, rfl, hv, hx, _, hxl, rfl⟩ := hX
  exact (rdiv_core b v xs n w hv hx (by omega) hn h1 h2).mono fun _ _ ⟨X, Y, h1, h2, h3, h4⟩ => ⟨X, Y, h1, h2.le hxl, h3, h4⟩
end Go.Proofs.YtpobhegllhhdgaaGreat
