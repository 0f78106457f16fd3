/- Proved here: words for boxes that are made while calls run, whatever else stands in memory. No condition of our own. -/
import Derived.Test.YtjjinncecfilpaaDoorXg
import Derived.Test.YtjjinncecfilpaaDoorXd
namespace Go.Proofs.YtjjinncecfilpaaDoor
open Go.RowKit

/-- What lies ahead of block lo, and stays whatever is made or stored behind it. -/
structure PK (P : World → Prop) (lo : Nat) : Prop where
  next : ∀ W W', P W → Below W.heap.size W W' → P W'
  drew : ∀ W, P W → P W.drew
  set : ∀ W g (n : Bool) (C : Option Addr) (r q j : Nat) (y : Value), P W → lo ≤ g → Bx 65 W g n (.slice C r q) → P (W.setCell ⟨g, j, none⟩ y)
/-- What lies ahead of block lo, and boxes behind it that are yet empty. -/
structure EbH (P : World → Prop) (lo : Nat) (L : List Nat) (W : World) : Prop where
  H : P W
  hlo : lo ≤ W.heap.size
  bxs : ∀ g ∈ L, lo ≤ g ∧ Bx 65 W g false (.slice none 0 0)
  nod : L.Nodup
/-- What lies ahead of block lo, and a number in a box behind it. -/
structure ObH (P : World → Prop) (lo : Nat) (W : World) (g : Nat) (b : Bool) (v : Value) (x : Int) (l : Nat) : Prop where
  H : P W
  hlo : lo ≤ g
  X : Bx 65 W g b v
  N : NumC W (.agg #[.bool b, v]) x l
section
variable {P : World → Prop} {lo : Nat} {L : List Nat} {W W' : World} {g gx gy : Nat} {bx b_y : Bool} {Cx Cy : Option Addr} {rx qx ry qy l : Nat} {x : Int}
theorem EbH.next (k : PK P lo) (h : EbH P lo L W) (hb : Below W.heap.size W W') : EbH P lo L W' := ⟨k.next _ _ h.H hb, Nat.le_trans h.hlo hb.size, fun g hg => ⟨(h.bxs g hg).1, (h.bxs g hg).2.bel hb⟩, h.nod⟩
theorem EbH.drew (k : PK P lo) (h : EbH P lo L W) : EbH P lo L W.drew := ⟨k.drew _ h.H, h.hlo, h.bxs, h.nod⟩
theorem EbH.alloc (k : PK P lo) (h : EbH P lo L W) : EbH P lo (W.heap.size :: L) (W.alloc (.cells #[.bool false, .slice none 0 0] 65)) :=
  ⟨k.next _ _ h.H (bel_a _ _), Nat.le_trans h.hlo (bel_a _ _).size, fun g hg => by
    rcases List.mem_cons.1 hg with rfl | hg
    · exact ⟨h.hlo, Bx.new 65 W _ _⟩
    · exact ⟨(h.bxs g hg).1, (h.bxs g hg).2.alloc _⟩, List.nodup_cons.2 ⟨fun hm => absurd (h.bxs _ hm).2.lt (Nat.lt_irrefl _), h.nod⟩⟩
theorem EbH.start (h : P W) (hlo : lo ≤ W.heap.size) : EbH P lo [] W := ⟨h, hlo, fun _ hg => by simp at hg, by simp⟩
theorem EbH.fs (h : EbH P lo L W) : ∀ g ∈ L, ¬ g = W.heap.size ∧ ¬ W.heap.size = g ∧ W.cell? ⟨g, 0, none⟩ = some (.bool false) ∧ W.cell? ⟨g, 1, none⟩ = some (.slice none 0 0) ∧ W.frozen? ⟨g, 0, none⟩ = false ∧ W.frozen? ⟨g, 1, none⟩ = false ∧
    ∀ o, (W.alloc o).cell? ⟨g, 0, none⟩ = some (.bool false) ∧ (W.alloc o).cell? ⟨g, 1, none⟩ = some (.slice none 0 0) ∧ (W.alloc o).frozen? ⟨g, 0, none⟩ = false ∧ (W.alloc o).frozen? ⟨g, 1, none⟩ = false := fun g hg =>
  have hB := (h.bxs g hg).2
  ⟨Nat.ne_of_lt hB.lt, Ne.symm (Nat.ne_of_lt hB.lt), hB.c0, hB.c1, hB.fr 0, hB.fr 1, fun o => ⟨(hB.alloc o).c0, (hB.alloc o).c1, (hB.alloc o).fr 0, (hB.alloc o).fr 1⟩⟩
theorem EbH.pw (h : EbH P lo L W) : L.Pairwise fun a b => ¬ a = b ∧ ¬ b = a := h.nod.imp fun hab => ⟨hab, Ne.symm hab⟩
theorem EbH.los (h : EbH P lo L W) : ∀ g ∈ L, lo ≤ g := fun g hg => (h.bxs g hg).1
theorem Bx.far2_ {T : TypeId} {G : Nat} {n m : Bool} {e z : Value} (h : Bx T W G n z) (hg : G ≠ g) : Bx T ((W.setCell ⟨g, 0, none⟩ (.bool m)).setCell ⟨g, 1, none⟩ e) G n z := (h.far hg _).far hg _
theorem Bx.set2_ {T : TypeId} {n m : Bool} {e z : Value} (h : Bx T W g n e) : Bx T ((W.setCell ⟨g, 0, none⟩ (.bool m)).setCell ⟨g, 1, none⟩ z) g m z := (h.set0 m).set1 z
theorem NumC.box2_ {Z : Value} {z : Int} {l : Nat} {n m : Bool} {C : Option Addr} {r q : Nat} {e : Value} (h : NumC W Z z l) (hb : Bx 65 W g n (.slice C r q)) : NumC ((W.setCell ⟨g, 0, none⟩ (.bool m)).setCell ⟨g, 1, none⟩ e) Z z l := (h.box_ hb 0 _).box_ (hb.set0 m) 1 _
theorem PK.set2 (k : PK P lo) {n m : Bool} {C : Option Addr} {r q : Nat} {e : Value} (h : P W) (hg : lo ≤ g) (hb : Bx 65 W g n (.slice C r q)) : P ((W.setCell ⟨g, 0, none⟩ (.bool m)).setCell ⟨g, 1, none⟩ e) :=
  k.set _ g m C r q 1 e (k.set _ g n C r q 0 _ h hg hb) hg (hb.set0 m)
theorem EbH.fin (k : PK P lo) (h : EbH P lo L W) (hx : gx ∈ L) (hy : gy ∈ L) (hne : gx ≠ gy) (NX : NumC W (.agg #[.bool bx, .slice Cx rx qx]) x l) :
    ObH P lo ((((W.setCell ⟨gx, 0, none⟩ (.bool bx)).setCell ⟨gx, 1, none⟩ (.slice Cx rx qx)).setCell ⟨gy, 0, none⟩ (.bool b_y)).setCell ⟨gy, 1, none⟩ (.slice Cy ry qy)) gx bx (.slice Cx rx qx) x l := by
  obtain ⟨lx, Bx_⟩ := h.bxs gx hx
  obtain ⟨ly, By_⟩ := h.bxs gy hy
  have By2 := By_.far2_ (g := gx) (m := bx) (e := .slice Cx rx qx) (Ne.symm hne)
  exact ⟨k.set2 (k.set2 h.H lx Bx_) ly By2, lx, ((Bx_.set0 bx).set1 _).far2_ hne, (NX.box2_ Bx_).box2_ By2⟩
theorem EbH.fin5 (k : PK P lo) (h : EbH P lo L W) (hy : gy ∈ L) (NX : NumC W (.agg #[.bool bx, .slice Cx rx qx]) x l) :
    ObH P lo (((W.alloc (.cells #[.bool bx, .slice Cx rx qx] 65)).setCell ⟨gy, 0, none⟩ (.bool b_y)).setCell ⟨gy, 1, none⟩ (.slice Cy ry qy)) W.heap.size bx (.slice Cx rx qx) x l := by
  obtain ⟨ly, By_⟩ := h.bxs gy hy
  have hgy := By_.lt
  have By2 := By_.alloc (.cells #[.bool bx, .slice Cx rx qx] 65)
  have e := bel_a W (.cells #[.bool bx, .slice Cx rx qx] 65)
  exact ⟨k.set2 (k.next _ _ h.H e) ly By2, h.hlo, (Bx.new 65 W bx _).far2_ (by omega), (NX.bel e).box2_ By2⟩
theorem EbH.fin1 (k : PK P lo) (h : EbH P lo L W) {o : Obj} (NX : NumC W (.agg #[.bool bx, .slice Cx rx qx]) x l) : ObH P lo ((W.alloc (.cells #[.bool bx, .slice Cx rx qx] 65)).alloc o) W.heap.size bx (.slice Cx rx qx) x l :=
  ⟨k.next _ _ (k.next _ _ h.H (bel_a _ _)) (bel_a _ _), h.hlo, (Bx.new 65 W bx _).alloc _, (NX.bel (bel_a _ _)).bel (bel_a _ _)⟩
theorem EbH.fin2 (k : PK P lo) (h : EbH P lo L W) {o : Obj} (NX : NumC W (.agg #[.bool bx, .slice Cx rx qx]) x l) : ObH P lo ((W.alloc o).alloc (.cells #[.bool bx, .slice Cx rx qx] 65)) (W.heap.size + 1) bx (.slice Cx rx qx) x l :=
  ⟨k.next _ _ (k.next _ _ h.H (bel_a _ _)) (bel_a _ _), Nat.le_trans h.hlo (Nat.le_succ _), Bx.newq (size_a _ _).symm, (NX.bel (bel_a _ _)).bel (bel_a _ _)⟩
end
/-- What stands in memory while a fraction is brought to lowest terms. -/
structure LtH (w W : World) (ga gb : Nat) (nn : Bool) (vn : Value) (nd : Bool) (vd : Value) (n d : Int) (l : Nat) (ba : Bool) (va : Value) (bb : Bool) (vb : Value) (A B : Nat) : Prop where
  pn : Bx 65 W w.heap.size nn vn
  pd : Bx 65 W (w.heap.size + 1) nd vd
  rr : Rt W (w.heap.size + 1 + 1) 0 0
  Nn : NumC W (.agg #[.bool nn, vn]) n l
  Nd : NumC W (.agg #[.bool nd, vd]) d l
  a : Bx 65 W ga ba va
  Na : NumC W (.agg #[.bool ba, va]) (A : Int) l
  b : Bx 65 W gb bb vb
  Nb : NumC W (.agg #[.bool bb, vb]) (B : Int) l
  hga : w.heap.size + 1 + 1 < ga
  hgb : ga < gb
  bel : Below w.heap.size w W
section
variable {w W W' : World} {ga gb l A B R : Nat} {nn nd ba bb m : Bool} {vn vd va vb z : Value} {n d : Int} {C C' : Option Addr} {r q r' q' : Nat}
theorem LtH.next (h : LtH w W ga gb nn vn nd vd n d l ba va bb vb A B) (e : Below W.heap.size W W') : LtH w W' ga gb nn vn nd vd n d l ba va bb vb A B :=
  ⟨h.pn.bel e, h.pd.bel e, h.rr.bel e, h.Nn.bel e, h.Nd.bel e, h.a.bel e, h.Na.bel e, h.b.bel e, h.Nb.bel e, h.hga, h.hgb, bel_tr h.bel e⟩
theorem LtH.drew (h : LtH w W ga gb nn vn nd vd n d l ba va bb vb A B) : LtH w W.drew ga gb nn vn nd vd n d l ba va bb vb A B := ⟨h.pn, h.pd, h.rr, h.Nn, h.Nd, h.a, h.Na, h.b, h.Nb, h.hga, h.hgb, h.bel.drew⟩
theorem LtH.facts (h : LtH w W ga gb nn vn nd vd n d l ba va bb vb A B) : W.cell? ⟨w.heap.size, 0, none⟩ = some (.bool nn) ∧ W.cell? ⟨w.heap.size, 1, none⟩ = some vn ∧ W.cell? ⟨w.heap.size + 1, 0, none⟩ = some (.bool nd) ∧ W.cell? ⟨w.heap.size + 1, 1, none⟩ = some vd ∧
    W.cell? ⟨ga, 0, none⟩ = some (.bool ba) ∧ W.cell? ⟨ga, 1, none⟩ = some va ∧ W.cell? ⟨gb, 0, none⟩ = some (.bool bb) ∧ W.cell? ⟨gb, 1, none⟩ = some vb :=
  ⟨h.pn.c0, h.pn.c1, h.pd.c0, h.pd.c1, h.a.c0, h.a.c1, h.b.c0, h.b.c1⟩
theorem LtH.frs (h : LtH w W ga gb nn vn nd vd n d l ba va bb vb A B) : W.frozen? ⟨ga, 0, none⟩ = false ∧ W.frozen? ⟨ga, 1, none⟩ = false ∧ W.frozen? ⟨gb, 0, none⟩ = false ∧ W.frozen? ⟨gb, 1, none⟩ = false := ⟨h.a.fr 0, h.a.fr 1, h.b.fr 0, h.b.fr 1⟩
theorem Rt.far2' {G g : Nat} {n d : Int} {x y : Value} (h : Rt W G n d) (hg : G ≠ g) : Rt ((W.setCell ⟨g, 0, none⟩ x).setCell ⟨g, 1, none⟩ y) G n d := (h.far hg _).far hg _
/-- The greater one's place is taken by the lesser one, and that one's by what is left over. -/
theorem LtH.step (h : LtH w W ga gb nn vn nd vd n d l ba (.slice C r q) bb (.slice C' r' q') A B) (hz : NumC W (.agg #[.bool m, z]) (R : Int) l) :
    LtH w ((((W.setCell ⟨ga, 0, none⟩ (.bool bb)).setCell ⟨ga, 1, none⟩ (.slice C' r' q')).setCell ⟨gb, 0, none⟩ (.bool m)).setCell ⟨gb, 1, none⟩ z) ga gb nn vn nd vd n d l bb (.slice C' r' q') m z B R := by
  have h1 := h.hga
  have h2 := h.hgb
  have b2 := h.b.far2_ (g := ga) (m := bb) (e := .slice C' r' q') (by omega)
  exact ⟨(h.pn.far2_ (by omega)).far2_ (by omega), (h.pd.far2_ (by omega)).far2_ (by omega), (h.rr.far2' (by omega)).far2' (by omega), (h.Nn.box2_ h.a).box2_ b2, (h.Nd.box2_ h.a).box2_ b2, h.a.set2_.far2_ (by omega), (h.Nb.box2_ h.a).box2_ b2, b2.set2_, (hz.box2_ h.a).box2_ b2, h1, h2,
    bel_set (bel_set (bel_set (bel_set h.bel (by omega) _ _) (by omega) _ _) (by omega) _ _) (by omega) _ _⟩
theorem LtH.pk {lo : Nat} (hlo : gb < lo) (hga : w.heap.size + 1 + 1 < ga) (hgb : ga < gb) : PK (fun W => LtH w W ga gb nn vn nd vd n d l ba va bb vb A B) lo :=
  ⟨fun _ _ h e => h.next e, fun _ h => h.drew, fun W g n' C r q j y h hg hB =>
    ⟨h.pn.far (by show w.heap.size ≠ g; omega) _, h.pd.far (by show w.heap.size + 1 ≠ g; omega) _, h.rr.far (by show w.heap.size + 1 + 1 ≠ g; omega) _, h.Nn.box_ hB j y, h.Nd.box_ hB j y, h.a.far (by show ga ≠ g; omega) _, h.Na.box_ hB j y, h.b.far (by show gb ≠ g; omega) _, h.Nb.box_ hB j y, h.hga, h.hgb, bel_set h.bel (by omega) _ _⟩⟩
theorem ObH.pk {P : World → Prop} {lo lo' g l : Nat} {b : Bool} {v : Value} {x : Int} (k : PK P lo) (hg : g < lo') (hl : lo ≤ lo') : PK (fun W => ObH P lo W g b v x l) lo' :=
  ⟨fun _ _ h e => ⟨k.next _ _ h.H e, h.hlo, h.X.bel e, h.N.bel e⟩, fun _ h => ⟨k.drew _ h.H, h.hlo, h.X, h.N⟩, fun W g' n' C r q j y h hg' hB => ⟨k.set _ g' n' C r q j y h.H (Nat.le_trans hl hg') hB, h.hlo, h.X.far (by show g ≠ g'; omega) _, h.N.box_ hB j y⟩⟩
end
end Go.Proofs.YtjjinncecfilpaaDoor
