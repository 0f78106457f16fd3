/- Proved here: words for two numbers in memory and the document's of them, and what BigSums does as far as the document's numbers. Condition: two numbers in any form, of at most 40 digits, that lie in memory. -/
import Derived.Test.YthmpkejdficmgaaDoorSc
namespace Go.Proofs.YthmpkejdficmgaaDoor
open Go.RowKit

/-- What stands in memory: two numbers. -/
structure LwH (w W : World) (b : Bool) (v : Value) (c : Bool) (u : Value) (x y : Int) : Prop where
  ba : Bx 24 W w.heap.size b v
  bb : Bx 24 W (w.heap.size + 1) c u
  A : BigA W (.agg #[.bool b, v]) x 40
  B : BigA W (.agg #[.bool c, u]) y 40
  bel : Below w.heap.size w W
section
variable {w W W' : World} {b c : Bool} {v u : Value} {x y : Int}
theorem LwH.next (h : LwH w W b v c u x y) (hb : Below W.heap.size W W') : LwH w W' b v c u x y :=
  ⟨h.ba.bel hb, h.bb.bel hb, h.A.bel hb, h.B.bel hb, bel_tr h.bel hb⟩
theorem LwH.drew (h : LwH w W b v c u x y) : LwH w W.drew b v c u x y := ⟨h.ba, h.bb, h.A, h.B, h.bel.drew⟩
theorem LwH.facts (h : LwH w W b v c u x y) : W.cell? ⟨w.heap.size, 0, none⟩ = some (.bool b) ∧ W.cell? ⟨w.heap.size, 1, none⟩ = some v ∧ W.cell? ⟨w.heap.size + 1, 0, none⟩ = some (.bool c) ∧ W.cell? ⟨w.heap.size + 1, 1, none⟩ = some u :=
  ⟨h.ba.c0, h.ba.c1, h.bb.c0, h.bb.c1⟩
end
theorem size_a (w : World) (o : Obj) : (w.alloc o).heap.size = w.heap.size + 1 := by simp
theorem LwH.start (w : World) {b c : Bool} {v u : Value} {xs ys : List Nat} (hv : Arr w .u32 v xs) (hu : Arr w .u32 u ys) (hx : Eg xs) (hy : Eg ys) (hxl : xs.length ≤ 40) (hyl : ys.length ≤ 40) :
    LwH w ((w.alloc (.cells #[.bool b, v] 24)).alloc (.cells #[.bool c, u] 24)) b v c u (sv b (dw xs)) (sv c (dw ys)) := by
  have h1 := Bx.new 24 (w.alloc (.cells #[.bool b, v] 24)) c u
  rw [size_a] at h1
  exact ⟨(Bx.new 24 w b v).alloc _, h1, ⟨b, v, xs, rfl, (hv.alloc _).alloc _, hx, hxl, rfl⟩, ⟨c, u, ys, rfl, (hu.alloc _).alloc _, hy, hyl, rfl⟩, bel_tr (bel_a w _) (bel_a _ _)⟩
/-- What stands in memory within the row that makes the document's numbers: two numbers, and boxes that are yet empty. -/
structure LqH (L : List Nat) (w W : World) (b : Bool) (v : Value) (c : Bool) (u : Value) (x y : Int) : Prop where
  H : LwH w W b v c u x y
  bxs : ∀ g ∈ L, w.heap.size + 1 < g ∧ Bx 28 W g false (.slice none 0 0)
  nod : L.Nodup
section
variable {L : List Nat} {w W W' : World} {b c : Bool} {v u : Value} {x y : Int}
theorem LqH.next (h : LqH L w W b v c u x y) (hb : Below W.heap.size W W') : LqH L w W' b v c u x y :=
  ⟨h.H.next hb, fun g hg => ⟨(h.bxs g hg).1, (h.bxs g hg).2.bel hb⟩, h.nod⟩
theorem LqH.drew (h : LqH L w W b v c u x y) : LqH L w W.drew b v c u x y := ⟨h.H.drew, h.bxs, h.nod⟩
theorem LqH.alloc (h : LqH L w W b v c u x y) : LqH (W.heap.size :: L) w (W.alloc (.cells #[.bool false, .slice none 0 0] 28)) b v c u x y :=
  ⟨h.H.next (bel_a _ _), fun g hg => by
    rcases List.mem_cons.1 hg with rfl | hg
    · exact ⟨h.H.bb.lt, Bx.new 28 W _ _⟩
    · exact ⟨(h.bxs g hg).1, (h.bxs g hg).2.alloc _⟩, List.nodup_cons.2 ⟨fun hm => absurd (h.bxs _ hm).2.lt (Nat.lt_irrefl _), h.nod⟩⟩
end
/-- What stands in memory behind that row: two numbers, and the document's of both. -/
structure LxH (w W : World) (b : Bool) (v : Value) (c : Bool) (u : Value) (gx : Nat) (bx : Bool) (vx : Value) (gy : Nat) (b_y : Bool) (vy : Value) (x y : Int) : Prop where
  H : LwH w W b v c u x y
  X : Bx 28 W gx bx vx
  Y : Bx 28 W gy b_y vy
  N : NumC W (.agg #[.bool bx, vx]) x 80
  M : NumC W (.agg #[.bool b_y, vy]) y 80
section
variable {w W W' : World} {b c bx b_y : Bool} {v u vx vy : Value} {x y : Int} {gx gy : Nat}
theorem LxH.next (h : LxH w W b v c u gx bx vx gy b_y vy x y) (hb : Below W.heap.size W W') : LxH w W' b v c u gx bx vx gy b_y vy x y :=
  ⟨h.H.next hb, h.X.bel hb, h.Y.bel hb, h.N.bel hb, h.M.bel hb⟩
theorem LxH.drew (h : LxH w W b v c u gx bx vx gy b_y vy x y) : LxH w W.drew b v c u gx bx vx gy b_y vy x y := ⟨h.H.drew, h.X, h.Y, h.N, h.M⟩
theorem LxH.facts (h : LxH w W b v c u gx bx vx gy b_y vy x y) : W.cell? ⟨w.heap.size, 0, none⟩ = some (.bool b) ∧ W.cell? ⟨w.heap.size, 1, none⟩ = some v ∧ W.cell? ⟨w.heap.size + 1, 0, none⟩ = some (.bool c) ∧ W.cell? ⟨w.heap.size + 1, 1, none⟩ = some u ∧ W.cell? ⟨gx, 0, none⟩ = some (.bool bx) ∧ W.cell? ⟨gx, 1, none⟩ = some vx ∧ W.cell? ⟨gy, 0, none⟩ = some (.bool b_y) ∧ W.cell? ⟨gy, 1, none⟩ = some vy :=
  ⟨h.H.ba.c0, h.H.ba.c1, h.H.bb.c0, h.H.bb.c1, h.X.c0, h.X.c1, h.Y.c0, h.Y.c1⟩
end
section
variable {L : List Nat} {w W W' : World} {b c bx b_y : Bool} {v u vx vy X Y : Value} {x y : Int} {g gx gy : Nat}
theorem LqH.nil (h : LwH w W b v c u x y) : LqH [] w W b v c u x y := ⟨h, fun _ hg => by simp at hg, by simp⟩
theorem LqH.tail (h : LqH (g :: L) w W b v c u x y) : LqH L w W b v c u x y := ⟨h.H, fun k hk => h.bxs k (List.mem_cons_of_mem _ hk), (List.nodup_cons.1 h.nod).2⟩
theorem LqH.f1 (h : LqH (g :: L) w W b v c u x y) : W.cell? ⟨g, 0, none⟩ = some (.bool false) ∧ W.cell? ⟨g, 1, none⟩ = some (.slice none 0 0) ∧ W.frozen? ⟨g, 0, none⟩ = false ∧ W.frozen? ⟨g, 1, none⟩ = false :=
  have hB := (h.bxs g (List.mem_cons_self ..)).2
  ⟨hB.c0, hB.c1, hB.fr 0, hB.fr 1⟩
theorem LqH.fs (h : LqH L w W b v c u x y) : ∀ g ∈ L, ¬ g = W.heap.size ∧ ¬ W.heap.size = g ∧ W.cell? ⟨g, 0, none⟩ = some (.bool false) ∧ W.cell? ⟨g, 1, none⟩ = some (.slice none 0 0) ∧ W.frozen? ⟨g, 0, none⟩ = false ∧ W.frozen? ⟨g, 1, none⟩ = false ∧
    ∀ o, (W.alloc o).cell? ⟨g, 0, none⟩ = some (.bool false) ∧ (W.alloc o).cell? ⟨g, 1, none⟩ = some (.slice none 0 0) ∧ (W.alloc o).frozen? ⟨g, 0, none⟩ = false ∧ (W.alloc o).frozen? ⟨g, 1, none⟩ = false := fun g hg =>
  have hB := (h.bxs g hg).2
  ⟨Nat.ne_of_lt hB.lt, Ne.symm (Nat.ne_of_lt hB.lt), hB.c0, hB.c1, hB.fr 0, hB.fr 1, fun o => ⟨(hB.alloc o).c0, (hB.alloc o).c1, (hB.alloc o).fr 0, (hB.alloc o).fr 1⟩⟩
theorem LqH.pw (h : LqH L w W b v c u x y) : L.Pairwise fun a b => ¬ a = b ∧ ¬ b = a := h.nod.imp fun hab => ⟨hab, Ne.symm hab⟩
theorem LqH.set4 (h : LqH L w W b v c u x y) (hg : g ∈ L) : ((W.setCell ⟨g, 0, none⟩ X).setCell ⟨g, 1, none⟩ Y).cell? ⟨w.heap.size, 0, none⟩ = some (.bool b) ∧ ((W.setCell ⟨g, 0, none⟩ X).setCell ⟨g, 1, none⟩ Y).cell? ⟨w.heap.size, 1, none⟩ = some v ∧
    ((W.setCell ⟨g, 0, none⟩ X).setCell ⟨g, 1, none⟩ Y).cell? ⟨w.heap.size + 1, 0, none⟩ = some (.bool c) ∧ ((W.setCell ⟨g, 0, none⟩ X).setCell ⟨g, 1, none⟩ Y).cell? ⟨w.heap.size + 1, 1, none⟩ = some u := by
  have hl := (h.bxs g hg).1
  have k1 := (h.H.ba.far (p := ⟨g, 0, none⟩) (by show w.heap.size ≠ g; omega) X).far (p := ⟨g, 1, none⟩) (by show w.heap.size ≠ g; omega) Y
  have k2 := (h.H.bb.far (p := ⟨g, 0, none⟩) (by show w.heap.size + 1 ≠ g; omega) X).far (p := ⟨g, 1, none⟩) (by show w.heap.size + 1 ≠ g; omega) Y
  exact ⟨k1.c0, k1.c1, k2.c0, k2.c1⟩
theorem two_facts (h : Bx 24 W w.heap.size b v) (h' : Bx 24 W (w.heap.size + 1) c u) : W.cell? ⟨w.heap.size, 0, none⟩ = some (.bool b) ∧ W.cell? ⟨w.heap.size, 1, none⟩ = some v ∧ W.cell? ⟨w.heap.size + 1, 0, none⟩ = some (.bool c) ∧ W.cell? ⟨w.heap.size + 1, 1, none⟩ = some u := ⟨h.c0, h.c1, h'.c0, h'.c1⟩
theorem Bx.newg {T : TypeId} {G : Nat} {n : Bool} {z : Value} (hG : G = W.heap.size) : Bx T (W.alloc (.cells #[.bool n, z] T)) G n z := hG ▸ Bx.new T W n z
theorem Bx.set2 {T : TypeId} {n m : Bool} {e z : Value} (h : Bx T W g n e) : Bx T ((W.setCell ⟨g, 0, none⟩ (.bool m)).setCell ⟨g, 1, none⟩ z) g m z := (h.set0 m).set1 z
theorem nd2 {a b : Nat} (h : [a, b].Nodup) : a ≠ b := by simpa using h
theorem BigA.box2 {Z : Value} {z : Int} {l : Nat} {T : TypeId} {n m : Bool} {C : Option Addr} {r q : Nat} {e : Value} (h : BigA W Z z l) (hb : Bx T W g n (.slice C r q)) : BigA ((W.setCell ⟨g, 0, none⟩ (.bool m)).setCell ⟨g, 1, none⟩ e) Z z l := (h.box hb 0 _).box (hb.set0 m) 1 _
theorem NumC.box2 {Z : Value} {z : Int} {l : Nat} {T : TypeId} {n m : Bool} {C : Option Addr} {r q : Nat} {e : Value} (h : NumC W Z z l) (hb : Bx T W g n (.slice C r q)) : NumC ((W.setCell ⟨g, 0, none⟩ (.bool m)).setCell ⟨g, 1, none⟩ e) Z z l := (h.box hb 0 _).box (hb.set0 m) 1 _
theorem Bx.far2 {T : TypeId} {G : Nat} {n m : Bool} {e z : Value} (h : Bx T W G n z) (hg : G ≠ g) : Bx T ((W.setCell ⟨g, 0, none⟩ (.bool m)).setCell ⟨g, 1, none⟩ e) G n z := (h.far hg _).far hg _
theorem LqH.fin (h : LqH L w W b v c u x y) (hx : gx ∈ L) (hy : gy ∈ L) (hne : gx ≠ gy) (NX : NumC W (.agg #[.bool bx, vx]) x 80) (NY : NumC W (.agg #[.bool b_y, vy]) y 80) :
    LxH w ((((W.setCell ⟨gx, 0, none⟩ (.bool bx)).setCell ⟨gx, 1, none⟩ vx).setCell ⟨gy, 0, none⟩ (.bool b_y)).setCell ⟨gy, 1, none⟩ vy) b v c u gx bx vx gy b_y vy x y := by
  obtain ⟨lx, Bx_⟩ := h.bxs gx hx
  obtain ⟨ly, By_⟩ := h.bxs gy hy
  have By2 := By_.far2 (g := gx) (m := bx) (e := vx) (Ne.symm hne)
  exact ⟨⟨(h.H.ba.far2 (by omega)).far2 (by omega), (h.H.bb.far2 (by omega)).far2 (by omega), (h.H.A.box2 Bx_).box2 By2, (h.H.B.box2 Bx_).box2 By2, bel_set (bel_set (bel_set (bel_set h.H.bel (by omega) _ _) (by omega) _ _) (by omega) _ _) (by omega) _ _⟩,
    ((Bx_.set0 bx).set1 vx).far2 hne, (By2.set0 b_y).set1 vy, (NX.box2 Bx_).box2 By2, (NY.box2 Bx_).box2 By2⟩
theorem LqH.fin5 (h : LqH L w W b v c u x y) (hy : gy ∈ L) (NX : NumC W (.agg #[.bool bx, vx]) x 80) (NY : NumC W (.agg #[.bool b_y, vy]) y 80) :
    LxH w (((W.alloc (.cells #[.bool bx, vx] 28)).setCell ⟨gy, 0, none⟩ (.bool b_y)).setCell ⟨gy, 1, none⟩ vy) b v c u W.heap.size bx vx gy b_y vy x y := by
  obtain ⟨ly, By_⟩ := h.bxs gy hy
  have hgy := By_.lt
  have By2 := By_.alloc (.cells #[.bool bx, vx] 28)
  have e := bel_a W (.cells #[.bool bx, vx] 28)
  exact ⟨⟨(h.H.ba.alloc _).far2 (by omega), (h.H.bb.alloc _).far2 (by omega), (h.H.A.bel e).box2 By2, (h.H.B.bel e).box2 By2, bel_set (bel_set (bel_tr h.H.bel e) (by omega) _ _) (by omega) _ _⟩,
    (Bx.new 28 W bx vx).far2 (by omega), By2.set2, (NX.bel e).box2 By2, (NY.bel e).box2 By2⟩
theorem LqH.fin1 (h : LqH L w W b v c u x y) (NX : NumC W (.agg #[.bool bx, vx]) x 80) (NY : NumC W (.agg #[.bool b_y, vy]) y 80) :
    LxH w ((W.alloc (.cells #[.bool bx, vx] 28)).alloc (.cells #[.bool b_y, vy] 28)) b v c u W.heap.size bx vx (W.heap.size + 1) b_y vy x y :=
  ⟨(h.H.next (bel_a _ _)).next (bel_a _ _), (Bx.new 28 W bx vx).alloc _, Bx.newg (size_a _ _).symm, (NX.bel (bel_a _ _)).bel (bel_a _ _), (NY.bel (bel_a _ _)).bel (bel_a _ _)⟩
theorem LqH.fin2 (h : LqH L w W b v c u x y) (NX : NumC W (.agg #[.bool bx, vx]) x 80) (NY : NumC W (.agg #[.bool b_y, vy]) y 80) :
    LxH w ((W.alloc (.cells #[.bool b_y, vy] 28)).alloc (.cells #[.bool bx, vx] 28)) b v c u (W.heap.size + 1) bx vx W.heap.size b_y vy x y :=
  ⟨(h.H.next (bel_a _ _)).next (bel_a _ _), Bx.newg (size_a _ _).symm, (Bx.new 28 W b_y vy).alloc _, (NX.bel (bel_a _ _)).bel (bel_a _ _), (NY.bel (bel_a _ _)).bel (bel_a _ _)⟩
end
set_option maxHeartbeats 4000000 in
set_option linter.unusedSimpArgs false in
theorem sums_core (x y : Int) (b c : Bool) (v u : Value) (xs ys : List Nat) (w : World) (hv : Arr w .u32 v xs) (hu : Arr w .u32 u ys) (hx : Eg xs) (hy : Eg ys) (hxl : xs.length ≤ 40) (hyl : ys.length ≤ 40) (hxv : x = sv b (dw xs)) (hyv : y = sv c (dw ys)) (ht : Tab w) :
    Calls Tryd.prog 3 #[.agg #[.bool b, v], .agg #[.bool c, u]] w fun e w' => e = .returned (.bool true) ∧ Below w.heap.size w w' := by
  obtain ⟨A, k, rfl⟩ := hv.slice
  obtain ⟨B, l, rfl⟩ := hu.slice
  have H0 := Lib.hid (LwH.start (b := b) (c := c) w hv hu hx hy hxl hyl)
  rw [← hxv, ← hyv] at H0
  obtain ⟨p, hp⟩ : ∃ p, p = xs.length := ⟨_, rfl⟩
  obtain ⟨q, hq⟩ : ∃ q, q = ys.length := ⟨_, rfl⟩
  rw [← hp] at H0 hxl ⊢
  rw [← hq] at H0 hyl ⊢
  have HT := Lib.hid (ht.below H0.out.bel)
  have hd1 : decide (40 < (p : Int)) = false := decide_eq_false (by omega)
  have hd2 : decide (40 < (q : Int)) = false := decide_eq_false (by omega)
  clear hv hu hx hy hp hq hxv hyv ht
  go_enter Tryd.func3, Tryd.ntmps3
  go_upto_region 5 with (first
    | (go_at_call 8; (with_reducible refine (awake_any _ HT.out).mono ?_); rintro e w1 ⟨rfl, hb⟩; have H1 := Lib.hid (H0.out.next hb); obtain ⟨f1, f2, f3, f4⟩ := H1.out.facts; clear hb))
  have HD := Lib.hid (LqH.nil H1.out)
  go_cut [5, 6] from 19 to 22 (fun s t wx => ∃ (gx : Nat) (bx : Bool) (Cx : Option Addr) (rx qx : Nat) (gy : Nat) (b_y : Bool) (Cy : Option Addr) (ry qy : Nat), s = .pointer (some ⟨gx, 0, none⟩) ∧ t = .pointer (some ⟨gy, 0, none⟩) ∧ LxH w wx b (.slice A p k) c (.slice B q l) gx bx (.slice Cx rx qx) gy b_y (.slice Cy ry qy) x y)
  case first =>
    go_region_held3 (fun w' => w'.cell? ⟨w.heap.size, 0, none⟩ = some (.bool b) ∧ w'.cell? ⟨w.heap.size, 1, none⟩ = some (.slice A p k) ∧ w'.cell? ⟨w.heap.size + 1, 0, none⟩ = some (.bool c) ∧ w'.cell? ⟨w.heap.size + 1, 1, none⟩ = some (.slice B q l))
      (first | (refine two_facts ?_ ?_ <;> (repeat (first | with_reducible exact M.out.H.ba | with_reducible exact M.out.H.bb | with_reducible exact K.out.H.ba | with_reducible exact K.out.H.bb | with_reducible exact HD.out.H.ba | with_reducible exact HD.out.H.bb | with_reducible exact H1.out.ba | with_reducible exact H1.out.bb | with_reducible refine Bx.drew ?_ | with_reducible refine Bx.alloc ?_ _ | (with_reducible refine Bx.far2 ?_ (by omega)))); done) | go_keep)
      (first
        | (go_at_call 9; (with_reducible refine (from_any (.agg #[.bool b, .slice A p k]) x 40 _ HD.out.drew.H.A (by decide)).mono ?_); rintro e w2 ⟨Z2, rfl, ⟨b2, v2, z2, rfl, hv2, h2⟩, hb⟩; obtain ⟨C2, c2, rfl⟩ := hv2.slice; have K := Lib.hid (HD.out.drew.next hb); have NX := Lib.hid (show NumC w2 (.agg #[.bool b2, .slice C2 z2.length c2]) x 80 from ⟨b2, _, z2, rfl, hv2, h2⟩); clear hv2 h2 hb)
        | (go_at_call 9; (with_reducible refine (from_any (.agg #[.bool b, .slice A p k]) x 40 _ HD.out.alloc.drew.H.A (by decide)).mono ?_); rintro e w2 ⟨Z2, rfl, ⟨b2, v2, z2, rfl, hv2, h2⟩, hb⟩; obtain ⟨C2, c2, rfl⟩ := hv2.slice; have K := Lib.hid (HD.out.alloc.drew.next hb); have NX := Lib.hid (show NumC w2 (.agg #[.bool b2, .slice C2 z2.length c2]) x 80 from ⟨b2, _, z2, rfl, hv2, h2⟩); clear hv2 h2 hb)
        | (go_at_call 9; (with_reducible refine (from_any (.agg #[.bool b, .slice A p k]) x 40 _ HD.out.alloc.alloc.drew.H.A (by decide)).mono ?_); rintro e w2 ⟨Z2, rfl, ⟨b2, v2, z2, rfl, hv2, h2⟩, hb⟩; obtain ⟨C2, c2, rfl⟩ := hv2.slice; have K := Lib.hid (HD.out.alloc.alloc.drew.next hb); have NX := Lib.hid (show NumC w2 (.agg #[.bool b2, .slice C2 z2.length c2]) x 80 from ⟨b2, _, z2, rfl, hv2, h2⟩); clear hv2 h2 hb)
        | (go_at_call 9; (with_reducible refine (from_any (.agg #[.bool c, .slice B q l]) y 40 _ K.out.H.B (by decide)).mono ?_); rintro e w3 ⟨Z3, rfl, ⟨b3, v3, z3, rfl, hv3, h3⟩, hb⟩; obtain ⟨C3, c3, rfl⟩ := hv3.slice; have M := Lib.hid (K.out.next hb); have NX := Lib.hid (NumC.bel (NX.out) hb); have NY := Lib.hid (show NumC w3 (.agg #[.bool b3, .slice C3 z3.length c3]) y 80 from ⟨b3, _, z3, rfl, hv3, h3⟩); clear hv3 h3 hb; have hw3 := M.out.H.bb.lt; have hbx := M.out.bxs; have hfs := M.out.fs; have hpw := M.out.pw; simp only [List.forall_mem_cons, List.pairwise_cons, List.Pairwise.nil, List.not_mem_nil, false_implies, implies_true, and_true, size_a] at hbx hfs hpw)
        | (go_at_call 9; (with_reducible refine (from_any (.agg #[.bool c, .slice B q l]) y 40 _ K.out.alloc.H.B (by decide)).mono ?_); rintro e w3 ⟨Z3, rfl, ⟨b3, v3, z3, rfl, hv3, h3⟩, hb⟩; obtain ⟨C3, c3, rfl⟩ := hv3.slice; have M := Lib.hid (K.out.alloc.next hb); have NX := Lib.hid (NumC.bel (NX.out.bel (bel_a _ _)) hb); have NY := Lib.hid (show NumC w3 (.agg #[.bool b3, .slice C3 z3.length c3]) y 80 from ⟨b3, _, z3, rfl, hv3, h3⟩); clear hv3 h3 hb; have hw3 := M.out.H.bb.lt; have hbx := M.out.bxs; have hfs := M.out.fs; have hpw := M.out.pw; simp only [List.forall_mem_cons, List.pairwise_cons, List.Pairwise.nil, List.not_mem_nil, false_implies, implies_true, and_true, size_a] at hbx hfs hpw)
        | (go_at_call 9; (with_reducible refine (from_any (.agg #[.bool c, .slice B q l]) y 40 _ K.out.alloc.alloc.H.B (by decide)).mono ?_); rintro e w3 ⟨Z3, rfl, ⟨b3, v3, z3, rfl, hv3, h3⟩, hb⟩; obtain ⟨C3, c3, rfl⟩ := hv3.slice; have M := Lib.hid (K.out.alloc.alloc.next hb); have NX := Lib.hid (NumC.bel ((NX.out.bel (bel_a _ _)).bel (bel_a _ _)) hb); have NY := Lib.hid (show NumC w3 (.agg #[.bool b3, .slice C3 z3.length c3]) y 80 from ⟨b3, _, z3, rfl, hv3, h3⟩); clear hv3 h3 hb; have hw3 := M.out.H.bb.lt; have hbx := M.out.bxs; have hfs := M.out.fs; have hpw := M.out.pw; simp only [List.forall_mem_cons, List.pairwise_cons, List.Pairwise.nil, List.not_mem_nil, false_implies, implies_true, and_true, size_a] at hbx hfs hpw))
    all_goals
      go_wp2_with fail
      go_meet
      refine ⟨_, b2, C2, z2.length, c2, _, b3, C3, z3.length, c3, rfl, rfl, ?_⟩
      first
        | with_reducible exact M.out.fin1 NX.out NY.out
        | with_reducible exact M.out.fin2 NX.out NY.out
        | with_reducible exact M.out.fin (by simp [size_a]) (by simp [size_a]) (by omega) NX.out NY.out
        | with_reducible exact M.out.alloc.fin (by simp [size_a]) (by simp [size_a]) (by omega) (NX.out.bel (bel_a _ _)) (NY.out.bel (bel_a _ _))
        | with_reducible exact M.out.fin5 (by simp [size_a]) NX.out NY.out
  case rest =>
    obtain ⟨gx, bx, Cx, rx, qx, gy, b_y, Cy, ry, qy, rfl, rfl, hL⟩ := hcut
    have H := Lib.hid hL
    obtain ⟨cc, hcc⟩ : ∃ cc, cc = cmpI x y := ⟨_, rfl⟩
    obtain ⟨ss, hss⟩ : ∃ ss, ss = sgn x := ⟨_, rfl⟩
    have HC := Lib.hid hcc
    have HS := Lib.hid hss
    obtain ⟨f1, f2, f3, f4, f5, f6, f7, f8⟩ := hL.facts
    clear hL hcc hss H1 HD H0 HT
    go_wp2_with fail
    go_region_held3 (fun w' => w'.cell? ⟨w.heap.size, 0, none⟩ = some (.bool b) ∧ w'.cell? ⟨w.heap.size, 1, none⟩ = some (.slice A p k) ∧ w'.cell? ⟨w.heap.size + 1, 0, none⟩ = some (.bool c) ∧ w'.cell? ⟨w.heap.size + 1, 1, none⟩ = some (.slice B q l) ∧ w'.cell? ⟨gx, 0, none⟩ = some (.bool bx) ∧ w'.cell? ⟨gx, 1, none⟩ = some (.slice Cx rx qx) ∧ w'.cell? ⟨gy, 0, none⟩ = some (.bool b_y) ∧ w'.cell? ⟨gy, 1, none⟩ = some (.slice Cy ry qy))
      (first | with_reducible exact H.out.facts | with_reducible exact H.out.drew.facts | go_keep)
      (first
        | (go_at_call 11; (with_reducible refine (add_any _ _ x y 40 40 _ H.out.drew.H.A H.out.drew.H.B (by decide) (by decide)).mono ?_); rintro e w7 ⟨Z, rfl, hZ, hb⟩; have HZ := Lib.hid hZ; have H := Lib.hid (H.out.drew.next hb); clear hZ hb)
        | (go_at_call 14; (with_reducible refine (sub_any _ _ x y 40 40 _ H.out.H.A H.out.H.B (by decide) (by decide)).mono ?_); rintro e w7 ⟨Z, rfl, hZ, hb⟩; have HZ := Lib.hid hZ; have H := Lib.hid (H.out.next hb); clear hZ hb)
        | (go_at_call 16; (with_reducible refine (mul_any _ _ x y 40 40 _ H.out.H.A H.out.H.B (by decide) (by decide)).mono ?_); rintro e w7 ⟨Z, rfl, hZ, hb⟩; have HZ := Lib.hid hZ; have H := Lib.hid (H.out.next hb); clear hZ hb)
        | (go_at_call 18; (with_reducible refine (neg_any _ x 40 _ H.out.H.A (by decide)).mono ?_); rintro e w7 ⟨Z, rfl, hZ, hb⟩; have HZ := Lib.hid hZ; have H := Lib.hid (H.out.next hb); clear hZ hb)
        | (go_at_call 13; (with_reducible refine (radd_any _ _ x y 80 80 _ H.out.N H.out.M (by decide) (by decide)).mono ?_); rintro e w7 ⟨Y, rfl, hZ, hb⟩; have HR := Lib.hid hZ; have HZ := Lib.hid (HZ.out.bel hb); have H := Lib.hid (H.out.next hb); clear hZ hb)
        | (go_at_call 15; (with_reducible refine (rsub_any _ _ x y 80 80 _ H.out.N H.out.M (by decide) (by decide)).mono ?_); rintro e w7 ⟨Y, rfl, hZ, hb⟩; have HR := Lib.hid hZ; have HZ := Lib.hid (HZ.out.bel hb); have H := Lib.hid (H.out.next hb); clear hZ hb)
        | (go_at_call 17; (with_reducible refine (rmul_any _ _ x y 80 80 _ H.out.N H.out.M (by decide) (by decide)).mono ?_); rintro e w7 ⟨Y, rfl, hZ, hb⟩; have HR := Lib.hid hZ; have HZ := Lib.hid (HZ.out.bel hb); have H := Lib.hid (H.out.next hb); clear hZ hb)
        | (go_at_call 19; (with_reducible refine (rneg_any _ x 80 _ H.out.N).mono ?_); rintro e w7 ⟨Y, rfl, hZ, hb⟩; have HR := Lib.hid hZ; have HZ := Lib.hid (HZ.out.bel hb); have H := Lib.hid (H.out.next hb); clear hZ hb)
        | (go_at_call 12; (with_reducible refine (to_any _ _ _ _ HR.out (by decide)).mono ?_); rintro e w7 ⟨T, rfl, hZ, hb⟩; have HO := Lib.hid hZ; have HZ := Lib.hid (HZ.out.bel hb); have H := Lib.hid (H.out.next hb); clear hZ hb)
        | (go_at_call 10; (with_reducible refine (same_any _ _ _ _ _ _ HZ.out HO.out (by decide)).mono ?_); rintro e w7 ⟨rfl, hb⟩; have H := Lib.hid (H.out.next hb); clear hb)
        | (go_at_call 20; (with_reducible refine (cmp_any _ _ x y 40 40 _ H.out.H.A H.out.H.B (by decide)).mono ?_); rintro e w7 ⟨he, hb⟩; rw [← HC.out] at he; subst he; have H := Lib.hid (H.out.next hb); clear hb)
        | (go_at_call 21; (with_reducible refine (rcmp_any _ _ x y 80 80 _ H.out.N H.out.M (by decide) (by decide)).mono ?_); rintro e w7 ⟨he, hb⟩; rw [← HC.out] at he; subst he; have H := Lib.hid (H.out.next hb); clear hb)
        | (go_at_call 22; (with_reducible refine (sign_any _ x 40 _ H.out.H.A).mono ?_); rintro e w7 ⟨he, hb⟩; rw [← HS.out] at he; subst he; have H := Lib.hid (H.out.next hb); clear hb)
        | (go_at_call 23; (with_reducible refine (rsign_any _ x 80 _ H.out.N).mono ?_); rintro e w7 ⟨he, hb⟩; rw [← HS.out] at he; subst he; have H := Lib.hid (H.out.next hb); clear hb))
    all_goals
      go_wp2_with fail
      go_ret
      exact ⟨rfl, H.out.H.bel⟩
end Go.Proofs.YthmpkejdficmgaaDoor
