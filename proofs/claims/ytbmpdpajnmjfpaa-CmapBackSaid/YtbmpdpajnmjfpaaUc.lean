/- Proved here: what readRun answers: the three numbers of a group. Condition: they are there; a text of at most a billion bytes. -/
import Derived.Test.YtbmpdpajnmjfpaaUb
namespace Go.Proofs.Ytbmpdpajnmjfpaa
open Go.RowKit

/-- A run's box. -/
def Bz (w : World) (g : Nat) (x y z : Int) : Prop := w.heap[g]? = some (.cells #[.int .i64 x, .int .i64 y, .int .i64 z] 76 (0, 0))
section
variable {w w' : World} {g : Nat} {x y z : Int}
theorem Bz.lt (h : Bz w g x y z) : g < w.heap.size := heap_lt h
theorem Bz.bel (h : Bz w g x y z) (hb : Below w.heap.size w w') : Bz w' g x y z := (hb.block g h.lt).trans h
theorem Bz.onl {k : Nat} (h : Bz w g x y z) (hb : Onl k w w') (hk : g ≠ k) : Bz w' g x y z := (hb.block g h.lt hk).trans h
theorem Bz.cells (h : Bz w g x y z) : w.cell? ⟨g, 0, none⟩ = some (.int .i64 x) ∧ w.cell? ⟨g, 1, none⟩ = some (.int .i64 y) ∧ w.cell? ⟨g, 2, none⟩ = some (.int .i64 z) :=
  ⟨cell_of_row w g 0 _ 76 (0, 0) h, cell_of_row w g 1 _ 76 (0, 0) h, cell_of_row w g 2 _ 76 (0, 0) h⟩
theorem Bz.frs (h : Bz w g x y z) : w.frozen? ⟨g, 0, none⟩ = false ∧ w.frozen? ⟨g, 1, none⟩ = false ∧ w.frozen? ⟨g, 2, none⟩ = false := by
  unfold Bz at h; exact ⟨by simp [World.frozen?, h], by simp [World.frozen?, h], by simp [World.frozen?, h]⟩
theorem Bz.set0 (h : Bz w g x y z) (u : Int) : Bz (w.setCell ⟨g, 0, none⟩ (.int .i64 u)) g u y z := by
  unfold Bz at h ⊢; simp [World.setCell, Array.getElem?_modify, h]
theorem Bz.set1 (h : Bz w g x y z) (u : Int) : Bz (w.setCell ⟨g, 1, none⟩ (.int .i64 u)) g x u z := by
  unfold Bz at h ⊢; simp [World.setCell, Array.getElem?_modify, h]
theorem Bz.set2 (h : Bz w g x y z) (u : Int) : Bz (w.setCell ⟨g, 2, none⟩ (.int .i64 u)) g x y u := by
  unfold Bz at h ⊢; simp [World.setCell, Array.getElem?_modify, h]
theorem Bz.far (h : Bz w g x y z) {k j : Nat} {u : Value} (hk : g ≠ k) : Bz (w.setCell ⟨k, j, none⟩ u) g x y z := (Below.heap_setCell w ⟨k, j, none⟩ u g hk).trans h
end
theorem Rd.far {T : TypeId} {w : World} {g : Nat} {s : ByteArray} {a : Nat} {f : Bool} (h : Rd T w g s a f) {k j : Nat} {u : Value} (hk : g ≠ k) : Rd T (w.setCell ⟨k, j, none⟩ u) g s a f := (Below.heap_setCell w ⟨k, j, none⟩ u g hk).trans h
theorem ret_run {fn : Func} {p : Tmp} {tmps : Array Value} {W : World} {g : Nat} {x y z : Int} (h : fn.results = #[.cell p 76]) (hp : tmps.getD p undef = .pointer (some ⟨g, 0, none⟩)) (hb : Bz W g x y z) :
    (results fn tmps).run Try.prog W = .ok (.agg #[.int .i64 x, .int .i64 y, .int .i64 z]) W := by
  obtain ⟨hc0, hc1, hc2⟩ := hb.cells
  rw [Array.getD_eq_getD_getElem?] at hp
  simp [results, h, hp, go_sem, hc0, hc1, hc2]
/-- While a group is read: the reader, the result's box, the group's box. -/
structure RrS (w W : World) (rg b0 b9 : Nat) (s : ByteArray) (a : Nat) (x y z : Int) : Prop where
  onl : Onl rg w W
  o0 : w.heap.size ≤ b0
  o9 : w.heap.size ≤ b9
  lr : rg < w.heap.size
  n09 : b0 ≠ b9
  rd : Rd 106 W rg s a false
  res : Bz W b0 0 0 0
  box : Bz W b9 x y z
section
variable {w W W' : World} {rg b0 b9 a : Nat} {s : ByteArray} {x y z : Int}
theorem onl_set {w W : World} {rg g j : Nat} {u : Value} (h : Onl rg w W) (hg : w.heap.size ≤ g) : Onl rg w (W.setCell ⟨g, j, none⟩ u) :=
  ⟨h.os, h.tape, h.output, by simpa [World.setCell] using h.size, fun k hk hkr => (Below.heap_setCell W ⟨g, j, none⟩ u k (by show k ≠ g; omega)).trans (h.block k hk hkr)⟩
theorem RrS.read (h : RrS w W rg b0 b9 s a x y z) {a' : Nat} (hr : Rd 106 W' rg s a' false) (ho : Onl rg W W') : RrS w W' rg b0 b9 s a' x y z :=
  ⟨h.onl.trans ho, h.o0, h.o9, h.lr, h.n09, hr, h.res.onl ho (by have := h.o0; have := h.lr; omega), h.box.onl ho (by have := h.o9; have := h.lr; omega)⟩
theorem RrS.put0 (h : RrS w W rg b0 b9 s a x y z) (u : Int) : RrS w (W.setCell ⟨b9, 0, none⟩ (.int .i64 u)) rg b0 b9 s a u y z :=
  ⟨onl_set h.onl h.o9, h.o0, h.o9, h.lr, h.n09, h.rd.far (by have := h.o9; have := h.lr; omega), h.res.far h.n09, h.box.set0 u⟩
theorem RrS.put1 (h : RrS w W rg b0 b9 s a x y z) (u : Int) : RrS w (W.setCell ⟨b9, 1, none⟩ (.int .i64 u)) rg b0 b9 s a x u z :=
  ⟨onl_set h.onl h.o9, h.o0, h.o9, h.lr, h.n09, h.rd.far (by have := h.o9; have := h.lr; omega), h.res.far h.n09, h.box.set1 u⟩
theorem RrS.put2 (h : RrS w W rg b0 b9 s a x y z) (u : Int) : RrS w (W.setCell ⟨b9, 2, none⟩ (.int .i64 u)) rg b0 b9 s a x y u :=
  ⟨onl_set h.onl h.o9, h.o0, h.o9, h.lr, h.n09, h.rd.far (by have := h.o9; have := h.lr; omega), h.res.far h.n09, h.box.set2 u⟩
end
theorem RrS.start (w : World) (rg a : Nat) (s : ByteArray) (h : Rd 106 w rg s a false) : RrS w ((w.alloc (.cells #[.int .i64 0, .int .i64 0, .int .i64 0] 76)).alloc (.cells #[.int .i64 0, .int .i64 0, .int .i64 0] 76)) rg w.heap.size (w.heap.size + 1) s a 0 0 0 := by
  have hb : Below w.heap.size w ((w.alloc (.cells #[.int .i64 0, .int .i64 0, .int .i64 0] 76)).alloc (.cells #[.int .i64 0, .int .i64 0, .int .i64 0] 76)) := ((Below.refl _ _).alloc (Nat.le_refl _) _).alloc (by simp) _
  refine ⟨Onl.of hb, Nat.le_refl _, by omega, h.lt, by omega, h.bel hb, ?_, ?_⟩
  · unfold Bz; rw [Below.heap_alloc _ _ _ (by simp)]; exact heap_alloc_new w _
  · have := heap_alloc_new (w.alloc (.cells #[.int .i64 0, .int .i64 0, .int .i64 0] 76)) (.cells #[.int .i64 0, .int .i64 0, .int .i64 0] 76)
    unfold Bz
    simpa using this
set_option maxHeartbeats 4000000 in
set_option maxRecDepth 100000 in
theorem readRun_any (s : ByteArray) (rg a : Nat) (w : World) (h : Rd 106 w rg s a false) (hs : s.size ≤ 1000000000) (ha : a + 12 ≤ s.size) :
    Calls Try.prog 42 #[.pointer (some ⟨rg, 0, none⟩)] w fun e w' => e = .returned (.agg #[.int .i64 (n4 s.data.toList a : Int), .int .i64 (n4 s.data.toList (a + 4) : Int), .int .i64 (n4 s.data.toList (a + 4 + 4) : Int)]) ∧ Rd 106 w' rg s (a + 4 + 4 + 4) false ∧ Onl rg w w' := by
  have G1 := Lib.hid (fun W (h : Rd 106 W rg s a false) => rin32 rg s a W h hs (by omega))
  have G2 := Lib.hid (fun W (h : Rd 106 W rg s (a + 4) false) => rin32 rg s (a + 4) W h hs (by omega))
  have G3 := Lib.hid (fun W (h : Rd 106 W rg s (a + 4 + 4) false) => rin32 rg s (a + 4 + 4) W h hs (by omega))
  have b1 := n4_lt s.data.toList a
  have b2 := n4_lt s.data.toList (a + 4)
  have b3 := n4_lt s.data.toList (a + 4 + 4)
  obtain ⟨x, hx⟩ : ∃ x, x = n4 s.data.toList a := ⟨_, rfl⟩
  obtain ⟨y, hy⟩ : ∃ x, x = n4 s.data.toList (a + 4) := ⟨_, rfl⟩
  obtain ⟨z, hz⟩ : ∃ x, x = n4 s.data.toList (a + 4 + 4) := ⟨_, rfl⟩
  rw [← hx] at G1 b1 ⊢
  rw [← hy] at G2 b2 ⊢
  rw [← hz] at G3 b3 ⊢
  have e1 : IntKind.i64.wrap (x : Int) = (x : Int) := i64_in _ (by omega)
  have e2 : IntKind.i64.wrap (y : Int) = (y : Int) := i64_in _ (by omega)
  have e3 : IntKind.i64.wrap (z : Int) = (z : Int) := i64_in _ (by omega)
  have hS := RrS.start w rg a s h
  clear hx hy hz h hs ha
  go_enter Try.func42, Try.ntmps42
  go_upto_region 2 with fail
  obtain ⟨b9, hb9⟩ : ∃ b, b = w.heap.size + 1 := ⟨_, rfl⟩
  obtain ⟨b0, hb0⟩ : ∃ b, b = w.heap.size := ⟨_, rfl⟩
  obtain ⟨W0, hW0⟩ : ∃ W, W = ((w.alloc (.cells #[.int .i64 0, .int .i64 0, .int .i64 0] 76)).alloc (.cells #[.int .i64 0, .int .i64 0, .int .i64 0] 76)) := ⟨_, rfl⟩
  rw [← hW0, ← hb9, ← hb0] at hS
  rw [← hW0, ← hb9, ← hb0]
  have K := Lib.hid hS
  clear hS hb9 hb0 hW0
  go_upto_region 3 with (go_at_call 40; (with_reducible refine (G1.out _ K.out.rd).mono ?_); rintro e w1 ⟨rfl, hr, ho⟩; have K1 := Lib.hid (K.out.read hr ho); clear hr ho; obtain ⟨r0, r1, r2⟩ := K1.out.box.frs; obtain ⟨d0, d1, d2⟩ := K1.out.box.cells)
  have K2 := Lib.hid (K1.out.put0 (x : Int))
  obtain ⟨W2, hW2⟩ : ∃ W, W = w1.setCell ⟨b9, 0, none⟩ (.int .i64 (x : Int)) := ⟨_, rfl⟩
  rw [← hW2] at K2 ⊢
  clear hW2 K K1 r0 r1 r2 d0 d1 d2
  go_upto_region 4 with (go_at_call 40; (with_reducible refine (G2.out _ K2.out.rd).mono ?_); rintro e w3 ⟨rfl, hr, ho⟩; have K3 := Lib.hid (K2.out.read hr ho); clear hr ho; obtain ⟨r0, r1, r2⟩ := K3.out.box.frs; obtain ⟨d0, d1, d2⟩ := K3.out.box.cells)
  have K4 := Lib.hid (K3.out.put1 (y : Int))
  obtain ⟨W4, hW4⟩ : ∃ W, W = w3.setCell ⟨b9, 1, none⟩ (.int .i64 (y : Int)) := ⟨_, rfl⟩
  rw [← hW4] at K4 ⊢
  clear hW4 K2 K3 r0 r1 r2 d0 d1 d2
  go_upto_region 5 with (go_at_call 40; (with_reducible refine (G3.out _ K4.out.rd).mono ?_); rintro e w5 ⟨rfl, hr, ho⟩; have K5 := Lib.hid (K4.out.read hr ho); clear hr ho; obtain ⟨r0, r1, r2⟩ := K5.out.box.frs; obtain ⟨d0, d1, d2⟩ := K5.out.box.cells)
  have K6 := Lib.hid (K5.out.put2 (z : Int))
  obtain ⟨W6, hW6⟩ : ∃ W, W = w5.setCell ⟨b9, 2, none⟩ (.int .i64 (z : Int)) := ⟨_, rfl⟩
  rw [← hW6] at K6 ⊢
  clear hW6 K4 K5 r0 r1 r2 d0 d1 d2
  obtain ⟨c0, c1, c2⟩ := K6.out.box.cells
  obtain ⟨r0, r1, r2⟩ := K6.out.res.frs
  obtain ⟨d0, d1, d2⟩ := K6.out.res.cells
  go_wp2_with fail
  refine bodyPost_ret (ret_run rfl rfl (((K6.out.res.set0 (x : Int)).set1 (y : Int)).set2 (z : Int))) rfl ?_
  have n0 : rg ≠ b0 := by have := K6.out.o0; have := K6.out.lr; omega
  exact ⟨rfl, ((K6.out.rd.far n0).far n0).far n0, onl_set (onl_set (onl_set K6.out.onl K6.out.o0) K6.out.o0) K6.out.o0⟩
end Go.Proofs.Ytbmpdpajnmjfpaa
