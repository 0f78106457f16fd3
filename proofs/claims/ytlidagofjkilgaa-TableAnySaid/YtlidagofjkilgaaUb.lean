/- Proved here: what a row of a directory is, in the program. Condition: the row is there; a text of at most a billion bytes. -/
import Derived.Test.YtlidagofjkilgaaUa
namespace Go.Proofs.Ytlidagofjkilgaa
open Go.RowKit

/-- A row in a box. -/
def Rb (w : World) (g : Nat) (x : ByteArray) (a b c : Nat) : Prop := w.heap[g]? = some (.cells #[.string x, .int .u32 (a : Int), .int .u32 (b : Int), .int .u32 (c : Int)] 67 (0, 0))
section
variable {w w' : World} {g : Nat} {x : ByteArray} {a b c : Nat}
theorem Rb.lt (h : Rb w g x a b c) : g < w.heap.size := heap_lt h
theorem Rb.c0 (h : Rb w g x a b c) : w.cell? ⟨g, 0, none⟩ = some (.string x) := cell_of_row w g 0 _ 67 (0, 0) h
theorem Rb.c1 (h : Rb w g x a b c) : w.cell? ⟨g, 1, none⟩ = some (.int .u32 (a : Int)) := cell_of_row w g 1 _ 67 (0, 0) h
theorem Rb.c2 (h : Rb w g x a b c) : w.cell? ⟨g, 2, none⟩ = some (.int .u32 (b : Int)) := cell_of_row w g 2 _ 67 (0, 0) h
theorem Rb.c3 (h : Rb w g x a b c) : w.cell? ⟨g, 3, none⟩ = some (.int .u32 (c : Int)) := cell_of_row w g 3 _ 67 (0, 0) h
theorem Rb.fr (h : Rb w g x a b c) (j : Nat) : w.frozen? ⟨g, j, none⟩ = false := by
  unfold Rb at h
  simp [World.frozen?, h]
theorem Rb.of (h : Rb w g x a b c) (hb : w'.heap[g]? = w.heap[g]?) : Rb w' g x a b c := hb.trans h
theorem Rb.bel (h : Rb w g x a b c) (hb : Below w.heap.size w w') : Rb w' g x a b c := h.of (hb.block g h.lt)
theorem Rb.onl {k : Nat} (h : Rb w g x a b c) (hb : Onl k w w') (hk : g ≠ k) : Rb w' g x a b c := h.of (hb.block g h.lt hk)
theorem Rb.drewN (h : Rb w g x a b c) (n : Nat) : Rb (w.drewN n) g x a b c := h
theorem Rb.set0 (h : Rb w g x a b c) (y : ByteArray) : Rb (w.setCell ⟨g, 0, none⟩ (.string y)) g y a b c := by
  unfold Rb at h ⊢; simp [World.setCell, Array.getElem?_modify, h]
theorem Rb.set1 (h : Rb w g x a b c) (n : Nat) : Rb (w.setCell ⟨g, 1, none⟩ (.int .u32 (n : Int))) g x n b c := by
  unfold Rb at h ⊢; simp [World.setCell, Array.getElem?_modify, h]
theorem Rb.set2 (h : Rb w g x a b c) (n : Nat) : Rb (w.setCell ⟨g, 2, none⟩ (.int .u32 (n : Int))) g x a n c := by
  unfold Rb at h ⊢; simp [World.setCell, Array.getElem?_modify, h]
theorem Rb.set3 (h : Rb w g x a b c) (n : Nat) : Rb (w.setCell ⟨g, 3, none⟩ (.int .u32 (n : Int))) g x a b n := by
  unfold Rb at h ⊢; simp [World.setCell, Array.getElem?_modify, h]
theorem Rb.far (h : Rb w g x a b c) {k j : Nat} {u : Value} (hk : g ≠ k) : Rb (w.setCell ⟨k, j, none⟩ u) g x a b c := h.of (Below.heap_setCell w ⟨k, j, none⟩ u g hk)
theorem Rb.cells (h : Rb w g x a b c) : w.cell? ⟨g, 0, none⟩ = some (.string x) ∧ w.cell? ⟨g, 1, none⟩ = some (.int .u32 (a : Int)) ∧ w.cell? ⟨g, 2, none⟩ = some (.int .u32 (b : Int)) ∧ w.cell? ⟨g, 3, none⟩ = some (.int .u32 (c : Int)) := ⟨h.c0, h.c1, h.c2, h.c3⟩
theorem Rb.frs (h : Rb w g x a b c) : w.frozen? ⟨g, 0, none⟩ = false ∧ w.frozen? ⟨g, 1, none⟩ = false ∧ w.frozen? ⟨g, 2, none⟩ = false ∧ w.frozen? ⟨g, 3, none⟩ = false := ⟨h.fr 0, h.fr 1, h.fr 2, h.fr 3⟩
end
theorem Rd.far {T : TypeId} {w : World} {g : Nat} {s : ByteArray} {a : Nat} {f : Bool} (h : Rd T w g s a f) {k j : Nat} {u : Value} (hk : g ≠ k) : Rd T (w.setCell ⟨k, j, none⟩ u) g s a f := (Below.heap_setCell w ⟨k, j, none⟩ u g hk).trans h
theorem ret_row {fn : Func} {p : Tmp} {tmps : Array Value} {W : World} {g : Nat} {x : ByteArray} {a b c : Nat} (h : fn.results = #[.cell p 67]) (hp : tmps.getD p undef = .pointer (some ⟨g, 0, none⟩)) (hb : Rb W g x a b c) :
    (results fn tmps).run Try.prog W = .ok (.agg #[.string x, .int .u32 (a : Int), .int .u32 (b : Int), .int .u32 (c : Int)]) W := by
  have hc0 := hb.c0
  have hc1 := hb.c1
  have hc2 := hb.c2
  have hc3 := hb.c3
  rw [Array.getD_eq_getD_getElem?] at hp
  simp [results, h, hp, go_sem, hc0, hc1, hc2, hc3]
/-- While a row is read: the result's box, the reader, the row's box. -/
structure RS (w W : World) (b0 g b9 : Nat) (s : ByteArray) (a : Nat) (x : ByteArray) (n1 n2 n3 : Nat) : Prop where
  bel : Below w.heap.size w W
  o0 : w.heap.size ≤ b0
  og : w.heap.size ≤ g
  o9 : w.heap.size ≤ b9
  n0g : b0 ≠ g
  n09 : b0 ≠ b9
  n9g : b9 ≠ g
  res : Rb W b0 ⟨#[]⟩ 0 0 0
  rd : Rd 108 W g s a false
  box : Rb W b9 x n1 n2 n3
theorem RS.pass {w W W' : World} {b0 g b9 : Nat} {s : ByteArray} {a : Nat} {x : ByteArray} {n1 n2 n3 : Nat} (h : RS w W b0 g b9 s a x n1 n2 n3) (hp : PsE 108 g s a false 4 W W') (ha : a + 4 ≤ s.size) : RS w W' b0 g b9 s (a + 4) x n1 n2 n3 := by
  have e1 : okR s.size a false 4 = true := by unfold okR; simp only [Bool.not_false, Bool.true_and]; exact decide_eq_true ⟨by omega, by omega, by omega⟩
  obtain ⟨h1, h2⟩ := hp
  unfold nxA at h1
  rw [if_pos e1, e1] at h1
  exact ⟨h.bel.trans (h2.below h.og h.bel.size), h.o0, h.og, h.o9, h.n0g, h.n09, h.n9g, h.res.onl h2 h.n0g, h1, h.box.onl h2 h.n9g⟩
section
variable {w W : World} {b0 g b9 : Nat} {s : ByteArray} {a : Nat} {x : ByteArray} {n1 n2 n3 : Nat}
theorem RS.put1 (h : RS w W b0 g b9 s a x n1 n2 n3) (n : Nat) : RS w (W.setCell ⟨b9, 1, none⟩ (.int .u32 (n : Int))) b0 g b9 s a x n n2 n3 :=
  ⟨h.bel.setCell h.o9 _, h.o0, h.og, h.o9, h.n0g, h.n09, h.n9g, h.res.far h.n09, h.rd.far h.n9g.symm, h.box.set1 n⟩
theorem RS.put2 (h : RS w W b0 g b9 s a x n1 n2 n3) (n : Nat) : RS w (W.setCell ⟨b9, 2, none⟩ (.int .u32 (n : Int))) b0 g b9 s a x n1 n n3 :=
  ⟨h.bel.setCell h.o9 _, h.o0, h.og, h.o9, h.n0g, h.n09, h.n9g, h.res.far h.n09, h.rd.far h.n9g.symm, h.box.set2 n⟩
theorem RS.put3 (h : RS w W b0 g b9 s a x n1 n2 n3) (n : Nat) : RS w (W.setCell ⟨b9, 3, none⟩ (.int .u32 (n : Int))) b0 g b9 s a x n1 n2 n :=
  ⟨h.bel.setCell h.o9 _, h.o0, h.og, h.o9, h.n0g, h.n09, h.n9g, h.res.far h.n09, h.rd.far h.n9g.symm, h.box.set3 n⟩
end
/-- Ahead of the row's box: the result's box, and the reader. -/
structure RS0 (w W : World) (b0 g : Nat) (s : ByteArray) (a : Nat) : Prop where
  bel : Below w.heap.size w W
  o0 : w.heap.size ≤ b0
  og : w.heap.size ≤ g
  n0g : b0 ≠ g
  res : Rb W b0 ⟨#[]⟩ 0 0 0
  rd : Rd 108 W g s a false
theorem RS0.box {w W : World} {b0 g : Nat} {s : ByteArray} {a : Nat} (h : RS0 w W b0 g s a) (x : ByteArray) : RS w (W.alloc (.cells #[.string x, .int .u32 0, .int .u32 0, .int .u32 0] 67)) b0 g W.heap.size s a x 0 0 0 := by
  have hb : Below W.heap.size W (W.alloc (.cells #[.string x, .int .u32 0, .int .u32 0, .int .u32 0] 67)) := (Below.refl _ _).alloc (Nat.le_refl _) _
  exact ⟨h.bel.trans (hb.mono h.bel.size), h.o0, h.og, h.bel.size, h.n0g, Nat.ne_of_lt h.res.lt, (Nat.ne_of_lt h.rd.lt).symm, h.res.bel hb, h.rd.bel hb, heap_alloc_new W _⟩
theorem RS0.skip {w W W' : World} {b0 g : Nat} {s : ByteArray} {n : Nat} (h : RS0 w W b0 g s 0) (hp : PsE 108 g s 0 false (n : Int) W W') (hn : n ≤ s.size) : RS0 w W' b0 g s n := by
  have e1 : okR s.size 0 false (n : Int) = true := by unfold okR; simp only [Bool.not_false, Bool.true_and]; exact decide_eq_true ⟨by omega, by omega, by omega⟩
  obtain ⟨h1, h2⟩ := hp
  unfold nxA at h1
  rw [if_pos e1, e1, Nat.zero_add, Int.toNat_natCast] at h1
  exact ⟨h.bel.trans (h2.below h.og h.bel.size), h.o0, h.og, h.n0g, h.res.onl h2 h.n0g, h1⟩
theorem outR_in {s : ByteArray} {a : Nat} (ha : a + 4 ≤ s.size) : outR s.data.toList a false 4 = piece s.data.toList a 4 := by
  unfold outR
  have e1 : okR s.data.toList.length a false 4 = true := by unfold okR; rw [size_list]; simp only [Bool.not_false, Bool.true_and]; exact decide_eq_true ⟨by omega, by omega, by omega⟩
  rw [if_pos e1]
  rfl
/-- Reading a number of 4 bytes that are there. -/
theorem rs_num {w W : World} {b0 g b9 : Nat} {s : ByteArray} {a : Nat} {x : ByteArray} {n1 n2 n3 : Nat} (h : RS w W b0 g b9 s a x n1 n2 n3) (hs : s.size ≤ 1000000000) (ha : a + 4 ≤ s.size) :
    Calls Try.prog 48 #[.pointer (some ⟨g, 0, none⟩)] W fun e w' => e = .returned (.int .u32 (bv (piece s.data.toList a 4) 0 : Int)) ∧ RS w w' b0 g b9 s (a + 4) x n1 n2 n3 :=
  (rdu32_any g s a false W h.rd hs (by omega)).mono fun e w' ⟨h1, h2⟩ => ⟨by rw [h1, outR_in ha], h.pass h2 ha⟩
set_option maxHeartbeats 4000000 in
theorem read_any (s : ByteArray) (i : Nat) (w : World) (hs : s.size ≤ 1000000000) (hi : 12 + 16 * (i + 1) ≤ s.size) :
    Calls Try.prog 29 #[.string s, .int .i64 (i : Int)] w fun e w' => e = .returned (.agg #[.string ⟨(rowOf s.data.toList i).tag.toArray⟩, .int .u32 ((rowOf s.data.toList i).sum : Int), .int .u32 ((rowOf s.data.toList i).place : Int), .int .u32 ((rowOf s.data.toList i).size : Int)]) ∧ Below w.heap.size w w' := by
  obtain ⟨f, hf⟩ : ∃ f, f = 12 + 16 * i := ⟨_, rfl⟩
  have hcut := fun W => cut_any s (f : Int) 4 W hs (by omega)
  have hc2 := cutL_in (l := s.data.toList) (a := f) (n := 4) (by rw [size_list]; omega)
  rw [show ((4 : Nat) : Int) = 4 from rfl] at hc2
  rw [hc2.1, hc2.2] at hcut
  obtain ⟨X, hX⟩ : ∃ X : ByteArray, X = ⟨(piece s.data.toList f 4).toArray⟩ := ⟨_, rfl⟩
  rw [← hX] at hcut
  have w1 : IntKind.i64.wrap ((i : Int) * 16) = (i : Int) * 16 := i64_in _ (by omega)
  have w2 : IntKind.i64.wrap (12 + (i : Int) * 16) = (f : Int) := by rw [i64_in _ (by omega)]; omega
  have w2' : wrap64 (12 + wrap64 ((i : Int) * 16)) = (f : Int) := by unfold wrap64; omega
  obtain ⟨f4, hf4⟩ : ∃ f4, f4 = f + 4 := ⟨_, rfl⟩
  have w3 : (f : Int) + 4 = (f4 : Int) := by omega
  have w4 : wrap64 (f4 : Int) = (f4 : Int) := by unfold wrap64; omega
  have HC := Lib.hid hcut
  have HN := Lib.hid (fun W => new_any s W)
  have HS := Lib.hid hs
  have HR := Lib.hid (show rowOf s.data.toList i = ⟨piece s.data.toList f 4, bv (piece s.data.toList f4 4) 0, bv (piece s.data.toList (f4 + 4) 4) 0, bv (piece s.data.toList (f4 + 4 + 4) 4) 0⟩ by rw [hf4, hf]; rfl)
  have HL := Lib.hid (show f4 + 4 + 4 + 4 ≤ s.size by omega)
  have HX := Lib.hid hX
  clear hf hcut hc2 hX hs hi hf4
  go_enter Try.func29, Try.ntmps29
  go_upto_region 2 with fail
  obtain ⟨b0, hb0⟩ : ∃ b, b = w.heap.size := ⟨_, rfl⟩
  obtain ⟨W0, hW0⟩ : ∃ W, W = w.alloc (.cells #[.string ⟨#[]⟩, .int .u32 0, .int .u32 0, .int .u32 0] 67) := ⟨_, rfl⟩
  have K0 := Lib.hid (show Below w.heap.size w W0 ∧ Rb W0 b0 ⟨#[]⟩ 0 0 0 from by rw [hW0, hb0]; exact ⟨(Below.refl _ _).alloc (Nat.le_refl _) _, heap_alloc_new w _⟩)
  have O0 := Lib.hid (show w.heap.size ≤ b0 by omega)
  rw [← hb0, ← hW0]
  clear hb0 hW0
  go_upto_region 5 with (first
    | (go_at_call 45; (with_reducible refine (HC.out _).mono ?_); rintro e w1 ⟨rfl, hb⟩; have K1 := Lib.hid (And.intro (K0.out.1.trans (hb.mono K0.out.1.size)) (K0.out.2.bel hb)); clear hb)
    | (go_at_call 46; (with_reducible refine (HN.out _).mono ?_); rintro e w2 ⟨rfl, hb, hr, _⟩; have K2 := Lib.hid (show RS0 w w2 b0 w1.heap.size s 0 from ⟨K1.out.1.trans (hb.mono K1.out.1.size), O0.out, K1.out.1.size, Nat.ne_of_lt K1.out.2.lt, K1.out.2.bel hb, hr⟩); clear hb hr)
    | (go_at_call 47; (with_reducible refine (skip_any _ _ _ _ _ _ K2.out.rd HS.out (Nat.zero_le _)).mono ?_); rintro e w3 ⟨rfl, hp⟩; have K3 := Lib.hid (K2.out.skip hp (by have := HL.out; omega)); clear hp))
  obtain ⟨g, hg⟩ : ∃ g, g = w1.heap.size := ⟨_, rfl⟩
  rw [← hg] at K3 ⊢
  clear hg K2 K1 K0
  go_upto_region 6 with fail
  have K4 := Lib.hid (K3.out.box X)
  obtain ⟨b9, hb9⟩ : ∃ b, b = w3.heap.size := ⟨_, rfl⟩
  obtain ⟨W4, hW4⟩ : ∃ W, W = w3.alloc (.cells #[.string X, .int .u32 0, .int .u32 0, .int .u32 0] 67) := ⟨_, rfl⟩
  rw [← hb9, ← hW4] at K4 ⊢
  clear hb9 hW4 K3
  obtain ⟨v1, hv1⟩ : ∃ v, v = bv (piece s.data.toList f4 4) 0 := ⟨_, rfl⟩
  obtain ⟨v2, hv2⟩ : ∃ v, v = bv (piece s.data.toList (f4 + 4) 4) 0 := ⟨_, rfl⟩
  obtain ⟨v3, hv3⟩ : ∃ v, v = bv (piece s.data.toList (f4 + 4 + 4) 4) 0 := ⟨_, rfl⟩
  have N1 := Lib.hid (fun W n1 n2 n3 (h : RS w W b0 g b9 s f4 X n1 n2 n3) => rs_num h HS.out (by have := HL.out; omega))
  have N2 := Lib.hid (fun W n1 n2 n3 (h : RS w W b0 g b9 s (f4 + 4) X n1 n2 n3) => rs_num h HS.out (by have := HL.out; omega))
  have N3 := Lib.hid (fun W n1 n2 n3 (h : RS w W b0 g b9 s (f4 + 4 + 4) X n1 n2 n3) => rs_num h HS.out (by have := HL.out; omega))
  rw [← hv1] at N1 HR
  rw [← hv2] at N2 HR
  rw [← hv3] at N3 HR
  clear hv1 hv2 hv3
  go_upto_region 7 with (go_at_call 48; (with_reducible refine (N1.out _ _ _ _ K4.out).mono ?_); rintro e w5 ⟨rfl, hr⟩; have K5 := Lib.hid hr; obtain ⟨r0, r1, r2, r3⟩ := hr.box.frs; obtain ⟨d0, d1, d2, d3⟩ := hr.box.cells; clear hr)
  have K6 := Lib.hid (K5.out.put1 v1)
  obtain ⟨W6, hW6⟩ : ∃ W, W = w5.setCell ⟨b9, 1, none⟩ (.int .u32 (v1 : Int)) := ⟨_, rfl⟩
  rw [← hW6] at K6 ⊢
  clear hW6 K4 K5 r0 r1 r2 r3 d0 d1 d2 d3
  go_upto_region 8 with (go_at_call 48; (with_reducible refine (N2.out _ _ _ _ K6.out).mono ?_); rintro e w7 ⟨rfl, hr⟩; have K7 := Lib.hid hr; obtain ⟨r0, r1, r2, r3⟩ := hr.box.frs; obtain ⟨d0, d1, d2, d3⟩ := hr.box.cells; clear hr)
  have K8 := Lib.hid (K7.out.put2 v2)
  obtain ⟨W8, hW8⟩ : ∃ W, W = w7.setCell ⟨b9, 2, none⟩ (.int .u32 (v2 : Int)) := ⟨_, rfl⟩
  rw [← hW8] at K8 ⊢
  clear hW8 K6 K7 r0 r1 r2 r3 d0 d1 d2 d3
  go_upto_region 9 with (go_at_call 48; (with_reducible refine (N3.out _ _ _ _ K8.out).mono ?_); rintro e w9 ⟨rfl, hr⟩; have K9 := Lib.hid hr; obtain ⟨r0, r1, r2, r3⟩ := hr.box.frs; obtain ⟨d0, d1, d2, d3⟩ := hr.box.cells; clear hr)
  have K10 := Lib.hid (K9.out.put3 v3)
  obtain ⟨W10, hW10⟩ : ∃ W, W = w9.setCell ⟨b9, 3, none⟩ (.int .u32 (v3 : Int)) := ⟨_, rfl⟩
  rw [← hW10] at K10 ⊢
  clear hW10 K8 K9 r0 r1 r2 r3 d0 d1 d2 d3
  obtain ⟨c0, c1, c2, c3⟩ := K10.out.box.cells
  obtain ⟨r0, r1, r2, r3⟩ := K10.out.res.frs
  obtain ⟨d0, d1, d2, d3⟩ := K10.out.res.cells
  go_wp2_with fail
  refine bodyPost_ret (ret_row rfl rfl (((((K10.out.res.set0 X).set1 v1).set2 v2).set3 v3))) rfl ?_
  rw [HR.out]
  refine ⟨by rw [HX.out], ((((K10.out.bel.setCell K10.out.o0 _).setCell K10.out.o0 _).setCell K10.out.o0 _).setCell K10.out.o0 _)⟩
end Go.Proofs.Ytlidagofjkilgaa
