/- Proved here: the statement WideSums: for all numbers, package wide's sums, differences and products are the document's, or too great. -/
import Derived.Test.YtmhpfmhpilmfdaaDoorPb
import Derived.Test.YtmhpfmhpilmfdaaDoorRj
import Derived.Test.YtmhpfmhpilmfdaaDoorRo
namespace Go.Proofs.YtmhpfmhpilmfdaaDoor
open Go.ChangeShapes Go.WideShapes Go.ChangeAt Go.RowKit Go.Joins

/-- Function f answers h, l and c of two numbers; of one and a factor. -/
def Ans2 (f : Nat) (a b c d h l : Nat) (e : Int) : Prop := ∀ W, Calls Tryd.prog f #[.agg #[.int .u64 (a : Int), .int .u64 (b : Int)], .agg #[.int .u64 (c : Int), .int .u64 (d : Int)]] W fun x w' => x = .returned (.tuple #[.agg #[.int .u64 (h : Int), .int .u64 (l : Int)], .int .i64 e]) ∧ Below W.heap.size W w'
def Ans1 (f : Nat) (a b n h l : Nat) (e : Int) : Prop := ∀ W, Calls Tryd.prog f #[.agg #[.int .u64 (a : Int), .int .u64 (b : Int)], .int .u64 (n : Int)] W fun x w' => x = .returned (.tuple #[.agg #[.int .u64 (h : Int), .int .u64 (l : Int)], .int .i64 e]) ∧ Below W.heap.size W w'
/-- What is answered of a number, as a choice. -/
def fH (n : Nat) : Nat := if n < 65536 ^ 8 then hiW n else 0
def fL (n : Nat) : Nat := if n < 65536 ^ 8 then loW n else 0
def fC (n : Nat) : Int := if n < 65536 ^ 8 then 0 else 2
theorem fit_is {n h l : Nat} {c : Int} (hf : FitR n h l c) : h = fH n ∧ l = fL n ∧ c = fC n := by
  unfold fH fL fC
  rcases hf with ⟨h0, h1, h2, h3⟩ | ⟨h0, h1, h2, h3⟩
  · rw [if_pos h0, if_pos h0, if_pos h0]
    exact ⟨h1, h2, h3⟩
  · rw [if_neg h0, if_neg h0, if_neg h0]
    exact ⟨h1, h2, h3⟩
def sH (x y : Nat) : Nat := if y ≤ x then hiW (x - y) else 0
def sL (x y : Nat) : Nat := if y ≤ x then loW (x - y) else 0
def sC (x y : Nat) : Int := if y ≤ x then 0 else 2
theorem sub_is {x y h l : Nat} {c : Int} (hf : SubR x y h l c) : h = sH x y ∧ l = sL x y ∧ c = sC x y := by
  unfold sH sL sC
  rcases hf with ⟨h0, h1, h2, h3⟩ | ⟨h0, h1, h2, h3⟩
  · rw [if_pos h0, if_pos h0, if_pos h0]
    exact ⟨h1, h2, h3⟩
  · rw [if_neg (by omega), if_neg (by omega), if_neg (by omega)]
    exact ⟨h1, h2, h3⟩
theorem Ans2.fit {f a b c d n : Nat} (h : ∀ W, Calls Tryd.prog f #[.agg #[.int .u64 (a : Int), .int .u64 (b : Int)], .agg #[.int .u64 (c : Int), .int .u64 (d : Int)]] W (FitE n W)) : Ans2 f a b c d (fH n) (fL n) (fC n) := fun W => (h W).mono fun _ _ ⟨x, y, z, he, hf, hb⟩ => by
  obtain ⟨rfl, rfl, rfl⟩ := fit_is hf
  exact ⟨he, hb⟩
theorem Ans1.fit {f a b m n : Nat} (h : ∀ W, Calls Tryd.prog f #[.agg #[.int .u64 (a : Int), .int .u64 (b : Int)], .int .u64 (m : Int)] W (FitE n W)) : Ans1 f a b m (fH n) (fL n) (fC n) := fun W => (h W).mono fun _ _ ⟨x, y, z, he, hf, hb⟩ => by
  obtain ⟨rfl, rfl, rfl⟩ := fit_is hf
  exact ⟨he, hb⟩
theorem Ans2.sub {f a b c d x y : Nat} (h : ∀ W, Calls Tryd.prog f #[.agg #[.int .u64 (a : Int), .int .u64 (b : Int)], .agg #[.int .u64 (c : Int), .int .u64 (d : Int)]] W (SubE x y W)) : Ans2 f a b c d (sH x y) (sL x y) (sC x y) := fun W => (h W).mono fun _ _ ⟨_, _, _, he, hf, hb⟩ => by
  obtain ⟨rfl, rfl, rfl⟩ := sub_is hf
  exact ⟨he, hb⟩
/-- The two arguments' boxes. -/
def Two (w W : World) (a b c d : Nat) : Prop := Box W w.heap.size a b ∧ Box W (w.heap.size + 1) c d ∧ Below w.heap.size w W
theorem Two.next {w W W' : World} {a b c d : Nat} (h : Two w W a b c d) (hb : Below W.heap.size W W') : Two w W' a b c d := ⟨h.1.below hb h.1.lt, h.2.1.below hb h.2.1.lt, h.2.2.trans (hb.mono h.2.2.size)⟩
theorem Two.alloc {w W : World} {a b c d : Nat} (h : Two w W a b c d) (o : Obj) : Two w (W.alloc o) a b c d := h.next ((Below.refl _ _).alloc (Nat.le_refl _) o)
def TwoF (w W : World) (a b c d : Nat) : Prop := W.cell? ⟨w.heap.size, 0, none⟩ = some (.int .u64 (a : Int)) ∧ W.cell? ⟨w.heap.size, 1, none⟩ = some (.int .u64 (b : Int)) ∧ W.cell? ⟨w.heap.size + 1, 0, none⟩ = some (.int .u64 (c : Int)) ∧ W.cell? ⟨w.heap.size + 1, 1, none⟩ = some (.int .u64 (d : Int)) ∧ w.heap.size < W.heap.size ∧ w.heap.size + 1 < W.heap.size
theorem Two.facts {w W : World} {a b c d : Nat} (h : Two w W a b c d) : TwoF w W a b c d := ⟨h.1.c0, h.1.c1, h.2.1.c0, h.2.1.c1, h.1.lt, h.2.1.lt⟩
set_option maxHeartbeats 8000000 in
set_option maxRecDepth 100000 in
theorem sums_core (a b c d n h1 l1 h2 l2 h3 l3 h4 l4 : Nat) (c1 c2 c3 c4 : Int) (w : World) (ht : Tab w)
    (k1 : Ans2 8 a b c d h1 l1 c1) (k2 : Ans2 9 a b c d h1 l1 c1) (k3 : Ans2 10 a b c d h2 l2 c2) (k4 : Ans2 11 a b c d h2 l2 c2) (k5 : Ans1 12 a b n h3 l3 c3) (k6 : Ans1 13 a b n h3 l3 c3)
    (k7 : ∀ W, Calls Tryd.prog 13 #[.agg #[.int .u64 0, .int .u64 (b : Int)], .int .u64 (n : Int)] W fun x w' => x = .returned (.tuple #[.agg #[.int .u64 (h4 : Int), .int .u64 (l4 : Int)], .int .i64 c4]) ∧ Below W.heap.size W w')
    (k8 : ∀ W, Calls Tryd.prog 14 #[.int .u64 (b : Int), .int .u64 (n : Int)] W fun x w' => x = .returned (.agg #[.int .u64 (h4 : Int), .int .u64 (l4 : Int)]) ∧ Below W.heap.size W w')
    (k9 : ∀ W, Calls Tryd.prog 15 #[.int .u64 (n : Int)] W fun x w' => x = .returned (.agg #[.int .u64 0, .int .u64 (n : Int)]) ∧ Below W.heap.size W w') :
    Calls Tryd.prog 3 #[.agg #[.int .u64 (a : Int), .int .u64 (b : Int)], .agg #[.int .u64 (c : Int), .int .u64 (d : Int)], .int .u64 (n : Int)] w fun e w' => e = .returned (.bool true) ∧ Below w.heap.size w w' := by

  have H1 := Lib.hid (fun W => k1 W)
  have H2 := Lib.hid (fun W => k2 W)
  have H3 := Lib.hid (fun W => k3 W)
  have H4 := Lib.hid (fun W => k4 W)
  have H5 := Lib.hid (fun W => k5 W)
  have H6 := Lib.hid (fun W => k6 W)
  have H7 := Lib.hid (fun W => k7 W)
  have H8 := Lib.hid (fun W => k8 W)
  have H9 := Lib.hid (fun W => k9 W)
  have T0 : Hid (Two w ((w.alloc (.cells #[.int .u64 (a : Int), .int .u64 (b : Int)] 24)).alloc (.cells #[.int .u64 (c : Int), .int .u64 (d : Int)] 24)) a b c d) := ⟨(Box.new w a b).alloc _, new2 w _ c d, bel2 w _ _⟩
  have HT := Lib.hid (ht.below (bel2 w (.cells #[.int .u64 (a : Int), .int .u64 (b : Int)] 24) (.cells #[.int .u64 (c : Int), .int .u64 (d : Int)] 24)))
  clear k1 k2 k3 k4 k5 k6 k7 k8 k9 ht
  go_enter Tryd.func3, Tryd.ntmps3
  go_wp2_with (first
    | (go_at_call 7; (with_reducible refine (awake_any _ HT.out).mono ?_); rintro e w1 ⟨rfl, hb1⟩; have T1 := Lib.hid (T0.out.next hb1); clear hb1; obtain ⟨f1, f2, f3, f4, f5, f6⟩ := T1.out.facts)
    | (go_at_call 8; (with_reducible refine (H1.out _).mono ?_); rintro e w2 ⟨rfl, hb2⟩; have T2 := Lib.hid (T1.out.next hb2); clear hb2 f1 f2 f3 f4 f5 f6; obtain ⟨f1, f2, f3, f4, f5, f6⟩ := T2.out.facts)
    | (go_at_call 9; (with_reducible refine (H2.out _).mono ?_); rintro e w3 ⟨rfl, hb3⟩; have T3 := Lib.hid ((T2.out.alloc (.cells #[.int .u64 (h1 : Int), .int .u64 (l1 : Int)] 24)).next hb3); have A3 := Lib.hid ((Box.new w2 h1 l1).below hb3 (by simp)); clear hb3 f1 f2 f3 f4 f5 f6; obtain ⟨f1, f2, f3, f4, f5, f6⟩ := T3.out.facts)
    | (go_at_call 10; (with_reducible refine (H3.out _).mono ?_); rintro e w4 ⟨rfl, hb4⟩; have T4 := Lib.hid ((T3.out.alloc (.cells #[.int .u64 (h1 : Int), .int .u64 (l1 : Int)] 24)).next hb4); have A4 := Lib.hid ((A3.out.alloc (.cells #[.int .u64 (h1 : Int), .int .u64 (l1 : Int)] 24)).below hb4 (A3.out.alloc (.cells #[.int .u64 (h1 : Int), .int .u64 (l1 : Int)] 24)).lt); have B4 := Lib.hid ((Box.new w3 h1 l1).below hb4 (by simp)); clear hb4 f1 f2 f3 f4 f5 f6; obtain ⟨f1, f2, f3, f4, f5, f6⟩ := T4.out.facts)
    | (go_at_call 11; (with_reducible refine (H4.out _).mono ?_); rintro e w5 ⟨rfl, hb5⟩; have T5 := Lib.hid ((T4.out.alloc (.cells #[.int .u64 (h2 : Int), .int .u64 (l2 : Int)] 24)).next hb5); have A5 := Lib.hid ((A4.out.alloc (.cells #[.int .u64 (h2 : Int), .int .u64 (l2 : Int)] 24)).below hb5 (A4.out.alloc (.cells #[.int .u64 (h2 : Int), .int .u64 (l2 : Int)] 24)).lt); have B5 := Lib.hid ((B4.out.alloc (.cells #[.int .u64 (h2 : Int), .int .u64 (l2 : Int)] 24)).below hb5 (B4.out.alloc (.cells #[.int .u64 (h2 : Int), .int .u64 (l2 : Int)] 24)).lt); have C5 := Lib.hid ((Box.new w4 h2 l2).below hb5 (by simp)); clear hb5 f1 f2 f3 f4 f5 f6; obtain ⟨f1, f2, f3, f4, f5, f6⟩ := T5.out.facts)
    | (go_at_call 12; (with_reducible refine (H5.out _).mono ?_); rintro e w6 ⟨rfl, hb6⟩; have T6 := Lib.hid ((T5.out.alloc (.cells #[.int .u64 (h2 : Int), .int .u64 (l2 : Int)] 24)).next hb6); have A6 := Lib.hid ((A5.out.alloc (.cells #[.int .u64 (h2 : Int), .int .u64 (l2 : Int)] 24)).below hb6 (A5.out.alloc (.cells #[.int .u64 (h2 : Int), .int .u64 (l2 : Int)] 24)).lt); have B6 := Lib.hid ((B5.out.alloc (.cells #[.int .u64 (h2 : Int), .int .u64 (l2 : Int)] 24)).below hb6 (B5.out.alloc (.cells #[.int .u64 (h2 : Int), .int .u64 (l2 : Int)] 24)).lt); have C6 := Lib.hid ((C5.out.alloc (.cells #[.int .u64 (h2 : Int), .int .u64 (l2 : Int)] 24)).below hb6 (C5.out.alloc (.cells #[.int .u64 (h2 : Int), .int .u64 (l2 : Int)] 24)).lt); have D6 := Lib.hid ((Box.new w5 h2 l2).below hb6 (by simp)); clear hb6 f1 f2 f3 f4 f5 f6; obtain ⟨f1, f2, f3, f4, f5, f6⟩ := T6.out.facts)
    | (go_at_call 13; (with_reducible refine (H6.out _).mono ?_); rintro e w7 ⟨rfl, hb7⟩; have T7 := Lib.hid ((T6.out.alloc (.cells #[.int .u64 (h3 : Int), .int .u64 (l3 : Int)] 24)).next hb7); have A7 := Lib.hid ((A6.out.alloc (.cells #[.int .u64 (h3 : Int), .int .u64 (l3 : Int)] 24)).below hb7 (A6.out.alloc (.cells #[.int .u64 (h3 : Int), .int .u64 (l3 : Int)] 24)).lt); have B7 := Lib.hid ((B6.out.alloc (.cells #[.int .u64 (h3 : Int), .int .u64 (l3 : Int)] 24)).below hb7 (B6.out.alloc (.cells #[.int .u64 (h3 : Int), .int .u64 (l3 : Int)] 24)).lt); have C7 := Lib.hid ((C6.out.alloc (.cells #[.int .u64 (h3 : Int), .int .u64 (l3 : Int)] 24)).below hb7 (C6.out.alloc (.cells #[.int .u64 (h3 : Int), .int .u64 (l3 : Int)] 24)).lt); have D7 := Lib.hid ((D6.out.alloc (.cells #[.int .u64 (h3 : Int), .int .u64 (l3 : Int)] 24)).below hb7 (D6.out.alloc (.cells #[.int .u64 (h3 : Int), .int .u64 (l3 : Int)] 24)).lt); have E7 := Lib.hid ((Box.new w6 h3 l3).below hb7 (by simp)); clear hb7 f1 f2 f3 f4 f5 f6; obtain ⟨f1, f2, f3, f4, f5, f6⟩ := T7.out.facts)
    | (go_at_call 13; (with_reducible refine (H7.out _).mono ?_); rintro e w8 ⟨rfl, hb8⟩; have T8 := Lib.hid ((T7.out.alloc (.cells #[.int .u64 (h3 : Int), .int .u64 (l3 : Int)] 24)).next hb8); have A8 := Lib.hid ((A7.out.alloc (.cells #[.int .u64 (h3 : Int), .int .u64 (l3 : Int)] 24)).below hb8 (A7.out.alloc (.cells #[.int .u64 (h3 : Int), .int .u64 (l3 : Int)] 24)).lt); have B8 := Lib.hid ((B7.out.alloc (.cells #[.int .u64 (h3 : Int), .int .u64 (l3 : Int)] 24)).below hb8 (B7.out.alloc (.cells #[.int .u64 (h3 : Int), .int .u64 (l3 : Int)] 24)).lt); have C8 := Lib.hid ((C7.out.alloc (.cells #[.int .u64 (h3 : Int), .int .u64 (l3 : Int)] 24)).below hb8 (C7.out.alloc (.cells #[.int .u64 (h3 : Int), .int .u64 (l3 : Int)] 24)).lt); have D8 := Lib.hid ((D7.out.alloc (.cells #[.int .u64 (h3 : Int), .int .u64 (l3 : Int)] 24)).below hb8 (D7.out.alloc (.cells #[.int .u64 (h3 : Int), .int .u64 (l3 : Int)] 24)).lt); have E8 := Lib.hid ((E7.out.alloc (.cells #[.int .u64 (h3 : Int), .int .u64 (l3 : Int)] 24)).below hb8 (E7.out.alloc (.cells #[.int .u64 (h3 : Int), .int .u64 (l3 : Int)] 24)).lt); have F8 := Lib.hid ((Box.new w7 h3 l3).below hb8 (by simp)); clear hb8 f1 f2 f3 f4 f5 f6; obtain ⟨f1, f2, f3, f4, f5, f6⟩ := T8.out.facts))
  obtain ⟨W, hW⟩ : ∃ W, W = w8.alloc (.cells #[.int .u64 (h4 : Int), .int .u64 (l4 : Int)] 24) := ⟨_, rfl⟩
  rw [← hW]
  have bA := A8.out.alloc (.cells #[.int .u64 (h4 : Int), .int .u64 (l4 : Int)] 24)
  have bB := B8.out.alloc (.cells #[.int .u64 (h4 : Int), .int .u64 (l4 : Int)] 24)
  have bC := C8.out.alloc (.cells #[.int .u64 (h4 : Int), .int .u64 (l4 : Int)] 24)
  have bD := D8.out.alloc (.cells #[.int .u64 (h4 : Int), .int .u64 (l4 : Int)] 24)
  have bE := E8.out.alloc (.cells #[.int .u64 (h4 : Int), .int .u64 (l4 : Int)] 24)
  have bF := F8.out.alloc (.cells #[.int .u64 (h4 : Int), .int .u64 (l4 : Int)] 24)
  have bG := Box.new w8 h4 l4
  have bT := T8.out.alloc (.cells #[.int .u64 (h4 : Int), .int .u64 (l4 : Int)] 24)
  rw [← hW] at bA bB bC bD bE bF bG bT
  have TW := Lib.hid bT
  have m1 := bA.c0
  have n1 := bA.c1
  have p1 := bA.lt
  have m2 := bB.c0
  have n2 := bB.c1
  have p2 := bB.lt
  have m3 := bC.c0
  have n3 := bC.c1
  have p3 := bC.lt
  have m4 := bD.c0
  have n4 := bD.c1
  have p4 := bD.lt
  have m5 := bE.c0
  have n5 := bE.c1
  have p5 := bE.lt
  have m6 := bF.c0
  have n6 := bF.c1
  have p6 := bF.lt
  have m7 := bG.c0
  have n7 := bG.c1
  have p7 := bG.lt
  have m8 := bT.1.c1
  have p8 := bT.1.lt
  clear bA bB bC bD bE bF bG bT hW f1 f2 f3 f4 f5 f6
  go_region_held3 (fun w' => w'.cell? ⟨w2.heap.size, 0, none⟩ = some (.int .u64 (h1 : Int)) ∧ w'.cell? ⟨w2.heap.size, 1, none⟩ = some (.int .u64 (l1 : Int)) ∧ w'.cell? ⟨w3.heap.size, 0, none⟩ = some (.int .u64 (h1 : Int)) ∧ w'.cell? ⟨w3.heap.size, 1, none⟩ = some (.int .u64 (l1 : Int)) ∧ w'.cell? ⟨w4.heap.size, 0, none⟩ = some (.int .u64 (h2 : Int)) ∧ w'.cell? ⟨w4.heap.size, 1, none⟩ = some (.int .u64 (l2 : Int)) ∧ w'.cell? ⟨w5.heap.size, 0, none⟩ = some (.int .u64 (h2 : Int)) ∧ w'.cell? ⟨w5.heap.size, 1, none⟩ = some (.int .u64 (l2 : Int)) ∧ w'.cell? ⟨w6.heap.size, 0, none⟩ = some (.int .u64 (h3 : Int)) ∧ w'.cell? ⟨w6.heap.size, 1, none⟩ = some (.int .u64 (l3 : Int)) ∧ w'.cell? ⟨w7.heap.size, 0, none⟩ = some (.int .u64 (h3 : Int)) ∧ w'.cell? ⟨w7.heap.size, 1, none⟩ = some (.int .u64 (l3 : Int)) ∧ w'.cell? ⟨w8.heap.size, 0, none⟩ = some (.int .u64 (h4 : Int)) ∧ w'.cell? ⟨w8.heap.size, 1, none⟩ = some (.int .u64 (l4 : Int)) ∧ w'.cell? ⟨w.heap.size, 1, none⟩ = some (.int .u64 (b : Int)))
    (first | (go_split_ands; refine ⟨?_, ?_, ?_, ?_, ?_, ?_, ?_, ?_, ?_, ?_, ?_, ?_, ?_, ?_, ?_⟩ <;> first | (rw [hb10.cell (by have := hb9.size; simp at this ⊢; omega)]; assumption) | (rw [hb9.cell (by simp; omega)]; assumption)) | go_keep)
    (first
      | (go_at_call 14; (with_reducible refine (H8.out _).mono ?_); rintro e w9 ⟨rfl, hb9⟩)
      | (go_at_call 15; (with_reducible refine (H9.out _).mono ?_); rintro e w10 ⟨rfl, hb10⟩))
  all_goals
    have a1 := TW.out.2.2.drew
    have a2 := a1.trans (hb9.mono a1.size)
    have HF := Lib.hid (a2.trans (hb10.mono a2.size))
    clear hb9 hb10 a1 a2
    go_wp2_with fail
    go_ret
    exact ⟨rfl, HF.out⟩
theorem law_sums (a b c d n : Nat) (w : World) (ht : Tab w) (ha : a < 18446744073709551616) (hb : b < 18446744073709551616) (hc : c < 18446744073709551616) (hd : d < 18446744073709551616) (hn : n < 18446744073709551616) :
    Calls Tryd.prog 3 #[.agg #[.int .u64 (a : Int), .int .u64 (b : Int)], .agg #[.int .u64 (c : Int), .int .u64 (d : Int)], .int .u64 (n : Int)] w fun e w' => e = .returned (.bool true) ∧ Below w.heap.size w w' := by
  refine sums_core a b c d n _ _ _ _ _ _ (pHi b n) (pLo b n) _ _ _ 0 w ht (Ans2.fit fun W => add_any a b c d W ha hb hc hd) (Ans2.fit fun W => radd_any a b c d W ha hb hc hd) (Ans2.sub fun W => sub_any a b c d W ha hb hc hd) (Ans2.sub fun W => rsub_any a b c d W ha hb hc hd)
    (Ans1.fit fun W => scale_any a b n W ha hb hn) (Ans1.fit fun W => rscale_any a b n W ha hb hn) (fun W => ?_) (fun W => mul_any b n W hb hn) (fun W => of_any n W)
  refine (rscale_any 0 b n W (by decide) hb hn).mono fun _ _ ⟨h, l, x, he, hf, hbl⟩ => ?_
  have e0 : numW 0 b * n = b * n := by simp [numW]
  have hbn : b * n < 18446744073709551616 * 18446744073709551616 := Nat.mul_lt_mul'' hb hn
  rw [e0] at hf
  rcases hf with ⟨_, rfl, rfl, rfl⟩ | ⟨h1, _⟩
  · exact ⟨he, hbl⟩
  · rw [e8] at h1
    exact absurd hbn h1

set_option maxRecDepth 100000 in
theorem lifted_sums (os : Os) (started : os.Started) (H : Type) (enc : TypeId × Value → H) :
    ReturnsInHanded {} Tryd.checked os 3 .any (fun w args => (Rows.wideSumsSpec.pre enc Tryd.prog Tryd.f3 [] false w args ∧ laidMetH Tryd.prog laid3 w) ∧ sizedMet enc Tryd.prog Tryd.f3 (OpenSpec.ofChange Rows.wideSumsSpec) false w args)
      (Rows.wideSumsSpec.post enc Tryd.prog Tryd.f3 false true false false) := by
  refine returnsInHanded_of_change_and (C := Tryd.checked) (X := fun w _ => laidMetH Tryd.prog laid3 w) (fun _ _ _ hh h => h.of_heap hh) own started (by kernel_rfl) Tryd.func3
    (ChangeSpec.witness_shaped (enc := enc) (C := Tryd.checked) (os := os) (X := fun w _ => laidMetH Tryd.prog laid3 w) false (World.doorLaid Tryd.prog 400 os) #[.agg #[.int .u64 0, .int .u64 0], .agg #[.int .u64 0, .int .u64 0], .int .u64 0] 8 rfl (World.shaped_of_RefB (by kernel_rfl) (by kernel_rfl)) (by kernel_rfl) (by kernel_rfl) (by kernel_rfl) (door_met os _)) ?_
  intro W base args ds gs before hval0 hW _ _ hL _
  have hval : ∀ (j : Nat) t v, Tryd.f3.params[j]? = some t → args[j]? = some v → Value.okWide Tryd.prog W .any base t v := hval0
  have hW' := hW
  obtain ⟨p, q, hA0, hV, rfl, hfz, hnd⟩ := hW
  have hA : DataW.TrodAll enc Tryd.prog W 0 (fun _ => true) true Tryd.f3.params.toList args.toList ds p := hA0
  rw [Tryd.params3] at hA hval
  obtain ⟨v0, v1, v2, d0, d1, d2, p0, p1, p2, rfl, rfl, rfl, h0, h1, h2⟩ := trodAll_three hA
  obtain ⟨rfl, rfl⟩ := trodVars_none hV
  obtain ⟨c0, c1, y0, y1, m, rfl, rfl, rfl, hy0, hy1⟩ := open_agg2 Tryd.underlying24 (by kernel_rfl) cells24 (hval 0 24 v0 rfl rfl) h0
  obtain ⟨a, e0, rfl, wa⟩ := DataW.trod_int Tryd.underlying22 hy0
  obtain ⟨b, e1, rfl, wb⟩ := DataW.trod_int Tryd.underlying22 hy1
  obtain ⟨c2, c3, y2, y3, m2, rfl, rfl, rfl, hy2, hy3⟩ := open_agg2 Tryd.underlying24 (by kernel_rfl) cells24 (hval 1 24 v1 rfl rfl) h1
  obtain ⟨c, e2, rfl, wc⟩ := DataW.trod_int Tryd.underlying22 hy2
  obtain ⟨d, e3, rfl, wd⟩ := DataW.trod_int Tryd.underlying22 hy3
  obtain ⟨n, rfl, rfl, rfl, wn⟩ := open_int Tryd.underlying22 (hval 2 22 v2 rfl rfl) h2
  simp at e0 e1 e2 e3
  subst e0 e1 e2 e3
  have ht := tab_of_laid hL
  clear hA0 hval0
  simp only [List.append_nil] at hW'
  have ba := bounds_u64 wa
  have bb := bounds_u64 wb
  have bc := bounds_u64 wc
  have bd := bounds_u64 wd
  have bn := bounds_u64 wn
  obtain ⟨a', rfl⟩ := Int.eq_ofNat_of_zero_le ba.1
  obtain ⟨b', rfl⟩ := Int.eq_ofNat_of_zero_le bb.1
  obtain ⟨c', rfl⟩ := Int.eq_ofNat_of_zero_le bc.1
  obtain ⟨d', rfl⟩ := Int.eq_ofNat_of_zero_le bd.1
  obtain ⟨n', rfl⟩ := Int.eq_ofNat_of_zero_le bn.1
  have reads : ∀ (x y : Nat) (_ : (Lit.int .u64 (x : Int)).wf = true) (_ : (Lit.int .u64 (y : Int)).wf = true) (V : World) (sp : Nat → Bool), DataW.Trod enc Tryd.prog V 0 sp true 24 (.agg #[.int .u64 (x : Int), .int .u64 (y : Int)]) (.agg [.lit (.int .u64 (x : Int)), .lit (.int .u64 (y : Int))]) [] := fun x y wx wy V sp =>
    shut_agg2 (y0 := (.lit (.int .u64 (x : Int)), [])) (y1 := (.lit (.int .u64 (y : Int)), [])) Tryd.underlying24 (by kernel_rfl) cells24 ⟨1, by simp [DataW.trod, Tryd.underlying22, wx]⟩ ⟨1, by simp [DataW.trod, Tryd.underlying22, wy]⟩
  refine (law_sums a' b' c' d' n' W ht (by omega) (by omega) (by omega) (by omega) (by omega)).mono fun e W' ⟨he, hw⟩ => ?_
  subst he
  exact ⟨_, rfl, post_plain (ds := [_, _, _]) rfl hW' (by kernel_rfl) rfl rfl rfl (fun V sp => trodAll_mk3 (reads a' b' wa wb V sp) (reads c' d' wc wd V sp) (shut_int Tryd.underlying22 wn)) hw⟩
theorem wideSums_row : Rows.WideSumsSaid :=
  OpenClaim.holds_of_wide 3 Tryd.f3 rfl rfl rfl rfl rfl rfl rfl ⟨rfl, rfl, rfl, rfl, rfl⟩ rfl rfl rfl rfl rfl (by kernel_rfl) Tryd.func3 (by kernel_rfl)
    (of_decide_eq_true (by kernel_rfl)) (by unfold Func.isWrapper; first | (rw [if_pos (by decide +kernel)]; kernel_rfl) | (rw [if_neg (by decide +kernel)]; exact ⟨rfl, rfl⟩))
    (fun os started H enc _ => lifted_sums os started H enc)
theorem wideSums_holds : Rows.WideSumsCardSaid :=
  Claim7.holds_tied_plain_at .later [] [.data, .data, .data] true (true, "a4448f60cc3838328132f51958cb197030f009beffd36e239ae103d15c994d3b") false
    wideSums_row (fun _ h => by cases h) (by kernel_rfl) (fun _ h => by cases h) wideSums_row_tie rfl ⟨rfl, rfl⟩ (by kernel_rfl) rfl
    (fun f fn hf hfn => by
      obtain rfl : f = 3 := Option.some.inj ((show Tryd.prog.funcNamed "pochoir/pochoirlaw01.WideSums" = some 3 by kernel_rfl).symm.trans hf) |>.symm
      obtain rfl : fn = Tryd.f3 := (Option.some.inj (Tryd.func3.symm.trans hfn)).symm
      exact ⟨by kernel_rfl, fun j t ht => by
        rw [Tryd.params3] at ht
        have hm : t ∈ [24, 24, 22] := by simpa using Array.mem_of_getElem? ht
        have hall : ([24, 24, 22].all fun u => !Tryd.prog.wantsStandIn u) = true := by kernel_rfl
        exact (show Tryd.prog.wantsStandIn t = false by simpa using List.all_eq_true.1 hall t hm)⟩)
    (by kernel_rfl)
#print axioms wideSums_holds
end Go.Proofs.YtmhpfmhpilmfdaaDoor
