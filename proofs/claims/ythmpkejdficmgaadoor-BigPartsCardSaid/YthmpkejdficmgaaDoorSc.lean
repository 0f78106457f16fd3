/- Proved here: what BigSmall answers: true. Condition: a number in any form, of at most 40 digits, that lies in memory, and the library's table of powers of ten at its place. -/
import Derived.Test.YthmpkejdficmgaaDoorSa
import Derived.Test.YthmpkejdficmgaaDoorQf
namespace Go.Proofs.YthmpkejdficmgaaDoor
open Go.RowKit

/-- What stands in memory: a number, and the document's. -/
structure SmH (w W : World) (b : Bool) (v : Value) (g : Nat) (bx : Bool) (vx : Value) (x : Int) : Prop where
  a : Bx 24 W w.heap.size b v
  A : BigA W (.agg #[.bool b, v]) x 40
  X : Bx 28 W g bx vx
  N : NumC W (.agg #[.bool bx, vx]) x 80
  bel : Below w.heap.size w W
section
variable {w W W' : World} {b bx : Bool} {v vx : Value} {g : Nat} {x : Int}
theorem SmH.next (h : SmH w W b v g bx vx x) (hb : Below W.heap.size W W') : SmH w W' b v g bx vx x :=
  ⟨h.a.bel hb, h.A.bel hb, h.X.bel hb, h.N.bel hb, bel_tr h.bel hb⟩
theorem SmH.drew (h : SmH w W b v g bx vx x) : SmH w W.drew b v g bx vx x := ⟨h.a, h.A, h.X, h.N, h.bel.drew⟩
theorem SmH.facts (h : SmH w W b v g bx vx x) : W.cell? ⟨w.heap.size, 0, none⟩ = some (.bool b) ∧ W.cell? ⟨w.heap.size, 1, none⟩ = some v ∧ W.cell? ⟨g, 0, none⟩ = some (.bool bx) ∧ W.cell? ⟨g, 1, none⟩ = some vx :=
  ⟨h.a.c0, h.a.c1, h.X.c0, h.X.c1⟩
theorem BigA.box {Z : Value} {z : Int} {l : Nat} {T : TypeId} {n : Bool} {C : Option Addr} {r q : Nat} (h : BigA W Z z l) (hb : Bx T W g n (.slice C r q)) (j : Nat) (y : Value) : BigA (W.setCell ⟨g, j, none⟩ y) Z z l := by
  obtain ⟨n, v, xs, h1, h2, h3⟩ := h
  exact ⟨n, v, xs, h1, h2.box hb j y, h3⟩
theorem NumC.box {Z : Value} {z : Int} {l : Nat} {T : TypeId} {n : Bool} {C : Option Addr} {r q : Nat} (h : NumC W Z z l) (hb : Bx T W g n (.slice C r q)) (j : Nat) (y : Value) : NumC (W.setCell ⟨g, j, none⟩ y) Z z l := by
  obtain ⟨n, v, xs, h1, h2, h3⟩ := h
  exact ⟨n, v, xs, h1, h2.box hb j y, h3⟩
theorem SmH.box {gy : Nat} {n : Bool} {C : Option Addr} {r q : Nat} (h : SmH w W b v g bx vx x) (hy : Bx 28 W gy n (.slice C r q)) (h1 : w.heap.size < gy) (h2 : g ≠ gy) (j : Nat) (y : Value) : SmH w (W.setCell ⟨gy, j, none⟩ y) b v g bx vx x :=
  ⟨h.a.far (by show w.heap.size ≠ gy; omega) _, h.A.box hy j y, h.X.far h2 _, h.N.box hy j y, bel_set h.bel (by omega) _ _⟩
end
/-- What holds at each round's head of the loop. -/
structure LpH (w W : World) (b : Bool) (v : Value) (g : Nat) (bx : Bool) (vx : Value) (x : Int) (gy : Nat) (n : Bool) (u : Value) (j : Nat) : Prop where
  S : SmH w W b v g bx vx x
  Y : Bx 28 W gy n u
  M : NumC W (.agg #[.bool n, u]) (x * 2 ^ j) (80 + j)
theorem LpH.next {w W W' : World} {b bx n : Bool} {v vx u : Value} {g gy j : Nat} {x : Int} (h : LpH w W b v g bx vx x gy n u j) (hb : Below W.heap.size W W') : LpH w W' b v g bx vx x gy n u j := ⟨h.S.next hb, h.Y.bel hb, h.M.bel hb⟩
theorem LpH.drew {w W : World} {b bx n : Bool} {v vx u : Value} {g gy j : Nat} {x : Int} (h : LpH w W b v g bx vx x gy n u j) : LpH w W.drew b v g bx vx x gy n u j := ⟨h.S.drew, h.Y, h.M⟩
theorem LpH.facts {w W : World} {b bx n : Bool} {v vx u : Value} {g gy j : Nat} {x : Int} (h : LpH w W b v g bx vx x gy n u j) : W.cell? ⟨w.heap.size, 0, none⟩ = some (.bool b) ∧ W.cell? ⟨w.heap.size, 1, none⟩ = some v ∧ W.cell? ⟨g, 0, none⟩ = some (.bool bx) ∧ W.cell? ⟨g, 1, none⟩ = some vx ∧ W.cell? ⟨gy, 0, none⟩ = some (.bool n) ∧ W.cell? ⟨gy, 1, none⟩ = some u :=
  ⟨h.S.a.c0, h.S.a.c1, h.S.X.c0, h.S.X.c1, h.Y.c0, h.Y.c1⟩
theorem LpH.put {w W : World} {b bx n m : Bool} {v vx z : Value} {C : Option Addr} {r q : Nat} {g gy j : Nat} {x : Int} (h : LpH w W b v g bx vx x gy n (.slice C r q) j) (h1 : w.heap.size < gy) (h2 : g ≠ gy) (hz : NumC W (.agg #[.bool m, z]) (x * 2 ^ j + x * 2 ^ j) (max (80 + j) (80 + j) + 1)) :
    LpH w ((W.setCell ⟨gy, 0, none⟩ (.bool m)).setCell ⟨gy, 1, none⟩ z) b v g bx vx x gy m z (j + 1) := by
  refine ⟨(h.S.box h.Y h1 h2 0 _).box (h.Y.set0 m) h1 h2 1 _, (h.Y.set0 m).set1 z, ?_⟩
  have e1 : x * 2 ^ (j + 1) = x * 2 ^ j + x * 2 ^ j := by rw [Int.pow_succ, ← Int.mul_assoc]; omega
  rw [e1]
  exact ((hz.box h.Y 0 _).box (h.Y.set0 m) 1 _).le (by omega)
theorem small_yes (X : Value) (x : Int) (l : Nat) (w : World) (hX : BigA w X x l) (h1 : -9223372036854775808 ≤ x) (h2 : x ≤ 9223372036854775807) : Calls Tryd.prog 24 #[X] w fun e w' => e = .returned (.tuple #[.int .i64 x, .bool true]) ∧ Below w.heap.size w w' :=
  (small_any X x l w hX).mono fun _ _ ⟨m, b, he, h, hb⟩ => by
    rcases h with ⟨rfl, rfl, _⟩ | ⟨_, _, h3⟩
    · exact ⟨he, hb⟩
    · exact absurd ⟨h1, h2⟩ h3
theorem small_no (X : Value) (x : Int) (l : Nat) (w : World) (hX : BigA w X x l) (h1 : ¬ (-9223372036854775808 ≤ x ∧ x ≤ 9223372036854775807)) : Calls Tryd.prog 24 #[X] w fun e w' => e = .returned (.tuple #[.int .i64 0, .bool false]) ∧ Below w.heap.size w w' :=
  (small_any X x l w hX).mono fun _ _ ⟨m, b, he, h, hb⟩ => by
    rcases h with ⟨_, _, h3, h4⟩ | ⟨rfl, rfl, _⟩
    · exact absurd ⟨h3, h4⟩ h1
    · exact ⟨he, hb⟩
theorem pair_bits {m n n' : Nat} (h : IsBits m n) (h' : IsBits m n') : n' = n := h'.one h
theorem shn_small {k : Int} {j : Nat} (h : (j : Int) = max k 0) (hk : k ≤ 200) : shn k = j := by unfold shn; omega
theorem cmpI_same (x : Int) : cmpI x x = 0 := by simp [cmpI]
set_option linter.unusedSimpArgs false in
set_option maxHeartbeats 16000000 in
theorem small_fit (n k x : Int) (b : Bool) (v : Value) (xs : List Nat) (w : World) (hv : Arr w .u32 v xs) (hx : Eg xs) (hxl : xs.length ≤ 40) (hxv : x = sv b (dw xs)) (hn1 : -9223372036854775808 ≤ n) (hn2 : n ≤ 9223372036854775807) (hk1 : -9223372036854775808 ≤ k) (hk3 : k ≤ 200) (hf1 : -9223372036854775808 ≤ x) (hf2 : x ≤ 9223372036854775807) (ht : Tab w) :
    Calls Tryd.prog 4 #[.int .i64 n, .agg #[.bool b, v], .int .i64 k] w fun e w' => e = .returned (.bool true) ∧ Below w.heap.size w w' := by
  obtain ⟨A, c, rfl⟩ := hv.slice
  obtain ⟨p, hp⟩ : ∃ p, p = xs.length := ⟨_, rfl⟩
  have hbel0 : Below w.heap.size w (w.alloc (.cells #[.bool b, .slice A p c] 24)) := bel_a w _
  rw [← hp] at hv hxl ⊢
  have HA := Lib.hid (show BigA (w.alloc (.cells #[.bool b, .slice A p c] 24)) (.agg #[.bool b, .slice A p c]) x 40 from ⟨b, _, xs, rfl, hv.bel hbel0, hx, by omega, hxv.symm⟩)
  have HB := Lib.hid (And.intro (Bx.new 24 w b (.slice A p c)) hbel0)
  have HT := Lib.hid (ht.below hbel0)
  have hk2 : k ≤ 9223372036854775807 := by omega
  clear hv hx hp hxv hbel0 ht
  obtain ⟨c1, hc1⟩ : ∃ c1, c1 = cmpI x (-9223372036854775808) := ⟨_, rfl⟩
  obtain ⟨c2, hc2⟩ : ∃ c2, c2 = cmpI x 9223372036854775807 := ⟨_, rfl⟩
  have hg1 : decide (0 ≤ c1) = true := decide_eq_true (by rw [hc1]; unfold cmpI; split <;> (try split) <;> omega)
  have hg2 : decide (c2 ≤ 0) = true := decide_eq_true (by rw [hc2]; unfold cmpI; split <;> (try split) <;> omega)
  have HC1 := Lib.hid hc1
  have HC2 := Lib.hid hc2
  clear hc1 hc2
  go_enter Tryd.func4, Tryd.ntmps4
  go_wp2_with (first
    | (go_at_call 8; (with_reducible refine (awake_any _ HT.out).mono ?_); rintro e w1 ⟨rfl, hb⟩; have HA := Lib.hid (HA.out.bel hb); have HB := Lib.hid (And.intro (HB.out.1.bel hb) (bel_tr HB.out.2 hb)); have f1 := HB.out.1.c0; have f2 := HB.out.1.c1; clear hb)
    | (go_at_call 9; (with_reducible refine (from_any _ x 40 _ HA.out (by decide)).mono ?_); rintro e w2 ⟨Z, rfl, ⟨bx, vx, zx, rfl, hvx, hx2⟩, hb⟩; obtain ⟨Ax, cx, rfl⟩ := hvx.slice; have H := Lib.hid (show SmH w (w2.alloc (.cells #[.bool bx, .slice Ax zx.length cx] 28)) b (.slice A p c) w2.heap.size bx (.slice Ax zx.length cx) x from ⟨(HB.out.1.bel hb).alloc _, (HA.out.bel hb).bel (bel_a _ _), Bx.new 28 w2 _ _, NumC.bel ⟨bx, _, zx, rfl, hvx, hx2⟩ (bel_a _ _), bel_tr (bel_tr HB.out.2 hb) (bel_a _ _)⟩); have hg : w.heap.size < w2.heap.size := Nat.lt_of_lt_of_le HB.out.1.lt hb.size; clear hvx hx2 hb)
    | (go_at_call 25; (with_reducible refine (of_any n _ hn1 hn2).mono ?_); rintro e w3 ⟨Z3, rfl, hZ3, hb⟩; have HZ3 := Lib.hid hZ3; have H := Lib.hid (H.out.next hb); clear hb hZ3)
    | (go_at_call 24; (with_reducible refine (small_yes Z3 n 2 _ HZ3.out.any hn1 hn2).mono ?_); rintro e w3 ⟨rfl, hb⟩; have H := Lib.hid (H.out.next hb); obtain ⟨f1, f2, f3, f4⟩ := H.out.facts; clear hb)
    | (go_at_call 24; (with_reducible refine (small_yes _ x 40 _ H.out.A hf1 hf2).mono ?_); rintro e w3 ⟨rfl, hb⟩; have H := Lib.hid (H.out.next hb); clear hb))
  go_region_held3 (fun w' => w'.cell? ⟨w.heap.size, 0, none⟩ = some (.bool b) ∧ w'.cell? ⟨w.heap.size, 1, none⟩ = some (.slice A p c) ∧ w'.cell? ⟨w2.heap.size, 0, none⟩ = some (.bool bx) ∧ w'.cell? ⟨w2.heap.size, 1, none⟩ = some (.slice Ax zx.length cx))
    (first | exact H.out.facts | exact H.out.drew.facts | go_keep)
    (first
      | (go_at_call 26; (with_reducible refine (rof_any (-9223372036854775808) _ (by decide) (by decide)).mono ?_); rintro e w3 ⟨Z4, rfl, hZ4, hb⟩; have HZ4 := Lib.hid hZ4; first | (have H := Lib.hid (H.out.next hb)) | (have H := Lib.hid (H.out.drew.next hb)))
      | (go_at_call 21; (with_reducible refine (rcmp_any _ _ x (-9223372036854775808) 80 4 _ H.out.N HZ4.out (by decide) (by decide)).mono ?_); rintro e w3 ⟨he, hb⟩; rw [← HC1.out] at he; subst he; have H := Lib.hid (H.out.next hb))
      | (go_at_call 26; (with_reducible refine (rof_any 9223372036854775807 _ (by decide) (by decide)).mono ?_); rintro e w3 ⟨Z5, rfl, hZ5, hb⟩; have HZ5 := Lib.hid hZ5; have H := Lib.hid (H.out.next hb))
      | (go_at_call 21; (with_reducible refine (rcmp_any _ _ x 9223372036854775807 80 4 _ H.out.N HZ5.out (by decide) (by decide)).mono ?_); rintro e w3 ⟨he, hb⟩; rw [← HC2.out] at he; subst he; have H := Lib.hid (H.out.next hb)))
  go_wp2_with fail
  refine wp_region_held_drew (S := (fun w' => w'.cell? ⟨w.heap.size, 0, none⟩ = some (.bool b) ∧ w'.cell? ⟨w.heap.size, 1, none⟩ = some (.slice A p c) ∧ w'.cell? ⟨w2.heap.size, 0, none⟩ = some (.bool bx) ∧ w'.cell? ⟨w2.heap.size, 1, none⟩ = some (.slice Ax zx.length cx))) (by kernel_rfl) ?_ (fun hHeld => ?_)
  · exact H.out.drew.facts
  refine wpAnyH_take (i := 0) (oi := { dst := some 48, op := Op.move (Operand.tmp 8), type := 2, pos := "law.go:41", after := #[], guard := none }) (v := ?_) rfl (by kernel_rfl) (by kernel_rfl) (by kernel_rfl) (fun _ _ _ h => h) (Or.inl ⟨by rfl, ?_⟩) (by assumption) ?_
  rotate_left 1
  · (intro w0 hS0; (try dsimp only at hS0); go_simp; try with_reducible rfl)
  try simp only [Act.put, List.setIfInBounds_toArray, List.set_cons_zero, List.set_cons_succ]
  refine wpAnyH_take (i := 1) (oi := { dst := some 49, op := Op.move (Operand.tmp 0), type := 2, pos := "law.go:41", after := #[], guard := none }) (v := ?_) rfl (by kernel_rfl) (by kernel_rfl) (by kernel_rfl) (fun _ _ _ h => h) (Or.inl ⟨by rfl, ?_⟩) (by assumption) ?_
  rotate_left 1
  · (intro w0 hS0; (try dsimp only at hS0); go_simp; try with_reducible rfl)
  try simp only [Act.put, List.setIfInBounds_toArray, List.set_cons_zero, List.set_cons_succ]
  refine wpAnyH_take (i := 2) (oi := { dst := some 50, op := Op.binOp BinOp.neq 2 (Operand.tmp 48) (Operand.tmp 49) 2, type := 4, pos := "law.go:41", after := #[{ on := 0, ground := Ground.data }, { on := 1, ground := Ground.data }], guard := none }) (v := ?_) rfl (by kernel_rfl) (by kernel_rfl) (by kernel_rfl) (fun _ _ _ h => h) (Or.inl ⟨by rfl, ?_⟩) (by assumption) ?_
  rotate_left 1
  · (intro w0 hS0; (try dsimp only at hS0); go_simp; try with_reducible rfl)
  try simp only [Act.put, List.setIfInBounds_toArray, List.set_cons_zero, List.set_cons_succ]
  refine wpAnyH_take (i := 3) (oi := { dst := some 51, op := Op.move (Operand.tmp 50), type := 4, pos := "law.go:41", after := #[{ on := 2, ground := Ground.data }], guard := none }) (v := ?_) rfl (by kernel_rfl) (by kernel_rfl) (by kernel_rfl) (fun _ _ _ h => h) (Or.inl ⟨by rfl, ?_⟩) (by assumption) ?_
  rotate_left 1
  · (intro w0 hS0; (try dsimp only at hS0); go_simp; try with_reducible rfl)
  try simp only [Act.put, List.setIfInBounds_toArray, List.set_cons_zero, List.set_cons_succ]
  refine wpAnyH_take (i := 4) (oi := { dst := some 52, op := Op.move (Operand.tmp 9), type := 4, pos := "law.go:41", after := #[{ on := 3, ground := Ground.guard }], guard := some (3, false) }) (v := ?_) rfl (by kernel_rfl) (by kernel_rfl) (by kernel_rfl) (fun _ _ _ h => h) (Or.inl ⟨by rfl, ?_⟩) (by assumption) ?_
  rotate_left 1
  · (intro w0 hS0; (try dsimp only at hS0); go_simp; try with_reducible rfl)
  try simp only [Act.put, List.setIfInBounds_toArray, List.set_cons_zero, List.set_cons_succ]
  refine wpAnyH_take (i := 5) (oi := { dst := some 53, op := Op.unOp UnOp.not 4 (Operand.tmp 52), type := 4, pos := "law.go:41", after := #[{ on := 4, ground := Ground.data }, { on := 3, ground := Ground.guard }], guard := some (3, false) }) (v := ?_) rfl (by kernel_rfl) (by kernel_rfl) (by kernel_rfl) (fun _ _ _ h => h) (Or.inl ⟨by rfl, ?_⟩) (by assumption) ?_
  rotate_left 1
  · (intro w0 hS0; (try dsimp only at hS0); go_simp; try with_reducible rfl)
  try simp only [Act.put, List.setIfInBounds_toArray, List.set_cons_zero, List.set_cons_succ]
  refine wpAnyH_take (i := 6) (oi := { dst := some 54, op := Op.pick (Operand.tmp 51) (Operand.const (Value.bool true)) (Operand.tmp 53), type := 4, pos := "law.go:41", after := #[{ on := 3, ground := Ground.data }, { on := 5, ground := Ground.data }], guard := none }) (v := ?_) rfl (by kernel_rfl) (by kernel_rfl) (by kernel_rfl) (fun _ _ _ h => h) (Or.inl ⟨by rfl, ?_⟩) (by assumption) ?_
  rotate_left 1
  · (intro w0 hS0; (try dsimp only at hS0); go_simp; try with_reducible rfl)
  try simp only [Act.put, List.setIfInBounds_toArray, List.set_cons_zero, List.set_cons_succ]
  refine wpAnyH_take (i := 7) (oi := { dst := some 55, op := Op.move (Operand.tmp 54), type := 4, pos := "law.go:41", after := #[{ on := 6, ground := Ground.data }, { on := 3, ground := Ground.chain }], guard := none }) (v := ?_) rfl (by kernel_rfl) (by kernel_rfl) (by kernel_rfl) (fun _ _ _ h => h) (Or.inl ⟨by rfl, ?_⟩) (by assumption) ?_
  rotate_left 1
  · (intro w0 hS0; (try dsimp only at hS0); go_simp; try with_reducible rfl)
  try simp only [Act.put, List.setIfInBounds_toArray, List.set_cons_zero, List.set_cons_succ]
  refine wpAnyH_take (i := 8) (oi := { dst := some 56, op := Op.move (Operand.tmp 11), type := 4, pos := "law.go:41", after := #[{ on := 7, ground := Ground.guard }], guard := some (7, false) }) (v := ?_) rfl (by kernel_rfl) (by kernel_rfl) (by kernel_rfl) (fun _ _ _ h => h) (Or.inl ⟨by rfl, ?_⟩) (by assumption) ?_
  rotate_left 1
  · (intro w0 hS0; (try dsimp only at hS0); go_simp; try with_reducible rfl)
  try simp only [Act.put, List.setIfInBounds_toArray, List.set_cons_zero, List.set_cons_succ]
  refine wpAnyH_take (i := 9) (oi := { dst := some 57, op := Op.move (Operand.tmp 12), type := 4, pos := "law.go:41", after := #[{ on := 7, ground := Ground.guard }], guard := some (7, false) }) (v := ?_) rfl (by kernel_rfl) (by kernel_rfl) (by kernel_rfl) (fun _ _ _ h => h) (Or.inl ⟨by rfl, ?_⟩) (by assumption) ?_
  rotate_left 1
  · (intro w0 hS0; (try dsimp only at hS0); go_simp; try with_reducible rfl)
  try simp only [Act.put, List.setIfInBounds_toArray, List.set_cons_zero, List.set_cons_succ]
  refine wpAnyH_take (i := 10) (oi := { dst := some 58, op := Op.binOp BinOp.neq 4 (Operand.tmp 56) (Operand.tmp 57) 4, type := 4, pos := "law.go:41", after := #[{ on := 8, ground := Ground.data }, { on := 9, ground := Ground.data }, { on := 7, ground := Ground.guard }], guard := some (7, false) }) (v := ?_) rfl (by kernel_rfl) (by kernel_rfl) (by kernel_rfl) (fun _ _ _ h => h) (Or.inl ⟨by rfl, ?_⟩) (by assumption) ?_
  rotate_left 1
  · (intro w0 hS0; (try dsimp only at hS0); go_simp; try with_reducible rfl)
  try simp only [Act.put, List.setIfInBounds_toArray, List.set_cons_zero, List.set_cons_succ]
  refine wpAnyH_take (i := 11) (oi := { dst := some 59, op := Op.pick (Operand.tmp 55) (Operand.const (Value.bool true)) (Operand.tmp 58), type := 4, pos := "law.go:41", after := #[{ on := 7, ground := Ground.data }, { on := 10, ground := Ground.data }], guard := none }) (v := ?_) rfl (by kernel_rfl) (by kernel_rfl) (by kernel_rfl) (fun _ _ _ h => h) (Or.inl ⟨by rfl, ?_⟩) (by assumption) ?_
  rotate_left 1
  · (intro w0 hS0; (try dsimp only at hS0); go_simp; try with_reducible rfl)
  try simp only [Act.put, List.setIfInBounds_toArray, List.set_cons_zero, List.set_cons_succ]
  refine wpAnyH_take (i := 12) (oi := { dst := some 60, op := Op.move (Operand.tmp 59), type := 4, pos := "law.go:41", after := #[{ on := 11, ground := Ground.data }, { on := 7, ground := Ground.chain }], guard := none }) (v := ?_) rfl (by kernel_rfl) (by kernel_rfl) (by kernel_rfl) (fun _ _ _ h => h) (Or.inl ⟨by rfl, ?_⟩) (by assumption) ?_
  rotate_left 1
  · (intro w0 hS0; (try dsimp only at hS0); go_simp; try with_reducible rfl)
  try simp only [Act.put, List.setIfInBounds_toArray, List.set_cons_zero, List.set_cons_succ]
  refine wpAnyH_take (i := 13) (oi := { dst := some 61, op := Op.move (Operand.tmp 11), type := 4, pos := "law.go:41", after := #[{ on := 12, ground := Ground.guard }], guard := some (12, false) }) (v := ?_) rfl (by kernel_rfl) (by kernel_rfl) (by kernel_rfl) (fun _ _ _ h => h) (Or.inl ⟨by rfl, ?_⟩) (by assumption) ?_
  rotate_left 1
  · (intro w0 hS0; (try dsimp only at hS0); go_simp; try with_reducible rfl)
  try simp only [Act.put, List.setIfInBounds_toArray, List.set_cons_zero, List.set_cons_succ]
  refine wpAnyH_take (i := 14) (oi := { dst := some 62, op := Op.unOp UnOp.not 4 (Operand.tmp 61), type := 4, pos := "law.go:41", after := #[{ on := 13, ground := Ground.data }, { on := 12, ground := Ground.guard }], guard := some (12, false) }) (v := ?_) rfl (by kernel_rfl) (by kernel_rfl) (by kernel_rfl) (fun _ _ _ h => h) (Or.inl ⟨by rfl, ?_⟩) (by assumption) ?_
  rotate_left 1
  · (intro w0 hS0; (try dsimp only at hS0); go_simp; try with_reducible rfl)
  try simp only [Act.put, List.setIfInBounds_toArray, List.set_cons_zero, List.set_cons_succ]
  refine wpAnyH_take (i := 15) (oi := { dst := some 63, op := Op.move (Operand.tmp 62), type := 4, pos := "law.go:41", after := #[{ on := 14, ground := Ground.data }, { on := 12, ground := Ground.chain }, { on := 12, ground := Ground.guard }], guard := some (12, false) }) (v := ?_) rfl (by kernel_rfl) (by kernel_rfl) (by kernel_rfl) (fun _ _ _ h => h) (Or.inl ⟨by rfl, ?_⟩) (by assumption) ?_
  rotate_left 1
  · (intro w0 hS0; (try dsimp only at hS0); go_simp; try with_reducible rfl)
  try simp only [Act.put, List.setIfInBounds_toArray, List.set_cons_zero, List.set_cons_succ]
  refine wpAnyH_take (i := 16) (oi := { dst := some 64, op := Op.move (Operand.tmp 10), type := 2, pos := "law.go:41", after := #[{ on := 15, ground := Ground.guard }], guard := some (15, true) }) (v := undef) rfl (by kernel_rfl) (by kernel_rfl) (by kernel_rfl) (fun _ _ _ h => h) (Or.inr ⟨by rfl, rfl⟩) (by assumption) ?_
  try simp only [Act.put, List.setIfInBounds_toArray, List.set_cons_zero, List.set_cons_succ]
  refine wpAnyH_take (i := 17) (oi := { dst := some 65, op := Op.binOp BinOp.neq 2 (Operand.tmp 64) (Operand.const (Value.int IntKind.i64 0)) 2, type := 4, pos := "law.go:41", after := #[{ on := 16, ground := Ground.data }, { on := 15, ground := Ground.guard }], guard := some (15, true) }) (v := undef) rfl (by kernel_rfl) (by kernel_rfl) (by kernel_rfl) (fun _ _ _ h => h) (Or.inr ⟨by rfl, rfl⟩) (by assumption) ?_
  try simp only [Act.put, List.setIfInBounds_toArray, List.set_cons_zero, List.set_cons_succ]
  refine wpAnyH_take (i := 18) (oi := { dst := some 66, op := Op.pick (Operand.tmp 63) (Operand.tmp 65) (Operand.const (Value.bool false)), type := 4, pos := "law.go:41", after := #[{ on := 15, ground := Ground.data }, { on := 17, ground := Ground.data }, { on := 12, ground := Ground.guard }], guard := some (12, false) }) (v := ?_) rfl (by kernel_rfl) (by kernel_rfl) (by kernel_rfl) (fun _ _ _ h => h) (Or.inl ⟨by rfl, ?_⟩) (by assumption) ?_
  rotate_left 1
  · (intro w0 hS0; (try dsimp only at hS0); go_simp; try with_reducible rfl)
  try simp only [Act.put, List.setIfInBounds_toArray, List.set_cons_zero, List.set_cons_succ]
  refine wpAnyH_take (i := 19) (oi := { dst := some 67, op := Op.pick (Operand.tmp 60) (Operand.const (Value.bool true)) (Operand.tmp 66), type := 4, pos := "law.go:41", after := #[{ on := 12, ground := Ground.data }, { on := 18, ground := Ground.data }], guard := none }) (v := ?_) rfl (by kernel_rfl) (by kernel_rfl) (by kernel_rfl) (fun _ _ _ h => h) (Or.inl ⟨by rfl, ?_⟩) (by assumption) ?_
  rotate_left 1
  · (intro w0 hS0; (try dsimp only at hS0); go_simp; try with_reducible rfl)
  try simp only [Act.put, List.setIfInBounds_toArray, List.set_cons_zero, List.set_cons_succ]
  refine wpAnyH_take (i := 20) (oi := { dst := some 68, op := Op.move (Operand.tmp 67), type := 4, pos := "law.go:41", after := #[{ on := 19, ground := Ground.data }, { on := 15, ground := Ground.chain }], guard := none }) (v := ?_) rfl (by kernel_rfl) (by kernel_rfl) (by kernel_rfl) (fun _ _ _ h => h) (Or.inl ⟨by rfl, ?_⟩) (by assumption) ?_
  rotate_left 1
  · (intro w0 hS0; (try dsimp only at hS0); go_simp; try with_reducible rfl)
  try simp only [Act.put, List.setIfInBounds_toArray, List.set_cons_zero, List.set_cons_succ]
  refine wpAnyH_take (i := 21) (oi := { dst := some 69, op := Op.move (Operand.tmp 11), type := 4, pos := "law.go:41", after := #[{ on := 20, ground := Ground.guard }], guard := some (20, false) }) (v := ?_) rfl (by kernel_rfl) (by kernel_rfl) (by kernel_rfl) (fun _ _ _ h => h) (Or.inl ⟨by rfl, ?_⟩) (by assumption) ?_
  rotate_left 1
  · (intro w0 hS0; (try dsimp only at hS0); go_simp; try with_reducible rfl)
  try simp only [Act.put, List.setIfInBounds_toArray, List.set_cons_zero, List.set_cons_succ]
  refine wpAnyH_take (i := 22) (oi := { dst := some 70, op := Op.move (Operand.tmp 69), type := 4, pos := "law.go:41", after := #[{ on := 21, ground := Ground.data }, { on := 20, ground := Ground.chain }, { on := 20, ground := Ground.guard }], guard := some (20, false) }) (v := ?_) rfl (by kernel_rfl) (by kernel_rfl) (by kernel_rfl) (fun _ _ _ h => h) (Or.inl ⟨by rfl, ?_⟩) (by assumption) ?_
  rotate_left 1
  · (intro w0 hS0; (try dsimp only at hS0); go_simp; try with_reducible rfl)
  try simp only [Act.put, List.setIfInBounds_toArray, List.set_cons_zero, List.set_cons_succ]
  refine wpAnyH_take (i := 23) (oi := { dst := some 71, op := Op.move (Operand.tmp 10), type := 2, pos := "law.go:41", after := #[{ on := 22, ground := Ground.guard }], guard := some (22, true) }) (v := ?_) rfl (by kernel_rfl) (by kernel_rfl) (by kernel_rfl) (fun _ _ _ h => h) (Or.inl ⟨by rfl, ?_⟩) (by assumption) ?_
  rotate_left 1
  · (intro w0 hS0; (try dsimp only at hS0); go_simp; try with_reducible rfl)
  try simp only [Act.put, List.setIfInBounds_toArray, List.set_cons_zero, List.set_cons_succ]
  refine wpAnyH_take (i := 25) (oi := { dst := some 73, op := Op.load 28 (Operand.tmp 7), type := 28, pos := "law.go:41", after := #[{ on := 22, ground := Ground.guard }], guard := some (22, true) }) (v := ?_) rfl (by kernel_rfl) (by kernel_rfl) (by kernel_rfl) (fun _ _ _ h => h) (Or.inl ⟨by rfl, ?_⟩) (by assumption) ?_
  rotate_left 1
  · (intro w0 hS0; (try dsimp only at hS0); go_simp; try with_reducible rfl)
  try simp only [Act.put, List.setIfInBounds_toArray, List.set_cons_zero, List.set_cons_succ]
  refine wpAnyH_ready (rs := [24]) (by kernel_rfl) (by simp) ?_
  refine AllReadyH.cons (o := { dst := some 72, op := Op.call { callee := Callee.value (Operand.func 26), args := #[Operand.tmp 71], argTypes := #[2] }, type := 28, pos := "law.go:41", after := #[{ on := 23, ground := Ground.data }, { on := 22, ground := Ground.chain }, { on := 22, ground := Ground.guard }], guard := some (22, true) }) rfl (fun K hK => ?_) AllReadyH.nil
  go_simp
  (go_at_call 26; (with_reducible refine (rof_any x _ hf1 hf2).mono ?_); rintro e w3 ⟨Z6, rfl, hZ6, hb⟩; have HZ6 := Lib.hid hZ6; first | (have H := Lib.hid (H.out.next hb)) | (have H := Lib.hid (H.out.drew.next hb)); obtain ⟨f1, f2, f3, f4⟩ := H.out.facts)
  refine hK.out _ _ H.out.facts (fun hHeld => ?_)
  clear hK K
  try simp only [Act.put, List.setIfInBounds_toArray, List.set_cons_zero, List.set_cons_succ]
  refine wpAnyH_ready (rs := [26]) (by kernel_rfl) (by simp) ?_
  refine AllReadyH.cons (o := { dst := some 74, op := Op.call { callee := Callee.value (Operand.func 21), args := #[Operand.tmp 72, Operand.tmp 73], argTypes := #[28, 28] }, type := 3, pos := "law.go:41", after := #[{ on := 24, ground := Ground.data }, { on := 25, ground := Ground.data }, { on := 24, ground := Ground.chain }, { on := 22, ground := Ground.guard }], guard := some (22, true) }) rfl (fun K hK => ?_) AllReadyH.nil
  go_simp
  (go_at_call 21; (with_reducible refine (rcmp_any _ _ x x 4 80 _ HZ6.out H.out.N (by decide) (by decide)).mono ?_); rintro e w3 ⟨he, hb⟩; rw [cmpI_same] at he; subst he; have H := Lib.hid (H.out.next hb))
  refine hK.out _ _ H.out.facts (fun hHeld => ?_)
  clear hK K
  try simp only [Act.put, List.setIfInBounds_toArray, List.set_cons_zero, List.set_cons_succ]
  refine wpAnyH_take (i := 27) (oi := { dst := some 75, op := Op.binOp BinOp.neq 3 (Operand.tmp 74) (Operand.const (Value.int IntKind.i64 0)) 3, type := 4, pos := "law.go:41", after := #[{ on := 26, ground := Ground.data }, { on := 22, ground := Ground.guard }], guard := some (22, true) }) (v := ?_) rfl (by kernel_rfl) (by kernel_rfl) (by kernel_rfl) (fun _ _ _ h => h) (Or.inl ⟨by rfl, ?_⟩) (by assumption) ?_
  rotate_left 1
  · (intro w0 hS0; (try dsimp only at hS0); go_simp; try with_reducible rfl)
  try simp only [Act.put, List.setIfInBounds_toArray, List.set_cons_zero, List.set_cons_succ]
  refine wpAnyH_take (i := 28) (oi := { dst := some 76, op := Op.pick (Operand.tmp 70) (Operand.tmp 75) (Operand.const (Value.bool false)), type := 4, pos := "law.go:41", after := #[{ on := 22, ground := Ground.data }, { on := 27, ground := Ground.data }, { on := 20, ground := Ground.guard }], guard := some (20, false) }) (v := ?_) rfl (by kernel_rfl) (by kernel_rfl) (by kernel_rfl) (fun _ _ _ h => h) (Or.inl ⟨by rfl, ?_⟩) (by assumption) ?_
  rotate_left 1
  · (intro w0 hS0; (try dsimp only at hS0); go_simp; try with_reducible rfl)
  try simp only [Act.put, List.setIfInBounds_toArray, List.set_cons_zero, List.set_cons_succ]
  refine wpAnyH_take (i := 29) (oi := { dst := some 77, op := Op.pick (Operand.tmp 68) (Operand.const (Value.bool true)) (Operand.tmp 76), type := 4, pos := "law.go:41", after := #[{ on := 20, ground := Ground.data }, { on := 28, ground := Ground.data }], guard := none }) (v := ?_) rfl (by kernel_rfl) (by kernel_rfl) (by kernel_rfl) (fun _ _ _ h => h) (Or.inl ⟨by rfl, ?_⟩) (by assumption) ?_
  rotate_left 1
  · (intro w0 hS0; (try dsimp only at hS0); go_simp; try with_reducible rfl)
  try simp only [Act.put, List.setIfInBounds_toArray, List.set_cons_zero, List.set_cons_succ]
  refine wpAnyH_take (i := 30) (oi := { dst := some 78, op := Op.move (Operand.tmp 77), type := 4, pos := "law.go:41", after := #[{ on := 29, ground := Ground.data }, { on := 26, ground := Ground.chain }], guard := none }) (v := ?_) rfl (by kernel_rfl) (by kernel_rfl) (by kernel_rfl) (fun _ _ _ h => h) (Or.inl ⟨by rfl, ?_⟩) (by assumption) ?_
  rotate_left 1
  · (intro w0 hS0; (try dsimp only at hS0); go_simp; try with_reducible rfl)
  try simp only [Act.put, List.setIfInBounds_toArray, List.set_cons_zero, List.set_cons_succ]
  refine wpAnyH_take (i := 31) (oi := { dst := some 79, op := Op.move (Operand.tmp 0), type := 2, pos := "law.go:41", after := #[{ on := 30, ground := Ground.guard }], guard := some (30, false) }) (v := ?_) rfl (by kernel_rfl) (by kernel_rfl) (by kernel_rfl) (fun _ _ _ h => h) (Or.inl ⟨by rfl, ?_⟩) (by assumption) ?_
  rotate_left 1
  · (intro w0 hS0; (try dsimp only at hS0); go_simp; try with_reducible rfl)
  try simp only [Act.put, List.setIfInBounds_toArray, List.set_cons_zero, List.set_cons_succ]
  refine wpAnyH_take (i := 33) (oi := { dst := some 81, op := Op.move (Operand.tmp 0), type := 2, pos := "law.go:41", after := #[{ on := 30, ground := Ground.guard }], guard := some (30, false) }) (v := ?_) rfl (by kernel_rfl) (by kernel_rfl) (by kernel_rfl) (fun _ _ _ h => h) (Or.inl ⟨by rfl, ?_⟩) (by assumption) ?_
  rotate_left 1
  · (intro w0 hS0; (try dsimp only at hS0); go_simp; try with_reducible rfl)
  try simp only [Act.put, List.setIfInBounds_toArray, List.set_cons_zero, List.set_cons_succ]
  refine wpAnyH_ready (rs := [32]) (by kernel_rfl) (by simp) ?_
  refine AllReadyH.cons (o := { dst := some 80, op := Op.call { callee := Callee.value (Operand.func 25), args := #[Operand.tmp 79], argTypes := #[2] }, type := 24, pos := "law.go:41", after := #[{ on := 31, ground := Ground.data }, { on := 30, ground := Ground.chain }, { on := 30, ground := Ground.guard }], guard := some (30, false) }) rfl (fun K hK => ?_) AllReadyH.nil
  go_simp
  (go_at_call 25; (with_reducible refine (of_any n _ hn1 hn2).mono ?_); rintro e w3 ⟨Z3, rfl, hZ3, hb⟩; have HZ3 := Lib.hid hZ3; first | (have H := Lib.hid (H.out.next hb)) | (have H := Lib.hid (H.out.drew.next hb)))
  refine hK.out _ _ H.out.facts (fun hHeld => ?_)
  clear hK K
  try simp only [Act.put, List.setIfInBounds_toArray, List.set_cons_zero, List.set_cons_succ]
  refine wpAnyH_ready (rs := [34]) (by kernel_rfl) (by simp) ?_
  refine AllReadyH.cons (o := { dst := some 82, op := Op.call { callee := Callee.value (Operand.func 26), args := #[Operand.tmp 81], argTypes := #[2] }, type := 28, pos := "law.go:41", after := #[{ on := 33, ground := Ground.data }, { on := 32, ground := Ground.chain }, { on := 30, ground := Ground.guard }], guard := some (30, false) }) rfl (fun K hK => ?_) AllReadyH.nil
  go_simp
  (go_at_call 26; (with_reducible refine (rof_any n _ hn1 hn2).mono ?_); rintro e w3 ⟨Z7, rfl, hZ7, hb⟩; have HZ7 := Lib.hid hZ7; have HZ3 := Lib.hid (HZ3.out.bel hb); have H := Lib.hid (H.out.next hb))
  refine hK.out _ _ H.out.facts (fun hHeld => ?_)
  clear hK K
  try simp only [Act.put, List.setIfInBounds_toArray, List.set_cons_zero, List.set_cons_succ]
  refine wpAnyH_ready (rs := [35]) (by kernel_rfl) (by simp) ?_
  refine AllReadyH.cons (o := { dst := some 83, op := Op.call { callee := Callee.value (Operand.func 12), args := #[Operand.tmp 82], argTypes := #[28] }, type := 24, pos := "law.go:41", after := #[{ on := 34, ground := Ground.data }, { on := 34, ground := Ground.chain }, { on := 30, ground := Ground.guard }], guard := some (30, false) }) rfl (fun K hK => ?_) AllReadyH.nil
  go_simp
  (go_at_call 12; (with_reducible refine (to_any Z7 n 4 _ HZ7.out (by decide)).mono ?_); rintro e w3 ⟨Z8, rfl, hZ8, hb⟩; have HZ8 := Lib.hid hZ8; have HZ3 := Lib.hid (HZ3.out.bel hb); have H := Lib.hid (H.out.next hb))
  refine hK.out _ _ H.out.facts (fun hHeld => ?_)
  clear hK K
  try simp only [Act.put, List.setIfInBounds_toArray, List.set_cons_zero, List.set_cons_succ]
  refine wpAnyH_ready (rs := [36]) (by kernel_rfl) (by simp) ?_
  refine AllReadyH.cons (o := { dst := some 84, op := Op.call { callee := Callee.value (Operand.func 10), args := #[Operand.tmp 80, Operand.tmp 83], argTypes := #[24, 24] }, type := 4, pos := "law.go:41", after := #[{ on := 32, ground := Ground.data }, { on := 35, ground := Ground.data }, { on := 35, ground := Ground.chain }, { on := 30, ground := Ground.guard }], guard := some (30, false) }) rfl (fun K hK => ?_) AllReadyH.nil
  go_simp
  (go_at_call 10; (with_reducible refine (same_any Z3 Z8 n 2 _ _ HZ3.out HZ8.out (by decide)).mono ?_); rintro e w3 ⟨rfl, hb⟩; have H := Lib.hid (H.out.next hb))
  refine hK.out _ _ H.out.facts (fun hHeld => ?_)
  clear hK K
  try simp only [Act.put, List.setIfInBounds_toArray, List.set_cons_zero, List.set_cons_succ]
  refine wpAnyH_take (i := 37) (oi := { dst := some 85, op := Op.unOp UnOp.not 4 (Operand.tmp 84), type := 4, pos := "law.go:41", after := #[{ on := 36, ground := Ground.data }, { on := 30, ground := Ground.guard }], guard := some (30, false) }) (v := ?_) rfl (by kernel_rfl) (by kernel_rfl) (by kernel_rfl) (fun _ _ _ h => h) (Or.inl ⟨by rfl, ?_⟩) (by assumption) ?_
  rotate_left 1
  · (intro w0 hS0; (try dsimp only at hS0); go_simp; try with_reducible rfl)
  try simp only [Act.put, List.setIfInBounds_toArray, List.set_cons_zero, List.set_cons_succ]
  refine wpAnyH_take (i := 38) (oi := { dst := some 86, op := Op.pick (Operand.tmp 78) (Operand.const (Value.bool true)) (Operand.tmp 85), type := 4, pos := "law.go:41", after := #[{ on := 30, ground := Ground.data }, { on := 37, ground := Ground.data }], guard := none }) (v := ?_) rfl (by kernel_rfl) (by kernel_rfl) (by kernel_rfl) (fun _ _ _ h => h) (Or.inl ⟨by rfl, ?_⟩) (by assumption) ?_
  rotate_left 1
  · (intro w0 hS0; (try dsimp only at hS0); go_simp; try with_reducible rfl)
  try simp only [Act.put, List.setIfInBounds_toArray, List.set_cons_zero, List.set_cons_succ]
  refine wpAnyH_done (by kernel_rfl) ?_ _
  obtain ⟨f1, f2, f3, f4⟩ := H.out.facts
  all_goals
    have H9 := Lib.hid (H.out)
    obtain ⟨W9, hW9⟩ : ∃ W, W = w3 := ⟨_, rfl⟩
    rw [← hW9] at H9 ⊢
    have HH := Lib.hid H9.out
    clear hW9 H9
    obtain ⟨f1, f2, f3, f4⟩ := HH.out.facts
    have L0 := Lib.hid (show LpH w (W9.alloc (.cells #[.bool bx, .slice Ax zx.length cx] 28)) b (.slice A p c) w2.heap.size bx (.slice Ax zx.length cx) x W9.heap.size bx (.slice Ax zx.length cx) 0 from
      ⟨HH.out.next (bel_a _ _), Bx.new 28 W9 _ _, by have := (HH.out.next (bel_a W9 (.cells #[.bool bx, .slice Ax zx.length cx] 28))).N; simpa using this⟩)
    have hgy1 : w.heap.size < W9.heap.size := HH.out.a.lt
    have hgy2 : w2.heap.size ≠ W9.heap.size := Nat.ne_of_lt HH.out.X.lt
    go_wp2_with fail
    go_loopw [14] (fun i wr => ∃ (j : Nat) (m : Bool) (C : Option Addr) (r q : Nat), i = .int .i64 (j : Int) ∧ (j : Int) ≤ max k 0 ∧ LpH w wr b (.slice A p c) w2.heap.size bx (.slice Ax zx.length cx) x W9.heap.size m (.slice C r q) j) (fun i _ => (k - intOf i).toNat)
    case atStart => exact ⟨0, bx, Ax, zx.length, cx, rfl, by omega, L0.out⟩
    case round =>
      obtain ⟨j, m, C, r, q, rfl, hj, hl⟩ := hrel
      have L := Lib.hid hl
      obtain ⟨f1, f2, f3, f4, f5, f6⟩ := hl.facts
      clear hl
      by_cases hjk : (j : Int) < k
      · have hd1 : decide ((j : Int) < k) = true := decide_eq_true hjk
        have hj2 : 80 + j ≤ 100000 := by omega
        go_wp2_with (go_at_call 13; (with_reducible refine (radd_any _ _ (x * 2 ^ j) (x * 2 ^ j) (80 + j) (80 + j) _ L.out.M L.out.M hj2 hj2).mono ?_); rintro e w5 he; obtain ⟨b', C', p', q', zs, rfl, hs, hb⟩ := he.open_; have HS := Lib.hid hs; have L5 := Lib.hid (L.out.next hb); have fr0 := L5.out.Y.fr 0; have fr1 := L5.out.Y.fr 1; obtain ⟨_, _, _, _, f5, f6⟩ := L5.out.facts; clear he hs hb)
        exact ⟨⟨j + 1, b', C', p', q', by simp, by omega, L5.out.put hgy1 hgy2 ⟨b', _, zs, rfl, HS.out⟩⟩, by simp [intOf]; omega⟩
      · have hd1 : decide ((j : Int) < k) = false := decide_eq_false hjk
        have hsh := shn_small (show (j : Int) = max k 0 by omega) hk3
        have HJ := Lib.hid (show 80 + j ≤ 200000 by omega)
        have HSH := Lib.hid (show ∀ (X : Value) (W : World), BigA W X x 40 → Calls Tryd.prog 27 #[X, .int .i64 k] W (BigE (x * 2 ^ shn k) (40 + 130) W) from fun X W hW => shift_any X x k 40 W hW (by decide) hk1 hk2)
        rw [hsh] at HSH
        go_wp2_with fail
        go_region_held3 (fun w' => w'.cell? ⟨w.heap.size, 0, none⟩ = some (.bool b) ∧ w'.cell? ⟨w.heap.size, 1, none⟩ = some (.slice A p c) ∧ w'.cell? ⟨w2.heap.size, 0, none⟩ = some (.bool bx) ∧ w'.cell? ⟨w2.heap.size, 1, none⟩ = some (.slice Ax zx.length cx) ∧ w'.cell? ⟨W9.heap.size, 0, none⟩ = some (.bool m) ∧ w'.cell? ⟨W9.heap.size, 1, none⟩ = some (.slice C r q))
          (first | exact L.out.facts | exact L.out.drew.facts | go_keep)
          (first
            | (go_at_call 27; (with_reducible refine (HSH.out _ _ L.out.drew.S.A).mono ?_); rintro e w6 ⟨Z9, rfl, hZ9, hb⟩; have HZ9 := Lib.hid hZ9; have L := Lib.hid (L.out.drew.next hb))
            | (go_at_call 12; (with_reducible refine (to_any _ (x * 2 ^ j) (80 + j) _ L.out.M HJ.out).mono ?_); rintro e w6 ⟨Z10, rfl, hZ10, hb⟩; have HZ10 := Lib.hid hZ10; have HZ9 := Lib.hid (HZ9.out.bel hb); have L := Lib.hid (L.out.next hb))
            | (go_at_call 10; (with_reducible refine (same_any Z9 Z10 (x * 2 ^ j) (40 + 130) _ _ HZ9.out HZ10.out (by decide)).mono ?_); rintro e w6 ⟨rfl, hb⟩; have L := Lib.hid (L.out.next hb))
            | (go_at_call 28; (with_reducible refine (bits_any _ x 40 _ L.out.S.A (by decide)).mono ?_); rintro e w6 ⟨nb, rfl, hnb, hb⟩; have HNB := Lib.hid hnb; have L := Lib.hid (L.out.next hb))
            | (go_at_call 29; (with_reducible refine (rbits_any _ x 80 _ L.out.S.N (by decide)).mono ?_); rintro e w6 ⟨nb2, rfl, hnb2, hb⟩; have L := Lib.hid (L.out.next hb); obtain rfl := pair_bits HNB.out hnb2))
        all_goals
          go_wp2_with fail
          go_ret
          exact ⟨rfl, L.out.S.bel⟩
end Go.Proofs.YthmpkejdficmgaaDoor
