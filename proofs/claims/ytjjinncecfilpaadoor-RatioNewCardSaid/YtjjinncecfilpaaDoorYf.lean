/- Proved here: what RatioNew answers: true, where package ratio's calls answer as the document's do. Condition: that they do (PrOK). -/
import Derived.Test.YtjjinncecfilpaaDoorYa
namespace Go.Proofs.YtjjinncecfilpaaDoor
open Go.RowKit

structure NwfH (w W : World) (g1 g2 : Nat) (p q n d : Int) : Prop where
  r1 : Rt W g1 p q
  r2 : Rt W g2 p q
  r3 : Rt W (g2 + 1) n d
  bel : Below w.heap.size w W
theorem NwfH.next {w W W' : World} {g1 g2 : Nat} {p q n d : Int} (h : NwfH w W g1 g2 p q n d) (hb : Below W.heap.size W W') : NwfH w W' g1 g2 p q n d := ⟨h.r1.bel hb, h.r2.bel hb, h.r3.bel hb, bel_tr h.bel hb⟩
theorem NwfH.drew {w W : World} {g1 g2 : Nat} {p q n d : Int} (h : NwfH w W g1 g2 p q n d) : NwfH w W.drew g1 g2 p q n d := ⟨h.r1, h.r2, h.r3, h.bel.drew⟩
theorem NwfH.facts {w W : World} {g1 g2 : Nat} {p q n d : Int} (h : NwfH w W g1 g2 p q n d) : W.cell? ⟨g1, 0, none⟩ = some (.int .i64 p) ∧ W.cell? ⟨g1, 1, none⟩ = some (.int .i64 q) ∧ W.cell? ⟨g2, 0, none⟩ = some (.int .i64 p) ∧ W.cell? ⟨g2, 1, none⟩ = some (.int .i64 q) ∧ W.cell? ⟨g2 + 1, 0, none⟩ = some (.int .i64 n) ∧ W.cell? ⟨g2 + 1, 1, none⟩ = some (.int .i64 d) :=
  ⟨h.r1.c0, h.r1.c1, h.r2.c0, h.r2.c1, h.r3.c0, h.r3.c1⟩
theorem bel_d (W : World) : Below W.heap.size W W.drew := (Below.refl _ W).drew
theorem newR_may (n d p q : Int) (_hn : Fit n) (_hd : Fit d) (h : newR n d = (p, q, 0)) : Maybe p q ∧ Fit p ∧ Fit q := by
  unfold newR low at h
  split at h
  · simp at h
  · rename_i h0
    split at h
    · rename_i hf
      simp only [Prod.mk.injEq, and_true] at h
      obtain ⟨rfl, rfl⟩ := h
      have hg : 0 < n.natAbs.gcd d.natAbs := Nat.gcd_pos_of_pos_right _ (by omega)
      have e1 : (lowN n d).natAbs = n.natAbs / n.natAbs.gcd d.natAbs := natAbs_sv _ _
      have e2 : (lowD n d).natAbs = d.natAbs / n.natAbs.gcd d.natAbs := Int.natAbs_natCast _
      refine ⟨⟨?_, ?_⟩, hf.1, hf.2⟩
      · unfold lowD
        have := Nat.div_pos (Nat.le_of_dvd (by omega) (Nat.gcd_dvd_right n.natAbs d.natAbs)) hg
        omega
      · rw [e1, e2]
        exact Nat.gcd_div_gcd_div_gcd_of_pos_right (by omega)
    · simp at h
set_option maxHeartbeats 8000000 in
set_option maxRecDepth 100000 in
theorem new3_zero {T : World → Prop} (hP : PrOK T) (n d p q k : Int) (w : World) (hn : Fit n) (hd : Fit d) (hr : newR n d = (p, q, k)) (hk : k = 0) (ht : T w) : Calls Tryd.prog 3 #[.int .i64 n, .int .i64 d] w fun e w' => e = .returned (.bool true) ∧ Below w.heap.size w w' := by
  have H1 := Lib.hid (fun W hW => rate_pt hr (hP.new n d W hn hd hW))
  have H2 := Lib.hid (fun W => rate_pt hr (new_any n d W hn hd))
  have H3 := Lib.hid (fun W hW => hP.may n d W hn hd hW)
  have H4 := Lib.hid (fun W => may_any n d W hn hd)
  obtain ⟨b, hb0⟩ : ∃ b, b = decide (Maybe n d) := ⟨_, rfl⟩
  rw [← hb0] at H3 H4
  subst hk
  have hmq := newR_may n d p q hn hd hr
  have H5 := Lib.hid (fun W hW => hP.may p q W hmq.2.1 hmq.2.2 hW)
  rw [decide_eq_true hmq.1] at H5
  clear hmq
  have HP0 := Lib.hid hP
  have HP := Lib.hid hP.keep
  have HT := Lib.hid ht
  have HB := Lib.hid (Below.refl w.heap.size w)
  clear hP ht hr hn hd hb0
  go_enter Tryd.func3, Tryd.ntmps3
  go_wp2_with (first
    | (go_at_call 8; (with_reducible refine (awake3_any HP0.out _ HT.out).mono ?_); rintro e w0 ⟨rfl, hb⟩; have HT := Lib.hid (HP.out _ _ HT.out hb); have HB := Lib.hid (bel_tr HB.out hb); clear hb)
    | (go_at_call 9; (with_reducible refine (H1.out _ HT.out).mono ?_); rintro e w1 ⟨rfl, hb⟩; have hb := bel_tr hb (bel_a w1 (.cells #[.int .i64 p, .int .i64 q] 24)); have HT := Lib.hid (HP.out _ _ HT.out hb); have HB := Lib.hid (bel_tr HB.out hb); have R1 := Lib.hid (Rt.new w1 p q); clear hb)
    | (go_at_call 10; (with_reducible refine (H2.out _).mono ?_); rintro e w2 ⟨rfl, hb⟩; have hb := bel_tr (bel_tr hb (bel_a w2 (.cells #[.int .i64 p, .int .i64 q] 24))) (bel_a _ (.cells #[.int .i64 n, .int .i64 d] 24));
       have H := Lib.hid (show NwfH w ((w2.alloc (.cells #[.int .i64 p, .int .i64 q] 24)).alloc (.cells #[.int .i64 n, .int .i64 d] 24)) w1.heap.size w2.heap.size p q n d from ⟨R1.out.bel hb, (Rt.new w2 p q).alloc _, Rt.newg (by simp), bel_tr HB.out hb⟩); have HT := Lib.hid (HP.out _ _ HT.out hb); obtain ⟨f1, f2, f3, f4, f5, f6⟩ := H.out.facts; clear hb))
  go_region_held3 (fun w' => w'.cell? ⟨w1.heap.size, 0, none⟩ = some (.int .i64 p) ∧ w'.cell? ⟨w1.heap.size, 1, none⟩ = some (.int .i64 q) ∧ w'.cell? ⟨w2.heap.size, 0, none⟩ = some (.int .i64 p) ∧ w'.cell? ⟨w2.heap.size, 1, none⟩ = some (.int .i64 q) ∧ w'.cell? ⟨w2.heap.size + 1, 0, none⟩ = some (.int .i64 n) ∧ w'.cell? ⟨w2.heap.size + 1, 1, none⟩ = some (.int .i64 d))
    (first | with_reducible exact H.out.facts | with_reducible exact H.out.drew.facts | go_keep)
    (first
      | (go_at_call 11; (with_reducible refine (H3.out _ (HP.out _ _ HT.out (bel_d _))).mono ?_); rintro e w3 ⟨rfl, hb⟩; have H := Lib.hid (H.out.drew.next hb); have HT := Lib.hid (HP.out _ _ (HP.out _ _ HT.out (bel_d _)) hb); clear hb)
      | (go_at_call 12; (with_reducible refine (H4.out _).mono ?_); rintro e w4 ⟨rfl, hb⟩; have H := Lib.hid (H.out.next hb); have HT := Lib.hid (HP.out _ _ HT.out hb); clear hb)
      | (go_at_call 11; (with_reducible refine (H5.out _ HT.out).mono ?_); rintro e w5 ⟨rfl, hb⟩; have H := Lib.hid (H.out.next hb); clear hb))
  all_goals
    go_wp2_with fail
    go_ret
    exact ⟨rfl, H.out.bel⟩
set_option maxHeartbeats 8000000 in
set_option maxRecDepth 100000 in
theorem new3_code {T : World → Prop} (hP : PrOK T) (n d p q k : Int) (w : World) (hn : Fit n) (hd : Fit d) (hr : newR n d = (p, q, k)) (hk : k ≠ 0) (ht : T w) : Calls Tryd.prog 3 #[.int .i64 n, .int .i64 d] w fun e w' => e = .returned (.bool true) ∧ Below w.heap.size w w' := by
  have H1 := Lib.hid (fun W hW => rate_pt hr (hP.new n d W hn hd hW))
  have H2 := Lib.hid (fun W => rate_pt hr (new_any n d W hn hd))
  have H3 := Lib.hid (fun W hW => hP.may n d W hn hd hW)
  have H4 := Lib.hid (fun W => may_any n d W hn hd)
  obtain ⟨b, hb0⟩ : ∃ b, b = decide (Maybe n d) := ⟨_, rfl⟩
  rw [← hb0] at H3 H4
  have hkb : (k == 0) = false ∧ (k != 0) = true := by simp [hk]
  obtain ⟨hk1, hk2⟩ := hkb
  have HP0 := Lib.hid hP
  have HP := Lib.hid hP.keep
  have HT := Lib.hid ht
  have HB := Lib.hid (Below.refl w.heap.size w)
  clear hP ht hr hn hd hb0
  go_enter Tryd.func3, Tryd.ntmps3
  go_wp2_with (first
    | (go_at_call 8; (with_reducible refine (awake3_any HP0.out _ HT.out).mono ?_); rintro e w0 ⟨rfl, hb⟩; have HT := Lib.hid (HP.out _ _ HT.out hb); have HB := Lib.hid (bel_tr HB.out hb); clear hb)
    | (go_at_call 9; (with_reducible refine (H1.out _ HT.out).mono ?_); rintro e w1 ⟨rfl, hb⟩; have hb := bel_tr hb (bel_a w1 (.cells #[.int .i64 p, .int .i64 q] 24)); have HT := Lib.hid (HP.out _ _ HT.out hb); have HB := Lib.hid (bel_tr HB.out hb); have R1 := Lib.hid (Rt.new w1 p q); clear hb)
    | (go_at_call 10; (with_reducible refine (H2.out _).mono ?_); rintro e w2 ⟨rfl, hb⟩; have hb := bel_tr (bel_tr hb (bel_a w2 (.cells #[.int .i64 p, .int .i64 q] 24))) (bel_a _ (.cells #[.int .i64 n, .int .i64 d] 24));
       have H := Lib.hid (show NwfH w ((w2.alloc (.cells #[.int .i64 p, .int .i64 q] 24)).alloc (.cells #[.int .i64 n, .int .i64 d] 24)) w1.heap.size w2.heap.size p q n d from ⟨R1.out.bel hb, (Rt.new w2 p q).alloc _, Rt.newg (by simp), bel_tr HB.out hb⟩); have HT := Lib.hid (HP.out _ _ HT.out hb); obtain ⟨f1, f2, f3, f4, f5, f6⟩ := H.out.facts; clear hb))
  refine wp_region_held_drew (S := (fun w' => w'.cell? ⟨w1.heap.size, 0, none⟩ = some (.int .i64 p) ∧ w'.cell? ⟨w1.heap.size, 1, none⟩ = some (.int .i64 q) ∧ w'.cell? ⟨w2.heap.size, 0, none⟩ = some (.int .i64 p) ∧ w'.cell? ⟨w2.heap.size, 1, none⟩ = some (.int .i64 q) ∧ w'.cell? ⟨w2.heap.size + 1, 0, none⟩ = some (.int .i64 n) ∧ w'.cell? ⟨w2.heap.size + 1, 1, none⟩ = some (.int .i64 d))) (by kernel_rfl) ?_ (fun hHeld => ?_)
  · exact H.out.drew.facts
  refine wpAnyH_take (i := 0) (oi := { dst := some 27, op := Op.load 24 (Operand.tmp 5), type := 24, pos := "law.go:27", after := #[], guard := none }) (v := ?_) rfl (by kernel_rfl) (by kernel_rfl) (by kernel_rfl) (fun _ _ _ h => h) (Or.inl ⟨by rfl, ?_⟩) (by assumption) ?_
  rotate_left 1
  · (intro w0 hS0; (try dsimp only at hS0); go_simp; try with_reducible rfl)
  try simp only [Act.put, List.setIfInBounds_toArray, List.set_cons_zero, List.set_cons_succ]
  refine wpAnyH_take (i := 1) (oi := { dst := some 28, op := Op.load 24 (Operand.tmp 7), type := 24, pos := "law.go:27", after := #[], guard := none }) (v := ?_) rfl (by kernel_rfl) (by kernel_rfl) (by kernel_rfl) (fun _ _ _ h => h) (Or.inl ⟨by rfl, ?_⟩) (by assumption) ?_
  rotate_left 1
  · (intro w0 hS0; (try dsimp only at hS0); go_simp; try with_reducible rfl)
  try simp only [Act.put, List.setIfInBounds_toArray, List.set_cons_zero, List.set_cons_succ]
  refine wpAnyH_take (i := 2) (oi := { dst := some 29, op := Op.binOp BinOp.eql 24 (Operand.tmp 27) (Operand.tmp 28) 24, type := 4, pos := "law.go:27", after := #[{ on := 0, ground := Ground.data }, { on := 1, ground := Ground.data }], guard := none }) (v := ?_) rfl (by kernel_rfl) (by kernel_rfl) (by kernel_rfl) (fun _ _ _ h => h) (Or.inl ⟨by rfl, ?_⟩) (by assumption) ?_
  rotate_left 1
  · (intro w0 hS0; (try dsimp only at hS0); go_simp; try with_reducible rfl)
  try simp only [Act.put, List.setIfInBounds_toArray, List.set_cons_zero, List.set_cons_succ]
  refine wpAnyH_take (i := 3) (oi := { dst := some 30, op := Op.move (Operand.tmp 29), type := 4, pos := "law.go:27", after := #[{ on := 2, ground := Ground.data }], guard := none }) (v := ?_) rfl (by kernel_rfl) (by kernel_rfl) (by kernel_rfl) (fun _ _ _ h => h) (Or.inl ⟨by rfl, ?_⟩) (by assumption) ?_
  rotate_left 1
  · (intro w0 hS0; (try dsimp only at hS0); go_simp; try with_reducible rfl)
  try simp only [Act.put, List.setIfInBounds_toArray, List.set_cons_zero, List.set_cons_succ]
  refine wpAnyH_take (i := 4) (oi := { dst := some 31, op := Op.move (Operand.tmp 6), type := 25, pos := "law.go:27", after := #[{ on := 3, ground := Ground.guard }], guard := some (3, true) }) (v := ?_) rfl (by kernel_rfl) (by kernel_rfl) (by kernel_rfl) (fun _ _ _ h => h) (Or.inl ⟨by rfl, ?_⟩) (by assumption) ?_
  rotate_left 1
  · (intro w0 hS0; (try dsimp only at hS0); go_simp; try with_reducible rfl)
  try simp only [Act.put, List.setIfInBounds_toArray, List.set_cons_zero, List.set_cons_succ]
  refine wpAnyH_take (i := 5) (oi := { dst := some 32, op := Op.move (Operand.tmp 8), type := 3, pos := "law.go:27", after := #[{ on := 3, ground := Ground.guard }], guard := some (3, true) }) (v := ?_) rfl (by kernel_rfl) (by kernel_rfl) (by kernel_rfl) (fun _ _ _ h => h) (Or.inl ⟨by rfl, ?_⟩) (by assumption) ?_
  rotate_left 1
  · (intro w0 hS0; (try dsimp only at hS0); go_simp; try with_reducible rfl)
  try simp only [Act.put, List.setIfInBounds_toArray, List.set_cons_zero, List.set_cons_succ]
  refine wpAnyH_take (i := 6) (oi := { dst := some 33, op := Op.binOp BinOp.eql 3 (Operand.tmp 31) (Operand.tmp 32) 3, type := 4, pos := "law.go:27", after := #[{ on := 4, ground := Ground.data }, { on := 5, ground := Ground.data }, { on := 3, ground := Ground.guard }], guard := some (3, true) }) (v := ?_) rfl (by kernel_rfl) (by kernel_rfl) (by kernel_rfl) (fun _ _ _ h => h) (Or.inl ⟨by rfl, ?_⟩) (by assumption) ?_
  rotate_left 1
  · (intro w0 hS0; (try dsimp only at hS0); go_simp; try with_reducible rfl)
  try simp only [Act.put, List.setIfInBounds_toArray, List.set_cons_zero, List.set_cons_succ]
  refine wpAnyH_take (i := 7) (oi := { dst := some 34, op := Op.pick (Operand.tmp 30) (Operand.tmp 33) (Operand.const (Value.bool false)), type := 4, pos := "law.go:27", after := #[{ on := 3, ground := Ground.data }, { on := 6, ground := Ground.data }], guard := none }) (v := ?_) rfl (by kernel_rfl) (by kernel_rfl) (by kernel_rfl) (fun _ _ _ h => h) (Or.inl ⟨by rfl, ?_⟩) (by assumption) ?_
  rotate_left 1
  · (intro w0 hS0; (try dsimp only at hS0); go_simp; try with_reducible rfl)
  try simp only [Act.put, List.setIfInBounds_toArray, List.set_cons_zero, List.set_cons_succ]
  refine wpAnyH_take (i := 8) (oi := { dst := some 35, op := Op.move (Operand.tmp 34), type := 4, pos := "law.go:27", after := #[{ on := 7, ground := Ground.data }, { on := 3, ground := Ground.chain }], guard := none }) (v := ?_) rfl (by kernel_rfl) (by kernel_rfl) (by kernel_rfl) (fun _ _ _ h => h) (Or.inl ⟨by rfl, ?_⟩) (by assumption) ?_
  rotate_left 1
  · (intro w0 hS0; (try dsimp only at hS0); go_simp; try with_reducible rfl)
  try simp only [Act.put, List.setIfInBounds_toArray, List.set_cons_zero, List.set_cons_succ]
  refine wpAnyH_take (i := 9) (oi := { dst := some 36, op := Op.load 24 (Operand.tmp 9), type := 24, pos := "law.go:27", after := #[{ on := 8, ground := Ground.guard }], guard := some (8, true) }) (v := ?_) rfl (by kernel_rfl) (by kernel_rfl) (by kernel_rfl) (fun _ _ _ h => h) (Or.inl ⟨by rfl, ?_⟩) (by assumption) ?_
  rotate_left 1
  · (intro w0 hS0; (try dsimp only at hS0); go_simp; try with_reducible rfl)
  try simp only [Act.put, List.setIfInBounds_toArray, List.set_cons_zero, List.set_cons_succ]
  refine wpAnyH_take (i := 11) (oi := { dst := some 38, op := Op.load 24 (Operand.tmp 9), type := 24, pos := "law.go:27", after := #[{ on := 8, ground := Ground.guard }], guard := some (8, true) }) (v := ?_) rfl (by kernel_rfl) (by kernel_rfl) (by kernel_rfl) (fun _ _ _ h => h) (Or.inl ⟨by rfl, ?_⟩) (by assumption) ?_
  rotate_left 1
  · (intro w0 hS0; (try dsimp only at hS0); go_simp; try with_reducible rfl)
  try simp only [Act.put, List.setIfInBounds_toArray, List.set_cons_zero, List.set_cons_succ]
  refine wpAnyH_ready (rs := [10]) (by kernel_rfl) (by simp) ?_
  refine AllReadyH.cons (o := { dst := some 37, op := Op.call { callee := Callee.value (Operand.func 11), args := #[Operand.tmp 36], argTypes := #[24] }, type := 4, pos := "law.go:27", after := #[{ on := 9, ground := Ground.data }, { on := 8, ground := Ground.chain }, { on := 8, ground := Ground.guard }], guard := some (8, true) }) rfl (fun K hK => ?_) AllReadyH.nil
  go_simp
  (go_at_call 11; (with_reducible refine (H3.out _ (HP.out _ _ HT.out (bel_d _))).mono ?_); rintro e w3 ⟨rfl, hb⟩; have H := Lib.hid (H.out.drew.next hb))
  refine hK.out _ _ H.out.facts (fun hHeld => ?_)
  clear hK K
  try simp only [Act.put, List.setIfInBounds_toArray, List.set_cons_zero, List.set_cons_succ]
  refine wpAnyH_ready (rs := [12]) (by kernel_rfl) (by simp) ?_
  refine AllReadyH.cons (o := { dst := some 39, op := Op.call { callee := Callee.value (Operand.func 12), args := #[Operand.tmp 38], argTypes := #[24] }, type := 4, pos := "law.go:27", after := #[{ on := 11, ground := Ground.data }, { on := 10, ground := Ground.chain }, { on := 8, ground := Ground.guard }], guard := some (8, true) }) rfl (fun K hK => ?_) AllReadyH.nil
  go_simp
  (go_at_call 12; (with_reducible refine (H4.out _).mono ?_); rintro e w4 ⟨rfl, hb⟩; have H := Lib.hid (H.out.next hb))
  refine hK.out _ _ H.out.facts (fun hHeld => ?_)
  clear hK K
  try simp only [Act.put, List.setIfInBounds_toArray, List.set_cons_zero, List.set_cons_succ]
  refine wpAnyH_take (i := 13) (oi := { dst := some 40, op := Op.binOp BinOp.eql 4 (Operand.tmp 37) (Operand.tmp 39) 4, type := 4, pos := "law.go:27", after := #[{ on := 10, ground := Ground.data }, { on := 12, ground := Ground.data }, { on := 8, ground := Ground.guard }], guard := some (8, true) }) (v := ?_) rfl (by kernel_rfl) (by kernel_rfl) (by kernel_rfl) (fun _ _ _ h => h) (Or.inl ⟨by rfl, ?_⟩) (by assumption) ?_
  rotate_left 1
  · (intro w0 hS0; (try dsimp only at hS0); go_simp; try with_reducible rfl)
  try simp only [Act.put, List.setIfInBounds_toArray, List.set_cons_zero, List.set_cons_succ]
  refine wpAnyH_take (i := 14) (oi := { dst := some 41, op := Op.pick (Operand.tmp 35) (Operand.tmp 40) (Operand.const (Value.bool false)), type := 4, pos := "law.go:27", after := #[{ on := 8, ground := Ground.data }, { on := 13, ground := Ground.data }], guard := none }) (v := ?_) rfl (by kernel_rfl) (by kernel_rfl) (by kernel_rfl) (fun _ _ _ h => h) (Or.inl ⟨by rfl, ?_⟩) (by assumption) ?_
  rotate_left 1
  · (intro w0 hS0; (try dsimp only at hS0); go_simp; try with_reducible rfl)
  try simp only [Act.put, List.setIfInBounds_toArray, List.set_cons_zero, List.set_cons_succ]
  refine wpAnyH_take (i := 15) (oi := { dst := some 42, op := Op.move (Operand.tmp 41), type := 4, pos := "law.go:27", after := #[{ on := 14, ground := Ground.data }, { on := 12, ground := Ground.chain }], guard := none }) (v := ?_) rfl (by kernel_rfl) (by kernel_rfl) (by kernel_rfl) (fun _ _ _ h => h) (Or.inl ⟨by rfl, ?_⟩) (by assumption) ?_
  rotate_left 1
  · (intro w0 hS0; (try dsimp only at hS0); go_simp; try with_reducible rfl)
  try simp only [Act.put, List.setIfInBounds_toArray, List.set_cons_zero, List.set_cons_succ]
  refine wpAnyH_take (i := 16) (oi := { dst := some 43, op := Op.move (Operand.tmp 8), type := 3, pos := "law.go:27", after := #[{ on := 15, ground := Ground.guard }], guard := some (15, true) }) (v := ?_) rfl (by kernel_rfl) (by kernel_rfl) (by kernel_rfl) (fun _ _ _ h => h) (Or.inl ⟨by rfl, ?_⟩) (by assumption) ?_
  rotate_left 1
  · (intro w0 hS0; (try dsimp only at hS0); go_simp; try with_reducible rfl)
  try simp only [Act.put, List.setIfInBounds_toArray, List.set_cons_zero, List.set_cons_succ]
  refine wpAnyH_take (i := 17) (oi := { dst := some 44, op := Op.binOp BinOp.neq 3 (Operand.tmp 43) (Operand.const (Value.int IntKind.i64 0)) 3, type := 4, pos := "law.go:27", after := #[{ on := 16, ground := Ground.data }, { on := 15, ground := Ground.guard }], guard := some (15, true) }) (v := ?_) rfl (by kernel_rfl) (by kernel_rfl) (by kernel_rfl) (fun _ _ _ h => h) (Or.inl ⟨by rfl, ?_⟩) (by assumption) ?_
  rotate_left 1
  · (intro w0 hS0; (try dsimp only at hS0); go_simp; try with_reducible rfl)
  try simp only [Act.put, List.setIfInBounds_toArray, List.set_cons_zero, List.set_cons_succ]
  refine wpAnyH_take (i := 18) (oi := { dst := some 45, op := Op.move (Operand.tmp 44), type := 4, pos := "law.go:27", after := #[{ on := 17, ground := Ground.data }, { on := 15, ground := Ground.chain }, { on := 15, ground := Ground.guard }], guard := some (15, true) }) (v := ?_) rfl (by kernel_rfl) (by kernel_rfl) (by kernel_rfl) (fun _ _ _ h => h) (Or.inl ⟨by rfl, ?_⟩) (by assumption) ?_
  rotate_left 1
  · (intro w0 hS0; (try dsimp only at hS0); go_simp; try with_reducible rfl)
  try simp only [Act.put, List.setIfInBounds_toArray, List.set_cons_zero, List.set_cons_succ]
  refine wpAnyH_take (i := 19) (oi := { dst := some 46, op := Op.load 24 (Operand.tmp 5), type := 24, pos := "law.go:27", after := #[{ on := 18, ground := Ground.guard }], guard := some (18, false) }) (v := undef) rfl (by kernel_rfl) (by kernel_rfl) (by kernel_rfl) (fun _ _ _ h => h) (Or.inr ⟨by rfl, rfl⟩) (by assumption) ?_
  try simp only [Act.put, List.setIfInBounds_toArray, List.set_cons_zero, List.set_cons_succ]
  refine wpAnyH_take (i := 20) (oi := { dst := some 47, op := Op.call { callee := Callee.value (Operand.func 11), args := #[Operand.tmp 46], argTypes := #[24] }, type := 4, pos := "law.go:27", after := #[{ on := 19, ground := Ground.data }, { on := 18, ground := Ground.chain }, { on := 18, ground := Ground.guard }], guard := some (18, false) }) (v := undef) rfl (by kernel_rfl) (by kernel_rfl) (by kernel_rfl) (fun _ _ _ h => h) (Or.inr ⟨by rfl, rfl⟩) (by assumption) ?_
  try simp only [Act.put, List.setIfInBounds_toArray, List.set_cons_zero, List.set_cons_succ]
  refine wpAnyH_take (i := 21) (oi := { dst := some 48, op := Op.pick (Operand.tmp 45) (Operand.const (Value.bool true)) (Operand.tmp 47), type := 4, pos := "law.go:27", after := #[{ on := 18, ground := Ground.data }, { on := 20, ground := Ground.data }, { on := 15, ground := Ground.guard }], guard := some (15, true) }) (v := ?_) rfl (by kernel_rfl) (by kernel_rfl) (by kernel_rfl) (fun _ _ _ h => h) (Or.inl ⟨by rfl, ?_⟩) (by assumption) ?_
  rotate_left 1
  · (intro w0 hS0; (try dsimp only at hS0); go_simp; try with_reducible rfl)
  try simp only [Act.put, List.setIfInBounds_toArray, List.set_cons_zero, List.set_cons_succ]
  refine wpAnyH_take (i := 22) (oi := { dst := some 49, op := Op.pick (Operand.tmp 42) (Operand.tmp 48) (Operand.const (Value.bool false)), type := 4, pos := "law.go:27", after := #[{ on := 15, ground := Ground.data }, { on := 21, ground := Ground.data }], guard := none }) (v := ?_) rfl (by kernel_rfl) (by kernel_rfl) (by kernel_rfl) (fun _ _ _ h => h) (Or.inl ⟨by rfl, ?_⟩) (by assumption) ?_
  rotate_left 1
  · (intro w0 hS0; (try dsimp only at hS0); go_simp; try with_reducible rfl)
  try simp only [Act.put, List.setIfInBounds_toArray, List.set_cons_zero, List.set_cons_succ]
  refine wpAnyH_take (i := 23) (oi := { dst := some 4, op := Op.assign (Operand.tmp 49), type := 4, pos := "law.go:27", after := #[{ on := 22, ground := Ground.data }, { on := 20, ground := Ground.chain }, { on := 0, ground := Ground.phase }, { on := 1, ground := Ground.phase }, { on := 2, ground := Ground.phase }, { on := 3, ground := Ground.phase }, { on := 4, ground := Ground.phase }, { on := 5, ground := Ground.phase }, { on := 6, ground := Ground.phase }, { on := 7, ground := Ground.phase }, { on := 8, ground := Ground.phase }, { on := 9, ground := Ground.phase }, { on := 10, ground := Ground.phase }, { on := 11, ground := Ground.phase }, { on := 12, ground := Ground.phase }, { on := 13, ground := Ground.phase }, { on := 14, ground := Ground.phase }, { on := 15, ground := Ground.phase }, { on := 16, ground := Ground.phase }, { on := 17, ground := Ground.phase }, { on := 18, ground := Ground.phase }, { on := 19, ground := Ground.phase }, { on := 20, ground := Ground.phase }, { on := 21, ground := Ground.phase }, { on := 22, ground := Ground.phase }], guard := none }) (v := ?_) rfl (by kernel_rfl) (by kernel_rfl) (by kernel_rfl) (fun _ _ _ h => h) (Or.inl ⟨by rfl, ?_⟩) (by assumption) ?_
  rotate_left 1
  · (intro w0 hS0; (try dsimp only at hS0); go_simp; try with_reducible rfl)
  try simp only [Act.put, List.setIfInBounds_toArray, List.set_cons_zero, List.set_cons_succ]
  refine wpAnyH_done (by kernel_rfl) ?_ _
  go_wp2_with fail
  go_ret
  exact ⟨rfl, H.out.bel⟩
theorem law_new3 {T : World → Prop} (hP : PrOK T) (n d : Int) (w : World) (hn : Fit n) (hd : Fit d) (ht : T w) : Calls Tryd.prog 3 #[.int .i64 n, .int .i64 d] w fun e w' => e = .returned (.bool true) ∧ Below w.heap.size w w' := by
  obtain ⟨⟨p, q, k⟩, hr⟩ : ∃ r, r = newR n d := ⟨_, rfl⟩
  by_cases hk : k = 0
  · exact new3_zero hP n d p q k w hn hd hr.symm hk ht
  · exact new3_code hP n d p q k w hn hd hr.symm hk ht
end Go.Proofs.YtjjinncecfilpaaDoor
