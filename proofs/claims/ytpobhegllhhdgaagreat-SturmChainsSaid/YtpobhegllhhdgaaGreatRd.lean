/- Proved here: what the document's Mul of polynomials answers and leaves in memory. Condition: polynomials of at most 1000 numbers of at most 20000 digits, that lie in memory. -/
import Derived.Test.YtpobhegllhhdgaaGreatRc
namespace Go.Proofs.YtpobhegllhhdgaaGreat
open Go.RowKit

/-- A sum in its box, and the row that is made. -/
structure MrH (w W : World) (g : Nat) (b : Bool) (v : Value) (s : Int) (ls : Nat) (z : Value) (R : List Int) (lo : Nat) : Prop where
  bel : Below w.heap.size w W
  S : Bx 69 W g b v
  es : El .n W (.agg #[.bool b, v]) s ls
  R : Rn W w.heap.size z R lo
  ng : w.heap.size ≤ g
  far : ∀ a m c, z = .slice (some a) m c → a.block ≠ g
section
variable {w W W' : World} {g ls lo : Nat} {b : Bool} {v z : Value} {s : Int} {R : List Int}
theorem MrH.next (h : MrH w W g b v s ls z R lo) (hb : Below W.heap.size W W') : MrH w W' g b v s ls z R lo := ⟨bel_tr h.bel hb, h.S.bel hb, h.es.bel hb, h.R.bel hb, h.ng, h.far⟩
theorem MrH.drew (h : MrH w W g b v s ls z R lo) : MrH w W.drew g b v s ls z R lo := h.next ((Below.refl _ _).drew)
theorem MrH.le {ls' : Nat} (h : MrH w W g b v s ls z R lo) (hl : ls ≤ ls') : MrH w W g b v s ls' z R lo := ⟨h.bel, h.S, h.es.le hl, h.R, h.ng, h.far⟩
theorem MrH.facts (h : MrH w W g b v s ls z R lo) : W.cell? ⟨g, 0, none⟩ = some (.bool b) ∧ W.cell? ⟨g, 1, none⟩ = some v ∧ W.frozen? ⟨g, 0, none⟩ = false ∧ W.frozen? ⟨g, 1, none⟩ = false := ⟨h.S.c0, h.S.c1, h.S.fr 0, h.S.fr 1⟩
theorem MrH.put {b' : Bool} {B B0 : Option Addr} {i j i0 j0 : Nat} {t : Int} {lt : Nat} (h : MrH w W g b (.slice B0 i0 j0) s ls z R lo) (hz : El .n W (.agg #[.bool b', .slice B i j]) t lt) :
    MrH w ((W.setCell ⟨g, 0, none⟩ (.bool b')).setCell ⟨g, 1, none⟩ (.slice B i j)) g b' (.slice B i j) t lt z R lo :=
  ⟨bel_set (bel_set h.bel h.ng _ _) h.ng _ _, h.S.put _ _, hz.box h.S _ _ _ _, h.R.store h.S h.far _ _ _ _, h.ng, h.far⟩
end
set_option maxRecDepth 100000 in
set_option maxHeartbeats 2000000 in
theorem rmul5_any (A B : Option Addr) (m c m2 c2 : Nat) (L M : List Int) (l k : Nat) (w : World) (h : Pol .n w (.slice A m c) L l) (h' : Pol .n w (.slice B m2 c2) M k) (hm : m ≤ 1000) (hm2 : m2 ≤ 1000) (hl : l ≤ 20000) (hk : k ≤ 20000) :
    Calls Tryz.prog 87 #[.slice A m c, .slice B m2 c2] w (PolE .n (mulP L M) (l + k + 3000) w) := by
  have hmL := h.cap.1
  have hmM := h'.cap.1
  have H := Lib.hid h
  have H' := Lib.hid h'
  obtain ⟨f, hf⟩ : ∃ f : Nat → Int, f = fun n => conv L M n (n + 1) := ⟨_, rfl⟩
  obtain ⟨N, hN⟩ : ∃ N, N = m + m2 := ⟨_, rfl⟩
  have HD := Lib.hid (show mulP L M = trz (gen N f) by rw [hf, hN, hmL, hmM]; rfl)
  have HF := Lib.hid (fun i => congrFun hf i)
  have eN : (m : Int) + (m2 : Int) = (N : Int) := by omega
  have hN2 : N ≤ 2000 := by omega
  clear h h' hmL hmM hf hN
  go_enter Tryz.func87, Tryz.ntmps87
  go_wp2_with fail
  go_loopw [5, 6] (fun z i wr => ∃ n : Nat, i = .int .i64 (n : Int) ∧ n ≤ N ∧ Below w.heap.size w wr ∧ Rn wr w.heap.size z (gen n f) (l + k + 3000)) (fun _ i _ => N - (intOf i).toNat)
  case atStart => exact ⟨0, rfl, Nat.zero_le _, Below.refl _ _, Rn.nil _ _ _⟩
  case round =>
    obtain ⟨n, rfl, hn, hb, hR⟩ := hrel
    by_cases hgo : n < N
    · have hni : (n : Int) < (N : Int) := by omega
      have HS := Lib.hid (show MrH w (wr.alloc (.cells #[.bool false, .slice none 0 0] 69)) wr.heap.size false (.slice none 0 0) (conv L M n 0) (l + k + 1 + 0) u5 (gen n f) (l + k + 3000) from
        ⟨bel_tr hb (bel_a _ _), Bx.new 69 wr _ _, El.zero .n _ _, hR.bel (bel_a _ _), hb.size, fun a m c he => by subst he; exact Nat.ne_of_lt hR.blk⟩)
      have HT := Lib.hid (show gen (n + 1) f = gen n f ++ [conv L M n (n + 1)] by rw [gen_snoc, HF.out])
      have HL := Lib.hid (show (gen n f).length ≤ 1000000 by rw [gen_len]; omega)
      clear hb hR
      go_upto_region 6 with fail
      obtain ⟨g, hg⟩ : ∃ g, g = wr.heap.size := ⟨_, rfl⟩
      obtain ⟨W1, hW1⟩ : ∃ W1, W1 = wr.alloc (.cells #[.bool false, .slice none 0 0] 69) := ⟨_, rfl⟩
      rw [← hg, ← hW1] at HS
      rw [← hg, ← hW1]
      clear hg hW1
      go_wp2_with fail
      go_loopw [8] (fun i w3 => ∃ (j : Nat) (b : Bool) (v : Value), i = .int .i64 (j : Int) ∧ j ≤ n + 1 ∧ MrH w w3 g b v (conv L M n j) (l + k + 1 + j) u5 (gen n f) (l + k + 3000)) (fun i _ => n + 1 - (intOf i).toNat)
      case atStart => exact ⟨0, _, _, rfl, Nat.zero_le _, HS.out⟩
      case round =>
        obtain ⟨j, b, v, rfl, hj, hS⟩ := hrel
        obtain ⟨Bv, iv, jv, rfl⟩ := hS.es.ne_int
        have HS := Lib.hid hS
        obtain ⟨f0, f1, f2, f3⟩ := hS.facts
        clear hS
        by_cases hj2 : j ≤ n
        · obtain ⟨t, ht⟩ : ∃ t, t = n - j := ⟨_, rfl⟩
          have et : (n : Int) - (j : Int) = (t : Int) := by omega
          have wt : IntKind.i64.wrap (t : Int) = (t : Int) := IntWalk.i64_in _ (by omega)
          have HC := Lib.hid (show conv L M n (j + 1) = conv L M n j + co L j * co M t by simp only [conv]; rw [if_pos hj2, ht])
          clear ht
          go_wp2_with fail
          refine wt_start (S := (fun w' => w'.cell? ⟨g, 0, none⟩ = some (.bool b) ∧ w'.cell? ⟨g, 1, none⟩ = some (.slice Bv iv jv))) 11 (by kernel_rfl) ?_ (fun hHeld => ?_)
          · exact ⟨f0, f1⟩
          refine wt_take (i := 0) (oi := { dst := some 24, op := Op.load 69 (Operand.tmp 7), type := 69, pos := "ref.go:72", after := #[], guard := none }) (v := ?_) [] (by kernel_rfl) rfl (by kernel_rfl) (by kernel_rfl) (by kernel_rfl) rfl (fun _ _ _ h => h) (Or.inl ⟨by rfl, ?_⟩) (by assumption) ?_
          rotate_left 1
          · (intro w0 hS0; (try dsimp only at hS0); go_simp; try with_reducible rfl)
          try simp only [Act.put, List.setIfInBounds_toArray, List.set_cons_zero, List.set_cons_succ]
          refine wt_take (i := 1) (oi := { dst := some 25, op := Op.move (Operand.tmp 0), type := 27, pos := "ref.go:72", after := #[], guard := none }) (v := ?_) [] (by kernel_rfl) rfl (by kernel_rfl) (by kernel_rfl) (by kernel_rfl) rfl (fun _ _ _ h => h) (Or.inl ⟨by rfl, ?_⟩) (by assumption) ?_
          rotate_left 1
          · (intro w0 hS0; (try dsimp only at hS0); go_simp; try with_reducible rfl)
          try simp only [Act.put, List.setIfInBounds_toArray, List.set_cons_zero, List.set_cons_succ]
          refine wt_take (i := 2) (oi := { dst := some 26, op := Op.move (Operand.tmp 8), type := 3, pos := "ref.go:72", after := #[], guard := none }) (v := ?_) [] (by kernel_rfl) rfl (by kernel_rfl) (by kernel_rfl) (by kernel_rfl) rfl (fun _ _ _ h => h) (Or.inl ⟨by rfl, ?_⟩) (by assumption) ?_
          rotate_left 1
          · (intro w0 hS0; (try dsimp only at hS0); go_simp; try with_reducible rfl)
          try simp only [Act.put, List.setIfInBounds_toArray, List.set_cons_zero, List.set_cons_succ]
          refine wt_take (i := 4) (oi := { dst := some 28, op := Op.move (Operand.tmp 1), type := 27, pos := "ref.go:72", after := #[], guard := none }) (v := ?_) [] (by kernel_rfl) rfl (by kernel_rfl) (by kernel_rfl) (by kernel_rfl) rfl (fun _ _ _ h => h) (Or.inl ⟨by rfl, ?_⟩) (by assumption) ?_
          rotate_left 1
          · (intro w0 hS0; (try dsimp only at hS0); go_simp; try with_reducible rfl)
          try simp only [Act.put, List.setIfInBounds_toArray, List.set_cons_zero, List.set_cons_succ]
          refine wt_take (i := 5) (oi := { dst := some 29, op := Op.move (Operand.tmp 6), type := 3, pos := "ref.go:72", after := #[], guard := none }) (v := ?_) [] (by kernel_rfl) rfl (by kernel_rfl) (by kernel_rfl) (by kernel_rfl) rfl (fun _ _ _ h => h) (Or.inl ⟨by rfl, ?_⟩) (by assumption) ?_
          rotate_left 1
          · (intro w0 hS0; (try dsimp only at hS0); go_simp; try with_reducible rfl)
          try simp only [Act.put, List.setIfInBounds_toArray, List.set_cons_zero, List.set_cons_succ]
          refine wt_take (i := 6) (oi := { dst := some 30, op := Op.move (Operand.tmp 8), type := 3, pos := "ref.go:72", after := #[], guard := none }) (v := ?_) [] (by kernel_rfl) rfl (by kernel_rfl) (by kernel_rfl) (by kernel_rfl) rfl (fun _ _ _ h => h) (Or.inl ⟨by rfl, ?_⟩) (by assumption) ?_
          rotate_left 1
          · (intro w0 hS0; (try dsimp only at hS0); go_simp; try with_reducible rfl)
          try simp only [Act.put, List.setIfInBounds_toArray, List.set_cons_zero, List.set_cons_succ]
          refine wt_take (i := 7) (oi := { dst := some 31, op := Op.binOp BinOp.sub 3 (Operand.tmp 29) (Operand.tmp 30) 3, type := 3, pos := "ref.go:72", after := #[{ on := 5, ground := Ground.data }, { on := 6, ground := Ground.data }], guard := none }) (v := ?_) [] (by kernel_rfl) rfl (by kernel_rfl) (by kernel_rfl) (by kernel_rfl) rfl (fun _ _ _ h => h) (Or.inl ⟨by rfl, ?_⟩) (by assumption) ?_
          rotate_left 1
          · (intro w0 hS0; (try dsimp only at hS0); go_simp; try with_reducible rfl)
          try simp only [Act.put, List.setIfInBounds_toArray, List.set_cons_zero, List.set_cons_succ]
          refine wt_next (i := 3) (o := { dst := some 27, op := Op.call { callee := Callee.value (Operand.func 73), args := #[Operand.tmp 25, Operand.tmp 26], argTypes := #[27, 3] }, type := 69, pos := "ref.go:72", after := #[{ on := 1, ground := Ground.data }, { on := 2, ground := Ground.data }], guard := none }) (by kernel_rfl) rfl (fun K hK => ?_)
          go_simp
          (go_at_call 73; (with_reducible refine (rat_any .n A m c L l (j : Int) _ (H.out.bel HS.out.drew.bel)).mono ?_); rw [coI_nat]; rintro e w3 he; obtain ⟨n3, B3, p3, q3, rfl, he1, hb⟩ := he.open_; have HS := Lib.hid (HS.out.drew.next hb); have HE3 := Lib.hid he1; clear f0 f1 f2 f3 he he1; obtain ⟨f0, f1, f2, f3⟩ := HS.out.facts; clear hb)
          refine hK.out _ _ ⟨f0, f1⟩ (fun hHeld => ?_)
          clear hK K
          try simp only [Act.put, List.setIfInBounds_toArray, List.set_cons_zero, List.set_cons_succ]
          refine wt_next (i := 8) (o := { dst := some 32, op := Op.call { callee := Callee.value (Operand.func 73), args := #[Operand.tmp 28, Operand.tmp 31], argTypes := #[27, 3] }, type := 69, pos := "ref.go:72", after := #[{ on := 4, ground := Ground.data }, { on := 7, ground := Ground.data }, { on := 3, ground := Ground.chain }], guard := none }) (by kernel_rfl) rfl (fun K hK => ?_)
          go_simp
          (go_at_call 73; (with_reducible refine (rat_any .n B m2 c2 M k (t : Int) _ (H'.out.bel HS.out.bel)).mono ?_); rw [coI_nat]; rintro e w4 he; obtain ⟨n4, B4, p4, q4, rfl, he1, hb⟩ := he.open_; have HS := Lib.hid (HS.out.next hb); have HE3 := Lib.hid (HE3.out.bel hb); have HE4 := Lib.hid he1; clear f0 f1 f2 f3 he he1; obtain ⟨f0, f1, f2, f3⟩ := HS.out.facts; clear hb)
          refine hK.out _ _ ⟨f0, f1⟩ (fun hHeld => ?_)
          clear hK K
          try simp only [Act.put, List.setIfInBounds_toArray, List.set_cons_zero, List.set_cons_succ]
          refine wt_next (i := 9) (o := { dst := some 33, op := Op.call { callee := Callee.value (Operand.func 70), args := #[Operand.tmp 27, Operand.tmp 32], argTypes := #[69, 69] }, type := 69, pos := "ref.go:72", after := #[{ on := 3, ground := Ground.data }, { on := 8, ground := Ground.data }, { on := 8, ground := Ground.chain }], guard := none }) (by kernel_rfl) rfl (fun K hK => ?_)
          go_simp
          (go_at_call 70; (with_reducible refine (rmul_any (.agg #[.bool n3, .slice B3 p3 q3]) (.agg #[.bool n4, .slice B4 p4 q4]) (co L j) (co M t) l k _ HE3.out.num_ HE4.out.num_ (by omega) (by omega)).mono ?_); rintro e w5 he; obtain ⟨n5, B5, p5, q5, rfl, he1, hb⟩ := he.open1; have HS := Lib.hid (HS.out.next hb); have HE5 := Lib.hid he1; clear f0 f1 f2 f3 he he1; obtain ⟨f0, f1, f2, f3⟩ := HS.out.facts; clear hb)
          refine hK.out _ _ ⟨f0, f1⟩ (fun hHeld => ?_)
          clear hK K
          try simp only [Act.put, List.setIfInBounds_toArray, List.set_cons_zero, List.set_cons_succ]
          refine wt_next (i := 10) (o := { dst := some 34, op := Op.call { callee := Callee.value (Operand.func 79), args := #[Operand.tmp 24, Operand.tmp 33], argTypes := #[69, 69] }, type := 69, pos := "ref.go:72", after := #[{ on := 0, ground := Ground.data }, { on := 9, ground := Ground.data }, { on := 9, ground := Ground.chain }], guard := none }) (by kernel_rfl) rfl (fun K hK => ?_)
          go_simp
          (go_at_call 79; (with_reducible refine (radd_any (.agg #[.bool b, .slice Bv iv jv]) (.agg #[.bool n5, .slice B5 p5 q5]) (conv L M n j) (co L j * co M t) (l + k + 1 + j) (l + k + 1) _ HS.out.es.num_ HE5.out.num_ (by omega) (by omega)).mono ?_); rintro e w6 he; obtain ⟨n6, B6, p6, q6, rfl, he1, hb⟩ := he.open1; have HS := Lib.hid (HS.out.next hb); have HE6 := Lib.hid he1; clear f0 f1 f2 f3 he he1; obtain ⟨f0, f1, f2, f3⟩ := HS.out.facts; clear hb)
          refine hK.out _ _ ⟨f0, f1⟩ (fun hHeld => ?_)
          clear hK K
          try simp only [Act.put, List.setIfInBounds_toArray, List.set_cons_zero, List.set_cons_succ]
          refine wt_last (o := { dst := none, op := Op.store 69 (Operand.tmp 7) (Operand.tmp 34), type := 0, pos := "ref.go:72", after := #[{ on := 10, ground := Ground.data }, { on := 10, ground := Ground.chain }, { on := 0, ground := Ground.phase }, { on := 1, ground := Ground.phase }, { on := 2, ground := Ground.phase }, { on := 3, ground := Ground.phase }, { on := 4, ground := Ground.phase }, { on := 5, ground := Ground.phase }, { on := 6, ground := Ground.phase }, { on := 7, ground := Ground.phase }, { on := 8, ground := Ground.phase }, { on := 9, ground := Ground.phase }, { on := 10, ground := Ground.phase }], guard := none }) (by kernel_rfl) (by kernel_rfl) rfl (fun K hK => ?_)
          go_simp
          refine hK.out _ _ ?_
          clear hK K hHeld
          try simp only [Act.put, List.setIfInBounds_toArray, List.set_cons_zero, List.set_cons_succ]
          have HX := Lib.hid (HS.out.put HE6.out)
          go_wp2_with fail
          exact ⟨⟨j + 1, _, _, by simp, by omega, by rw [HC.out]; exact HX.out.le (by omega)⟩, by simp [intOf]; omega⟩
        · obtain rfl : j = n + 1 := by omega
          have hbs := HS.out.bel.size
          have e9 : ¬ ((n + 1 : Nat) : Int) ≤ (n : Int) := by omega
          go_wp2_with (at_builtin; go_must (refine wpList_push rfl (.tmp 35) (.tmp 37) rfl w.heap.size u5 (gen n f) (l + k + 3000) b Bv iv jv (conv L M n (n + 1)) rfl HS.out.R (HS.out.es.le (by omega)) hbs HL.out rfl ?_); intro v' w' hR' hb')
          all_goals
            exact ⟨⟨n + 1, by simp, by omega, HS.out.bel.trans hb', by rw [HT.out]; exact hR'⟩, by simp [intOf]; omega⟩
    · obtain rfl : n = N := by omega
      have hP := hR.pol
      obtain ⟨A', c', rfl⟩ := hP.slice
      rw [gen_len] at hP ⊢
      have HP := Lib.hid hP
      have HB := Lib.hid hb
      clear hR hP hb
      go_wp2_with (go_at_call 28; (with_reducible refine (rtrim_any A' n c' (gen n f) (l + k + 3000) _ HP.out).mono ?_); rintro e w4 ⟨rfl, hb⟩; have HB := Lib.hid (bel_tr HB.out hb); have HP := Lib.hid (HP.out.bel hb); clear hb)
      go_ret
      exact polE_of HP.out HD.out HB.out
end Go.Proofs.YtpobhegllhhdgaaGreat
