/- Proved here: what the document's At answers and leaves in memory. Condition: a polynomial of at most 1000 numbers of at most 60000 digits, that lies in memory, and a fraction of 64 bits. -/
import Derived.Test.YtpobhegllhhdgaaGreatRd
namespace Go.Proofs.YtpobhegllhhdgaaGreat
open Go.RowKit

/-- A fraction, a value and a power in boxes. -/
structure RaS (w W : World) (n d v s : Int) (l lp gv gp : Nat) (bv : Bool) (vv : Value) (bp : Bool) (vp : Value) : Prop where
  bel : Below w.heap.size w W
  x : Rt W w.heap.size n d
  r : Bx 69 W (w.heap.size + 1) false (.slice none 0 0)
  V : Bx 69 W gv bv vv
  P : Bx 69 W gp bp vp
  ev : El .n W (.agg #[.bool bv, vv]) v l
  ep : El .n W (.agg #[.bool bp, vp]) s lp
  ne : w.heap.size + 1 < gv ∧ w.heap.size + 1 < gp ∧ gv ≠ gp
theorem Rt.two {w : World} {g p : Nat} {n d : Int} (h : Rt w g n d) (hne : g ≠ p) (j1 j2 : Nat) (x y : Value) : Rt ((w.setCell ⟨p, j1, none⟩ x).setCell ⟨p, j2, none⟩ y) g n d :=
  ((Below.heap_setCell _ ⟨p, j2, none⟩ y g hne).trans (Below.heap_setCell w ⟨p, j1, none⟩ x g hne)).trans h
section
variable {w W W' : World} {n d v s : Int} {l lp gv gp : Nat} {bv bp : Bool} {vv vp : Value}
theorem RaS.next (h : RaS w W n d v s l lp gv gp bv vv bp vp) (hb : Below W.heap.size W W') : RaS w W' n d v s l lp gv gp bv vv bp vp :=
  ⟨bel_tr h.bel hb, h.x.below hb h.x.lt, h.r.bel hb, h.V.bel hb, h.P.bel hb, h.ev.bel hb, h.ep.bel hb, h.ne⟩
theorem RaS.drew (h : RaS w W n d v s l lp gv gp bv vv bp vp) : RaS w W.drew n d v s l lp gv gp bv vv bp vp := h.next ((Below.refl _ _).drew)
theorem RaS.le {l' lp' : Nat} (h : RaS w W n d v s l lp gv gp bv vv bp vp) (h1 : l ≤ l') (h2 : lp ≤ lp') : RaS w W n d v s l' lp' gv gp bv vv bp vp :=
  ⟨h.bel, h.x, h.r, h.V, h.P, h.ev.le h1, h.ep.le h2, h.ne⟩
theorem RaS.facts (h : RaS w W n d v s l lp gv gp bv vv bp vp) : W.cell? ⟨w.heap.size, 0, none⟩ = some (.int .i64 n) ∧ W.cell? ⟨w.heap.size, 1, none⟩ = some (.int .i64 d) ∧ W.cell? ⟨gv, 0, none⟩ = some (.bool bv) ∧ W.cell? ⟨gv, 1, none⟩ = some vv ∧
    W.cell? ⟨gp, 0, none⟩ = some (.bool bp) ∧ W.cell? ⟨gp, 1, none⟩ = some vp ∧ W.frozen? ⟨gv, 0, none⟩ = false ∧ W.frozen? ⟨gv, 1, none⟩ = false ∧ W.frozen? ⟨gp, 0, none⟩ = false ∧ W.frozen? ⟨gp, 1, none⟩ = false :=
  ⟨h.x.c0, h.x.c1, h.V.c0, h.V.c1, h.P.c0, h.P.c1, h.V.fr 0, h.V.fr 1, h.P.fr 0, h.P.fr 1⟩
theorem RaS.putv {b : Bool} {B B0 : Option Addr} {i j i0 j0 : Nat} {z : Int} {lz : Nat} (h : RaS w W n d v s l lp gv gp bv (.slice B0 i0 j0) bp vp) (hz : El .n W (.agg #[.bool b, .slice B i j]) z lz) :
    RaS w ((W.setCell ⟨gv, 0, none⟩ (.bool b)).setCell ⟨gv, 1, none⟩ (.slice B i j)) n d z s lz lp gv gp b (.slice B i j) bp vp := by
  obtain ⟨n1, n2, n3⟩ := h.ne
  exact ⟨bel_set (bel_set h.bel (by omega) _ _) (by omega) _ _, h.x.two (by omega) _ _ _ _, h.r.two (by omega) _ _ _ _, h.V.put _ _, h.P.two (Ne.symm n3) _ _ _ _, hz.box h.V _ _ _ _, h.ep.box h.V _ _ _ _, h.ne⟩
theorem RaS.putp {b : Bool} {B B0 : Option Addr} {i j i0 j0 : Nat} {z : Int} {lz : Nat} (h : RaS w W n d v s l lp gv gp bv vv bp (.slice B0 i0 j0)) (hz : El .n W (.agg #[.bool b, .slice B i j]) z lz) :
    RaS w ((W.setCell ⟨gp, 0, none⟩ (.bool b)).setCell ⟨gp, 1, none⟩ (.slice B i j)) n d v z l lz gv gp bv vv b (.slice B i j) := by
  obtain ⟨n1, n2, n3⟩ := h.ne
  exact ⟨bel_set (bel_set h.bel (by omega) _ _) (by omega) _ _, h.x.two (by omega) _ _ _ _, h.r.two (by omega) _ _ _ _, h.V.two n3 _ _ _ _, h.P.put _ _, h.ev.box h.P _ _ _ _, hz.box h.P _ _ _ _, h.ne⟩
end
set_option maxRecDepth 100000 in
set_option maxHeartbeats 2000000 in
theorem rhor_any (A : Option Addr) (m c : Nat) (L : List Int) (l : Nat) (n d : Int) (w : World) (h : Pol .n w (.slice A m c) L l) (hm : m ≤ 1000) (hl : l ≤ 60000) (hn : Fit n) (hd : Fit d) :
    Calls Tryz.prog 44 #[.slice A m c, .agg #[.int .i64 n, .int .i64 d]] w (ElE .n (hor n d L) (l + 10 + 6 * m) w) := by
  have hmL := h.cap.1
  have H := Lib.hid h
  have HM := Lib.hid hmL
  have H1 := Lib.hid (fun W => rof_any 1 W (by omega) (by omega))
  have HN := Lib.hid (fun W => rof_any n W hn.1 hn.2)
  have HD := Lib.hid (fun W => rof_any d W hd.1 hd.2)
  have HB := Lib.hid (show Below w.heap.size w (((w.alloc (.cells #[.int .i64 n, .int .i64 d] 24)).alloc (.cells #[.bool false, .slice none 0 0] 69)).alloc (.cells #[.bool false, .slice none 0 0] 69)) ∧ Rt (((w.alloc (.cells #[.int .i64 n, .int .i64 d] 24)).alloc (.cells #[.bool false, .slice none 0 0] 69)).alloc (.cells #[.bool false, .slice none 0 0] 69)) w.heap.size n d ∧
      Bx 69 (((w.alloc (.cells #[.int .i64 n, .int .i64 d] 24)).alloc (.cells #[.bool false, .slice none 0 0] 69)).alloc (.cells #[.bool false, .slice none 0 0] 69)) (w.heap.size + 1) false (.slice none 0 0) ∧
      Bx 69 (((w.alloc (.cells #[.int .i64 n, .int .i64 d] 24)).alloc (.cells #[.bool false, .slice none 0 0] 69)).alloc (.cells #[.bool false, .slice none 0 0] 69)) (w.heap.size + 1 + 1) false (.slice none 0 0) from
    ⟨bel_tr (bel_tr (bel_a _ _) (bel_a _ _)) (bel_a _ _), ((Rt.new w n d).alloc _).alloc _, (by
      have e := Bx.new 69 (w.alloc (.cells #[.int .i64 n, .int .i64 d] 24)) false (.slice none 0 0)
      rw [size_a1] at e
      exact e.alloc _), by
      have e := Bx.new 69 ((w.alloc (.cells #[.int .i64 n, .int .i64 d] 24)).alloc (.cells #[.bool false, .slice none 0 0] 69)) false (.slice none 0 0)
      rw [size_a1, size_a1] at e
      exact e⟩)
  clear h hmL
  go_enter Tryz.func44, Tryz.ntmps44
  go_upto_region 3 with (go_at_call 71; (with_reducible refine (H1.out _).mono ?_); rintro e w3 he; obtain ⟨n3, B3, p3, q3, rfl, he1, hb⟩ := he.open1; have HB := Lib.hid (And.intro (bel_tr HB.out.1 hb) (And.intro (HB.out.2.1.below hb HB.out.2.1.lt) (And.intro (HB.out.2.2.1.bel hb) (HB.out.2.2.2.bel hb)))); have HE3 := Lib.hid he1; clear he he1 hb)
  have HS := Lib.hid (show RaS w (w3.alloc (.cells #[.bool n3, .slice B3 p3 q3] 69)) n d 0 1 (l + 10) 4 (w.heap.size + 1 + 1) w3.heap.size false (.slice none 0 0) n3 (.slice B3 p3 q3) from
    ⟨bel_tr HB.out.1 (bel_a _ _), HB.out.2.1.alloc _, HB.out.2.2.1.alloc _, HB.out.2.2.2.alloc _, Bx.new 69 w3 _ _, El.zero .n _ _, HE3.out.bel (bel_a _ _), by have := HB.out.2.2.2.lt; omega⟩)
  obtain ⟨gv, hgv⟩ : ∃ gv, gv = w.heap.size + 1 + 1 := ⟨_, rfl⟩
  obtain ⟨gp, hgp⟩ : ∃ gp, gp = w3.heap.size := ⟨_, rfl⟩
  obtain ⟨W4, hW4⟩ : ∃ W4, W4 = w3.alloc (.cells #[.bool n3, .slice B3 p3 q3] 69) := ⟨_, rfl⟩
  rw [← hW4] at HS ⊢
  rw [← hgv, ← hgp] at HS ⊢
  clear hgv hgp hW4 HB HE3 H1
  go_wp2_with fail
  go_loopw [7] (fun i wr => ∃ (k : Nat) (v s : Int) (bv : Bool) (vv : Value) (bp : Bool) (vp : Value), i = .int .i64 ((k : Int) - 1) ∧ k ≤ m ∧ v = hor n d (L.drop k) ∧ s = d ^ (m - k) ∧ RaS w wr n d v s (l + 10 + 6 * (m - k)) (4 + 5 * (m - k)) gv gp bv vv bp vp) (fun i _ => (intOf i + 1).toNat)
  case atStart => exact ⟨m, 0, 1, _, _, _, _, rfl, Nat.le_refl _, by rw [List.drop_eq_nil_of_le (by rw [HM.out]; exact Nat.le_refl _)]; rfl, by rw [Nat.sub_self, Int.pow_zero], HS.out.le (by omega) (by omega)⟩
  case round =>
    obtain ⟨k, v, s, bv, vv, bp, vp, rfl, hk, hv, hs, hS⟩ := hrel
    obtain ⟨Bv, iv, jv, rfl⟩ := hS.ev.ne_int
    obtain ⟨Bp, ip, jp, rfl⟩ := hS.ep.ne_int
    rcases k with _ | k
    · have e0 : ((0 : Nat) : Int) - 1 = -1 := by omega
      rw [e0]
      have HV := Lib.hid (show hor n d L = v by rw [hv, List.drop_zero])
      have HS := Lib.hid (hS.le (show l + 10 + 6 * (m - 0) ≤ l + 10 + 6 * m by omega) (Nat.le_refl _))
      obtain ⟨f0, f1, f2, f3, f4, f5, f6, f7, f8, f9⟩ := HS.out.facts
      have g2 := HS.out.r.fr 0
      have g3 := HS.out.r.fr 1
      have g4 := HS.out.r.c0
      have g5 := HS.out.r.c1
      clear hv hs hS
      go_wp2_with fail
      refine bodyPost_ret (ret_bx28 rfl rfl (HS.out.r.put _ _)) rfl ⟨_, rfl, ?_, bel_set (bel_set HS.out.bel (by omega) _ _) (by omega) _ _⟩
      rw [HV.out]
      exact HS.out.ev.box HS.out.r _ _ _ _
    · have e0 : ((k + 1 : Nat) : Int) - 1 = (k : Int) := by omega
      rw [e0]
      obtain ⟨ad, na, Ba, pa, qa, rfl, had, hga⟩ := H.out.at_ k (by rw [← HM.out]; omega)
      have HG := Lib.hid hga
      obtain ⟨⟨g0, g1⟩, he⟩ := hga _ hS.bel
      have HE := Lib.hid he
      obtain ⟨lk, hlk⟩ : ∃ lk, lk = l + 10 + 6 * (m - (k + 1)) := ⟨_, rfl⟩
      obtain ⟨sk, hsk⟩ : ∃ sk, sk = 4 + 5 * (m - (k + 1)) := ⟨_, rfl⟩
      rw [← hlk, ← hsk] at hS
      have hlk2 : lk ≤ 70000 ∧ sk ≤ 10000 := by omega
      have HLK := Lib.hid (show max (lk + 4 + 1) (l + sk + 1) + 1 ≤ l + 10 + 6 * (m - k) ∧ sk + 4 + 1 ≤ 4 + 5 * (m - k) by omega)
      have HQ := Lib.hid (show hor n d (L.drop k) = v * n + co L k * s ∧ d ^ (m - k) = s * d by
        rw [hor_drop n d (by rw [← HM.out]; omega), hv, hs, HM.out]
        refine ⟨rfl, ?_⟩
        rw [show L.length - k = L.length - (k + 1) + 1 by rw [← HM.out]; omega, Int.pow_succ])
      have HS := Lib.hid hS
      have hki : (k : Int) < (m : Int) := by omega
      have hk0 : (0 : Int) ≤ (k : Int) := by omega
      obtain ⟨f0, f1, f2, f3, f4, f5, f6, f7, f8, f9⟩ := HS.out.facts
      clear hga he hS hv hs hlk hsk
      go_wp2_with fail
      refine wt_start (S := (fun w' => w'.cell? ⟨gv, 0, none⟩ = some (.bool bv) ∧ w'.cell? ⟨gv, 1, none⟩ = some (.slice Bv iv jv) ∧ w'.cell? ⟨w.heap.size, 0, none⟩ = some (.int .i64 n) ∧ w'.cell? (ad.add (k * 2)) = some (.bool na) ∧ w'.cell? { block := (ad.add (k * 2)).block, off := (ad.add (k * 2)).off + 1 } = some (.slice Ba pa qa) ∧ w'.cell? ⟨gp, 0, none⟩ = some (.bool bp) ∧ w'.cell? ⟨gp, 1, none⟩ = some (.slice Bp ip jp))) 12 (by kernel_rfl) ?_ (fun hHeld => ?_)
      · exact ⟨f2, f3, f0, g0, g1, f4, f5⟩
      refine wt_take (i := 0) (oi := { dst := some 17, op := Op.load 69 (Operand.tmp 5), type := 69, pos := "ref.go:93", after := #[], guard := none }) (v := ?_) [] (by kernel_rfl) rfl (by kernel_rfl) (by kernel_rfl) (by kernel_rfl) rfl (fun _ _ _ h => h) (Or.inl ⟨by rfl, ?_⟩) (by assumption) ?_
      rotate_left 1
      · (intro w0 hS0; (try dsimp only at hS0); go_simp; try with_reducible rfl)
      try simp only [Act.put, List.setIfInBounds_toArray, List.set_cons_zero, List.set_cons_succ]
      refine wt_take (i := 1) (oi := { dst := some 18, op := Op.fieldAddr 24 (Operand.tmp 3) 0, type := 0, pos := "ref.go:93", after := #[], guard := none }) (v := ?_) [] (by kernel_rfl) rfl (by kernel_rfl) (by kernel_rfl) (by kernel_rfl) rfl (fun _ _ _ h => h) (Or.inl ⟨by rfl, ?_⟩) (by assumption) ?_
      rotate_left 1
      · (intro w0 hS0; (try dsimp only at hS0); go_simp; try with_reducible rfl)
      try simp only [Act.put, List.setIfInBounds_toArray, List.set_cons_zero, List.set_cons_succ]
      refine wt_take (i := 2) (oi := { dst := some 19, op := Op.load 2 (Operand.tmp 18), type := 2, pos := "ref.go:93", after := #[{ on := 1, ground := Ground.data }], guard := none }) (v := ?_) [] (by kernel_rfl) rfl (by kernel_rfl) (by kernel_rfl) (by kernel_rfl) rfl (fun _ _ _ h => h) (Or.inl ⟨by rfl, ?_⟩) (by assumption) ?_
      rotate_left 1
      · (intro w0 hS0; (try dsimp only at hS0); go_simp; try with_reducible rfl)
      try simp only [Act.put, List.setIfInBounds_toArray, List.set_cons_zero, List.set_cons_succ]
      refine wt_take (i := 5) (oi := { dst := some 22, op := Op.move (Operand.tmp 0), type := 27, pos := "ref.go:93", after := #[], guard := none }) (v := ?_) [] (by kernel_rfl) rfl (by kernel_rfl) (by kernel_rfl) (by kernel_rfl) rfl (fun _ _ _ h => h) (Or.inl ⟨by rfl, ?_⟩) (by assumption) ?_
      rotate_left 1
      · (intro w0 hS0; (try dsimp only at hS0); go_simp; try with_reducible rfl)
      try simp only [Act.put, List.setIfInBounds_toArray, List.set_cons_zero, List.set_cons_succ]
      refine wt_take (i := 6) (oi := { dst := some 23, op := Op.move (Operand.tmp 7), type := 3, pos := "ref.go:93", after := #[], guard := none }) (v := ?_) [] (by kernel_rfl) rfl (by kernel_rfl) (by kernel_rfl) (by kernel_rfl) rfl (fun _ _ _ h => h) (Or.inl ⟨by rfl, ?_⟩) (by assumption) ?_
      rotate_left 1
      · (intro w0 hS0; (try dsimp only at hS0); go_simp; try with_reducible rfl)
      try simp only [Act.put, List.setIfInBounds_toArray, List.set_cons_zero, List.set_cons_succ]
      refine wt_take (i := 7) (oi := { dst := some 24, op := Op.indexAddr 27 (Operand.tmp 22) (Operand.tmp 23), type := 0, pos := "ref.go:93", after := #[{ on := 5, ground := Ground.data }, { on := 6, ground := Ground.data }], guard := none }) (v := ?_) [] (by kernel_rfl) rfl (by kernel_rfl) (by kernel_rfl) (by kernel_rfl) rfl (fun _ _ _ h => h) (Or.inl ⟨by rfl, ?_⟩) (by assumption) ?_
      rotate_left 1
      · (intro w0 hS0; (try dsimp only at hS0); go_simp; try with_reducible rfl)
      try simp only [Act.put, List.setIfInBounds_toArray, List.set_cons_zero, List.set_cons_succ]
      refine wt_take (i := 8) (oi := { dst := some 25, op := Op.load 69 (Operand.tmp 24), type := 69, pos := "ref.go:93", after := #[{ on := 7, ground := Ground.data }], guard := none }) (v := ?_) [] (by kernel_rfl) rfl (by kernel_rfl) (by kernel_rfl) (by kernel_rfl) rfl (fun _ _ _ h => h) (Or.inl ⟨by rfl, ?_⟩) (by assumption) ?_
      rotate_left 1
      · (intro w0 hS0; (try dsimp only at hS0); go_simp; try with_reducible rfl)
      try simp only [Act.put, List.setIfInBounds_toArray, List.set_cons_zero, List.set_cons_succ]
      refine wt_take (i := 9) (oi := { dst := some 26, op := Op.load 69 (Operand.tmp 6), type := 69, pos := "ref.go:93", after := #[], guard := none }) (v := ?_) [] (by kernel_rfl) rfl (by kernel_rfl) (by kernel_rfl) (by kernel_rfl) rfl (fun _ _ _ h => h) (Or.inl ⟨by rfl, ?_⟩) (by assumption) ?_
      rotate_left 1
      · (intro w0 hS0; (try dsimp only at hS0); go_simp; try with_reducible rfl)
      try simp only [Act.put, List.setIfInBounds_toArray, List.set_cons_zero, List.set_cons_succ]
      refine wt_next (i := 3) (o := { dst := some 20, op := Op.call { callee := Callee.value (Operand.func 71), args := #[Operand.tmp 19], argTypes := #[2] }, type := 69, pos := "ref.go:93", after := #[{ on := 2, ground := Ground.data }], guard := none }) (by kernel_rfl) rfl (fun K hK => ?_)
      go_simp
      (go_at_call 71; (with_reducible refine (HN.out _).mono ?_); rintro e w6 he; obtain ⟨n6, B6, p6, q6, rfl, he1, hb⟩ := he.open1; have HS := Lib.hid (HS.out.drew.next hb); have HE := Lib.hid (HE.out.drew.bel hb); have HE6 := Lib.hid he1; clear f0 f1 f2 f3 f4 f5 f6 f7 f8 f9 g0 g1 he he1; obtain ⟨f0, f1, f2, f3, f4, f5, f6, f7, f8, f9⟩ := HS.out.facts; obtain ⟨g0, g1⟩ := (HG.out _ HS.out.bel).1; clear hb)
      refine hK.out _ _ ⟨f2, f3, f0, g0, g1, f4, f5⟩ (fun hHeld => ?_)
      clear hK K
      try simp only [Act.put, List.setIfInBounds_toArray, List.set_cons_zero, List.set_cons_succ]
      refine wt_next (i := 4) (o := { dst := some 21, op := Op.call { callee := Callee.value (Operand.func 70), args := #[Operand.tmp 17, Operand.tmp 20], argTypes := #[69, 69] }, type := 69, pos := "ref.go:93", after := #[{ on := 0, ground := Ground.data }, { on := 3, ground := Ground.data }, { on := 3, ground := Ground.chain }], guard := none }) (by kernel_rfl) rfl (fun K hK => ?_)
      go_simp
      (go_at_call 70; (with_reducible refine (rmul_any (.agg #[.bool bv, .slice Bv iv jv]) (.agg #[.bool n6, .slice B6 p6 q6]) v n lk 4 _ HS.out.ev.num_ HE6.out.num_ (by omega) (by omega)).mono ?_); rintro e w7 he; obtain ⟨n7, B7, p7, q7, rfl, he1, hb⟩ := he.open1; have HS := Lib.hid (HS.out.next hb); have HE := Lib.hid (HE.out.bel hb); have HE7 := Lib.hid he1; clear f0 f1 f2 f3 f4 f5 f6 f7 f8 f9 g0 g1 he he1; obtain ⟨f0, f1, f2, f3, f4, f5, f6, f7, f8, f9⟩ := HS.out.facts; obtain ⟨g0, g1⟩ := (HG.out _ HS.out.bel).1; clear hb)
      refine hK.out _ _ ⟨f2, f3, f0, g0, g1, f4, f5⟩ (fun hHeld => ?_)
      clear hK K
      try simp only [Act.put, List.setIfInBounds_toArray, List.set_cons_zero, List.set_cons_succ]
      refine wt_next (i := 10) (o := { dst := some 27, op := Op.call { callee := Callee.value (Operand.func 70), args := #[Operand.tmp 25, Operand.tmp 26], argTypes := #[69, 69] }, type := 69, pos := "ref.go:93", after := #[{ on := 8, ground := Ground.data }, { on := 9, ground := Ground.data }, { on := 4, ground := Ground.chain }], guard := none }) (by kernel_rfl) rfl (fun K hK => ?_)
      go_simp
      (go_at_call 70; (with_reducible refine (rmul_any (.agg #[.bool na, .slice Ba pa qa]) (.agg #[.bool bp, .slice Bp ip jp]) (co L k) s l sk _ HE.out.num_ HS.out.ep.num_ (by omega) (by omega)).mono ?_); rintro e w8 he; obtain ⟨n8, B8, p8, q8, rfl, he1, hb⟩ := he.open1; have HS := Lib.hid (HS.out.next hb); have HE7 := Lib.hid (HE7.out.bel hb); have HE8 := Lib.hid he1; clear f0 f1 f2 f3 f4 f5 f6 f7 f8 f9 g0 g1 he he1; obtain ⟨f0, f1, f2, f3, f4, f5, f6, f7, f8, f9⟩ := HS.out.facts; obtain ⟨g0, g1⟩ := (HG.out _ HS.out.bel).1; clear hb)
      refine hK.out _ _ ⟨f2, f3, f0, g0, g1, f4, f5⟩ (fun hHeld => ?_)
      clear hK K
      try simp only [Act.put, List.setIfInBounds_toArray, List.set_cons_zero, List.set_cons_succ]
      refine wt_next (i := 11) (o := { dst := some 28, op := Op.call { callee := Callee.value (Operand.func 79), args := #[Operand.tmp 21, Operand.tmp 27], argTypes := #[69, 69] }, type := 69, pos := "ref.go:93", after := #[{ on := 4, ground := Ground.data }, { on := 10, ground := Ground.data }, { on := 10, ground := Ground.chain }], guard := none }) (by kernel_rfl) rfl (fun K hK => ?_)
      go_simp
      (go_at_call 79; (with_reducible refine (radd_any (.agg #[.bool n7, .slice B7 p7 q7]) (.agg #[.bool n8, .slice B8 p8 q8]) (v * n) (co L k * s) (lk + 4 + 1) (l + sk + 1) _ HE7.out.num_ HE8.out.num_ (by omega) (by omega)).mono ?_); rintro e w9 he; obtain ⟨n9, B9, p9, q9, rfl, he1, hb⟩ := he.open1; have HS := Lib.hid (HS.out.next hb); have HE9 := Lib.hid he1; clear f0 f1 f2 f3 f4 f5 f6 f7 f8 f9 g0 g1 he he1; obtain ⟨f0, f1, f2, f3, f4, f5, f6, f7, f8, f9⟩ := HS.out.facts; obtain ⟨g0, g1⟩ := (HG.out _ HS.out.bel).1; clear hb)
      refine hK.out _ _ ⟨f2, f3, f0, g0, g1, f4, f5⟩ (fun hHeld => ?_)
      clear hK K
      try simp only [Act.put, List.setIfInBounds_toArray, List.set_cons_zero, List.set_cons_succ]
      refine wt_last (o := { dst := none, op := Op.store 69 (Operand.tmp 5) (Operand.tmp 28), type := 0, pos := "ref.go:93", after := #[{ on := 11, ground := Ground.data }, { on := 11, ground := Ground.chain }, { on := 0, ground := Ground.phase }, { on := 1, ground := Ground.phase }, { on := 2, ground := Ground.phase }, { on := 3, ground := Ground.phase }, { on := 4, ground := Ground.phase }, { on := 5, ground := Ground.phase }, { on := 6, ground := Ground.phase }, { on := 7, ground := Ground.phase }, { on := 8, ground := Ground.phase }, { on := 9, ground := Ground.phase }, { on := 10, ground := Ground.phase }, { on := 11, ground := Ground.phase }], guard := none }) (by kernel_rfl) (by kernel_rfl) rfl (fun K hK => ?_)
      go_simp
      refine hK.out _ _ ?_
      clear hK K hHeld
      try simp only [Act.put, List.setIfInBounds_toArray, List.set_cons_zero, List.set_cons_succ]
      have HV := Lib.hid (HS.out.putv HE9.out)
      obtain ⟨gq, hgq⟩ : ∃ W, W = (w9.setCell ⟨gv, 0, none⟩ (.bool n9)).setCell ⟨gv, 1, none⟩ (.slice B9 p9 q9) := ⟨_, rfl⟩
      rw [← hgq] at HV ⊢
      clear f0 f1 f2 f3 f4 f5 f6 f7 f8 f9 g0 g1 hgq HS HE6 HE7 HE8 HE9 HE
      obtain ⟨f0, f1, f2, f3, f4, f5, f6, f7, f8, f9⟩ := HV.out.facts
      go_wp2_with fail
      refine wt_start (S := (fun w' => w'.cell? ⟨gp, 0, none⟩ = some (.bool bp) ∧ w'.cell? ⟨gp, 1, none⟩ = some (.slice Bp ip jp) ∧ w'.cell? ⟨w.heap.size, 1, none⟩ = some (.int .i64 d))) 5 (by kernel_rfl) ?_ (fun hHeld => ?_)
      · exact ⟨f4, f5, f1⟩
      refine wt_take (i := 0) (oi := { dst := some 29, op := Op.load 69 (Operand.tmp 6), type := 69, pos := "ref.go:94", after := #[], guard := none }) (v := ?_) [] (by kernel_rfl) rfl (by kernel_rfl) (by kernel_rfl) (by kernel_rfl) rfl (fun _ _ _ h => h) (Or.inl ⟨by rfl, ?_⟩) (by assumption) ?_
      rotate_left 1
      · (intro w0 hS0; (try dsimp only at hS0); go_simp; try with_reducible rfl)
      try simp only [Act.put, List.setIfInBounds_toArray, List.set_cons_zero, List.set_cons_succ]
      refine wt_take (i := 1) (oi := { dst := some 30, op := Op.fieldAddr 24 (Operand.tmp 3) 1, type := 0, pos := "ref.go:94", after := #[], guard := none }) (v := ?_) [] (by kernel_rfl) rfl (by kernel_rfl) (by kernel_rfl) (by kernel_rfl) rfl (fun _ _ _ h => h) (Or.inl ⟨by rfl, ?_⟩) (by assumption) ?_
      rotate_left 1
      · (intro w0 hS0; (try dsimp only at hS0); go_simp; try with_reducible rfl)
      try simp only [Act.put, List.setIfInBounds_toArray, List.set_cons_zero, List.set_cons_succ]
      refine wt_take (i := 2) (oi := { dst := some 31, op := Op.load 2 (Operand.tmp 30), type := 2, pos := "ref.go:94", after := #[{ on := 1, ground := Ground.data }], guard := none }) (v := ?_) [] (by kernel_rfl) rfl (by kernel_rfl) (by kernel_rfl) (by kernel_rfl) rfl (fun _ _ _ h => h) (Or.inl ⟨by rfl, ?_⟩) (by assumption) ?_
      rotate_left 1
      · (intro w0 hS0; (try dsimp only at hS0); go_simp; try with_reducible rfl)
      try simp only [Act.put, List.setIfInBounds_toArray, List.set_cons_zero, List.set_cons_succ]
      refine wt_next (i := 3) (o := { dst := some 32, op := Op.call { callee := Callee.value (Operand.func 71), args := #[Operand.tmp 31], argTypes := #[2] }, type := 69, pos := "ref.go:94", after := #[{ on := 2, ground := Ground.data }], guard := none }) (by kernel_rfl) rfl (fun K hK => ?_)
      go_simp
      (go_at_call 71; (with_reducible refine (HD.out _).mono ?_); rintro e wa he; obtain ⟨nA, BA, pA, qA, rfl, he1, hb⟩ := he.open1; have HV := Lib.hid (HV.out.drew.next hb); have HEA := Lib.hid he1; clear f0 f1 f2 f3 f4 f5 f6 f7 f8 f9 he he1; obtain ⟨f0, f1, f2, f3, f4, f5, f6, f7, f8, f9⟩ := HV.out.facts; clear hb)
      refine hK.out _ _ ⟨f4, f5, f1⟩ (fun hHeld => ?_)
      clear hK K
      try simp only [Act.put, List.setIfInBounds_toArray, List.set_cons_zero, List.set_cons_succ]
      refine wt_next (i := 4) (o := { dst := some 33, op := Op.call { callee := Callee.value (Operand.func 70), args := #[Operand.tmp 29, Operand.tmp 32], argTypes := #[69, 69] }, type := 69, pos := "ref.go:94", after := #[{ on := 0, ground := Ground.data }, { on := 3, ground := Ground.data }, { on := 3, ground := Ground.chain }], guard := none }) (by kernel_rfl) rfl (fun K hK => ?_)
      go_simp
      (go_at_call 70; (with_reducible refine (rmul_any (.agg #[.bool bp, .slice Bp ip jp]) (.agg #[.bool nA, .slice BA pA qA]) s d sk 4 _ HV.out.ep.num_ HEA.out.num_ (by omega) (by omega)).mono ?_); rintro e wb he; obtain ⟨nB, BB, pB, qB, rfl, he1, hb⟩ := he.open1; have HV := Lib.hid (HV.out.next hb); have HEB := Lib.hid he1; clear f0 f1 f2 f3 f4 f5 f6 f7 f8 f9 he he1; obtain ⟨f0, f1, f2, f3, f4, f5, f6, f7, f8, f9⟩ := HV.out.facts; clear hb)
      refine hK.out _ _ ⟨f4, f5, f1⟩ (fun hHeld => ?_)
      clear hK K
      try simp only [Act.put, List.setIfInBounds_toArray, List.set_cons_zero, List.set_cons_succ]
      refine wt_last (o := { dst := none, op := Op.store 69 (Operand.tmp 6) (Operand.tmp 33), type := 0, pos := "ref.go:94", after := #[{ on := 4, ground := Ground.data }, { on := 4, ground := Ground.chain }, { on := 0, ground := Ground.phase }, { on := 1, ground := Ground.phase }, { on := 2, ground := Ground.phase }, { on := 3, ground := Ground.phase }, { on := 4, ground := Ground.phase }], guard := none }) (by kernel_rfl) (by kernel_rfl) rfl (fun K hK => ?_)
      go_simp
      refine hK.out _ _ ?_
      clear hK K hHeld
      try simp only [Act.put, List.setIfInBounds_toArray, List.set_cons_zero, List.set_cons_succ]
      go_wp2_with fail
      go_roundw
      case rel => exact ⟨k, _, _, _, _, _, _, rfl, by omega, HQ.out.1.symm, HQ.out.2.symm, (HV.out.putp HEB.out).le HLK.out.1 HLK.out.2⟩
      case measure => simp [intOf]
end Go.Proofs.YtpobhegllhhdgaaGreat
