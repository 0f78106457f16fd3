/- Proved here: what package poly's lower answers and leaves in memory. Condition: two polynomials of at most 100 numbers of at most 60000 and 40000 digits, the second one not empty and not longer, that lie in memory. -/
import Derived.Test.YtpobhegllhhdgaaGreatQi
namespace Go.Proofs.YtpobhegllhhdgaaGreat
open Go.RowKit

/-- Two numbers in boxes. -/
structure LwB (w W : World) (gs gf : Nat) (s f : Int) (ls lf : Nat) (bs : Bool) (vs : Value) (bf : Bool) (vf : Value) : Prop where
  bel : Below w.heap.size w W
  S : Bx 60 W gs bs vs
  F : Bx 60 W gf bf vf
  es : El .a W (.agg #[.bool bs, vs]) s ls
  ef : El .a W (.agg #[.bool bf, vf]) f lf
  ne : w.heap.size ≤ gs ∧ w.heap.size ≤ gf ∧ gs ≠ gf
section
variable {w W W' : World} {gs gf ls lf : Nat} {s f : Int} {bs bf : Bool} {vs vf : Value}
theorem LwB.next (h : LwB w W gs gf s f ls lf bs vs bf vf) (hb : Below W.heap.size W W') : LwB w W' gs gf s f ls lf bs vs bf vf :=
  ⟨bel_tr h.bel hb, h.S.bel hb, h.F.bel hb, h.es.bel hb, h.ef.bel hb, h.ne⟩
theorem LwB.drew (h : LwB w W gs gf s f ls lf bs vs bf vf) : LwB w W.drew gs gf s f ls lf bs vs bf vf := h.next ((Below.refl _ _).drew)
theorem LwB.facts (h : LwB w W gs gf s f ls lf bs vs bf vf) : W.cell? ⟨gs, 0, none⟩ = some (.bool bs) ∧ W.cell? ⟨gs, 1, none⟩ = some vs ∧ W.cell? ⟨gf, 0, none⟩ = some (.bool bf) ∧ W.cell? ⟨gf, 1, none⟩ = some vf ∧
    W.frozen? ⟨gs, 0, none⟩ = false ∧ W.frozen? ⟨gs, 1, none⟩ = false ∧ W.frozen? ⟨gf, 0, none⟩ = false ∧ W.frozen? ⟨gf, 1, none⟩ = false := ⟨h.S.c0, h.S.c1, h.F.c0, h.F.c1, h.S.fr 0, h.S.fr 1, h.F.fr 0, h.F.fr 1⟩
theorem LwB.puts {b : Bool} {B B0 : Option Addr} {i j i0 j0 : Nat} {z : Int} (h : LwB w W gs gf s f ls lf bs (.slice B0 i0 j0) bf vf) (hz : El .a W (.agg #[.bool b, .slice B i j]) z ls) :
    LwB w ((W.setCell ⟨gs, 0, none⟩ (.bool b)).setCell ⟨gs, 1, none⟩ (.slice B i j)) gs gf z f ls lf b (.slice B i j) bf vf := by
  obtain ⟨n1, n2, n3⟩ := h.ne
  exact ⟨bel_set (bel_set h.bel (by omega) _ _) (by omega) _ _, h.S.put _ _, h.F.two (Ne.symm n3) _ _ _ _, hz.box h.S _ _ _ _, h.ef.box h.S _ _ _ _, h.ne⟩
theorem LwB.putf {b : Bool} {B B0 : Option Addr} {i j i0 j0 : Nat} {z : Int} (h : LwB w W gs gf s f ls lf bs vs bf (.slice B0 i0 j0)) (hz : El .a W (.agg #[.bool b, .slice B i j]) z lf) :
    LwB w ((W.setCell ⟨gf, 0, none⟩ (.bool b)).setCell ⟨gf, 1, none⟩ (.slice B i j)) gs gf s z ls lf bs vs b (.slice B i j) := by
  obtain ⟨n1, n2, n3⟩ := h.ne
  exact ⟨bel_set (bel_set h.bel (by omega) _ _) (by omega) _ _, h.S.two n3 _ _ _ _, h.F.put _ _, h.es.box h.F _ _ _ _, hz.box h.F _ _ _ _, h.ne⟩
theorem LwB.new1 {b1 b2 : Bool} {B1 B2 : Option Addr} {i1 j1 i2 j2 : Nat} (h1 : El .a W (.agg #[.bool b1, .slice B1 i1 j1]) s ls) (h2 : El .a W (.agg #[.bool b2, .slice B2 i2 j2]) f lf) (hb : Below w.heap.size w W) :
    LwB w ((W.alloc (.cells #[.bool b1, .slice B1 i1 j1] 60)).alloc (.cells #[.bool b2, .slice B2 i2 j2] 60)) W.heap.size (W.heap.size + 1) s f ls lf b1 (.slice B1 i1 j1) b2 (.slice B2 i2 j2) := by
  have hb2 := bel_tr (bel_a W (.cells #[.bool b1, .slice B1 i1 j1] 60)) (bel_a _ (.cells #[.bool b2, .slice B2 i2 j2] 60))
  have hn := Bx.new 60 (W.alloc (.cells #[.bool b1, .slice B1 i1 j1] 60)) b2 (.slice B2 i2 j2)
  rw [size_a1] at hn
  have hs := hb.size
  exact ⟨bel_tr hb hb2, (Bx.new 60 W _ _).alloc _, hn, h1.bel hb2, h2.bel hb2, by omega⟩
theorem LwB.new2 {b1 b2 : Bool} {B1 B2 : Option Addr} {i1 j1 i2 j2 : Nat} (h1 : El .a W (.agg #[.bool b1, .slice B1 i1 j1]) s ls) (h2 : El .a W (.agg #[.bool b2, .slice B2 i2 j2]) f lf) (hb : Below w.heap.size w W) :
    LwB w ((W.alloc (.cells #[.bool b2, .slice B2 i2 j2] 60)).alloc (.cells #[.bool b1, .slice B1 i1 j1] 60)) (W.heap.size + 1) W.heap.size s f ls lf b1 (.slice B1 i1 j1) b2 (.slice B2 i2 j2) := by
  have hb2 := bel_tr (bel_a W (.cells #[.bool b2, .slice B2 i2 j2] 60)) (bel_a _ (.cells #[.bool b1, .slice B1 i1 j1] 60))
  have hn := Bx.new 60 (W.alloc (.cells #[.bool b2, .slice B2 i2 j2] 60)) b1 (.slice B1 i1 j1)
  rw [size_a1] at hn
  have hs := hb.size
  exact ⟨bel_tr hb hb2, hn, (Bx.new 60 W _ _).alloc _, h1.bel hb2, h2.bel hb2, by omega⟩
end
/-- The same, and what is made. -/
structure LwO (w W : World) (gs gf go : Nat) (s f : Int) (ls lf : Nat) (bs : Bool) (vs : Value) (bf : Bool) (vf : Value) (cur : List Int) (lo : Nat) : Prop where
  B : LwB w W gs gf s f ls lf bs vs bf vf
  O : Ob .c 60 W go cur lo
  n : w.heap.size ≤ go ∧ gs ≠ go ∧ gf ≠ go
section
variable {w W W' : World} {gs gf go ls lf lo : Nat} {s f : Int} {bs bf : Bool} {vs vf : Value} {cur : List Int}
theorem LwO.next (h : LwO w W gs gf go s f ls lf bs vs bf vf cur lo) (hb : Below W.heap.size W W') : LwO w W' gs gf go s f ls lf bs vs bf vf cur lo := ⟨h.B.next hb, h.O.bel hb, h.n⟩
theorem LwO.drew (h : LwO w W gs gf go s f ls lf bs vs bf vf cur lo) : LwO w W.drew gs gf go s f ls lf bs vs bf vf cur lo := h.next ((Below.refl _ _).drew)
theorem LwO.puto {b : Bool} {B : Option Addr} {i j : Nat} {z : Int} (h : LwO w W gs gf go s f ls lf bs vs bf vf cur lo) (hz : El .c W (.agg #[.bool b, .slice B i j]) z lo) (t : Nat) :
    LwO w ((W.setCell ⟨go, t * 2, none⟩ (.bool b)).setCell ⟨go, t * 2 + 1, none⟩ (.slice B i j)) gs gf go s f ls lf bs vs bf vf (cur.set t z) lo := by
  obtain ⟨n1, n2, n3⟩ := h.n
  exact ⟨⟨bel_set (bel_set h.B.bel n1 _ _) n1 _ _, h.B.S.two n2 _ _ _ _, h.B.F.two n3 _ _ _ _, h.B.es.two h.O _ _ _ _ _ _, h.B.ef.two h.O _ _ _ _ _ _, h.B.ne⟩, h.O.set t hz, h.n⟩
theorem Ob.cells_set {K : Kd} {T : TypeId} {g : Nat} (h : Ob K T W g cur lo) {j : Nat} (hj : j < cur.length) (x y : Value) :
    ((W.setCell ⟨g, j * 2, none⟩ x).setCell ⟨g, j * 2 + 1, none⟩ y).cell? ⟨g, j * 2, none⟩ = some x ∧ ((W.setCell ⟨g, j * 2, none⟩ x).setCell ⟨g, j * 2 + 1, none⟩ y).cell? ⟨g, j * 2 + 1, none⟩ = some y := by
  obtain ⟨cells, h1, h2⟩ := h
  have hl := h2.1
  have h3 := heap_set (j := j * 2 + 1) (heap_set (j := j * 2) h1 x) y
  unfold World.cell?
  rw [h3]
  have e1 : j * 2 < cells.length := by omega
  have e2 : j * 2 + 1 < cells.length := by omega
  constructor
  · simp [e1]
  · simp [e2]
end
theorem El.c_a {w : World} {Z : Value} {z : Int} {l : Nat} (h : El .c w Z z l) : El .a w Z z l := BigC.any h
/-- The cells of a number in a polynomial, in any world behind. -/
theorem Pol.at_ {K : Kd} {w : World} {A : Option Addr} {m c : Nat} {L : List Int} {l : Nat} (h : Pol K w (.slice A m c) L l) (i : Nat) (hi : i < L.length) :
    ∃ ad n B p q, A = some ad ∧ ad.block < w.heap.size ∧ ∀ W, Below w.heap.size w W → (W.cell? (ad.add (i * 2)) = some (.bool n) ∧ W.cell? { block := (ad.add (i * 2)).block, off := (ad.add (i * 2)).off + 1 } = some (.slice B p q)) ∧ El K W (.agg #[.bool n, .slice B p q]) (co L i) l := by
  obtain ⟨ad, n, B, p, q, rfl, had, c0, c1, he⟩ := h.get i hi
  exact ⟨ad, n, B, p, q, rfl, had, fun W hW => ⟨⟨by rw [hW.cell (by rw [block_of_add]; exact had)]; exact c0, by rw [add_next, hW.cell (by rw [block_of_add]; exact had)]; exact c1⟩, he.bel hW⟩⟩
set_option maxRecDepth 100000 in
set_option maxHeartbeats 4000000 in
theorem plow_any (A B : Option Addr) (m c m2 c2 x y sh : Nat) (L M : List Int) (l k : Nat) (w : World) (h : Pol .c w (.slice A m c) L l) (h' : Pol .a w (.slice B m2 c2) M k) (hm : m ≤ 100) (hl : l ≤ 60000) (hk : k ≤ 40000)
    (hx : m = x + 1) (hy : m2 = y + 1) (hsh : m = m2 + sh) :
    Calls Tryz.prog 68 #[.slice A m c, .slice B m2 c2] w (PolE .c (stepR L M) (l + k + 1) w) := by
  have hmL := h.cap.1
  have hmM := h'.cap.1
  have HL := Lib.hid (And.intro hmL hmM)
  have HX := Lib.hid (And.intro hx (And.intro hy hsh))
  have e1 : (m : Int) - 1 = (x : Int) := by omega
  have e2 : (m : Int) - (m2 : Int) = (sh : Int) := by omega
  have e3 : (m2 : Int) - 1 = (y : Int) := by omega
  have hw3 : IntKind.i64.wrap (y : Int) = (y : Int) := IntWalk.i64_in _ (by omega)
  have hx0 : (0 : Int) ≤ (x : Int) := by omega
  have hy0 : (0 : Int) ≤ (y : Int) := by omega
  have hxi : (x : Int) < (m : Int) := by omega
  have hyi : (y : Int) < (m2 : Int) := by omega
  have hxm : x < m := by omega
  have hym : y < m2 := by omega
  have hmk := fun W => mkBig x (by omega) W (x : Int) rfl
  have H := Lib.hid h
  have H' := Lib.hid h'
  obtain ⟨ad, na, Ba, pa, qa, rfl, had, hga⟩ := h.at_ x (by omega)
  obtain ⟨bd, nb, Bb, pb, qb, rfl, hbd, hgb⟩ := h'.at_ y (by omega)
  have HGA := Lib.hid hga
  have HGB := Lib.hid hgb
  obtain ⟨⟨a0, a1⟩, _⟩ := hga w (Below.refl _ _)
  obtain ⟨⟨b0, b1⟩, _⟩ := hgb w (Below.refl _ _)
  obtain ⟨s, hs⟩ : ∃ s, s = co M y := ⟨_, rfl⟩
  obtain ⟨f, hf⟩ : ∃ f, f = co L x := ⟨_, rfl⟩
  have HSF := Lib.hid (And.intro hs hf)
  have HES := Lib.hid (show El .a w (.agg #[.bool nb, .slice Bb pb qb]) s k ∧ El .a w (.agg #[.bool na, .slice Ba pa qa]) f l by
    rw [hs, hf]
    exact ⟨(hgb w (Below.refl _ _)).2, El.c_a (hga w (Below.refl _ _)).2⟩)
  clear h h' hmL hmM hga hgb hx hy hsh hs hf
  go_enter Tryz.func68, Tryz.ntmps68
  go_upto_region 2 with fail
  go_cut [7, 8] from 19 to 28 (fun p q wx => ∃ gs gf bs Bs is js bf Bf i2 j2, p = .pointer (some ⟨gs, 0, none⟩) ∧ q = .pointer (some ⟨gf, 0, none⟩) ∧ LwB w wx gs gf s f k l bs (.slice Bs is js) bf (.slice Bf i2 j2))
  case first =>
    go_region_held3 (fun w' => w'.cell? (ad.add (x * 2)) = some (.bool na) ∧ w'.cell? { block := (ad.add (x * 2)).block, off := (ad.add (x * 2)).off + 1 } = some (.slice Ba pa qa) ∧ w'.cell? (bd.add (y * 2)) = some (.bool nb) ∧ w'.cell? { block := (bd.add (y * 2)).block, off := (bd.add (y * 2)).off + 1 } = some (.slice Bb pb qb))
      (first
        | exact ⟨a0, a1, b0, b1⟩
        | go_keep)
      (fail)
    all_goals go_wp2_with fail
    all_goals go_meet
    all_goals first
      | exact ⟨_, _, _, _, _, _, _, _, _, _, rfl, rfl, (LwB.new1 HES.out.1 HES.out.2 (Below.refl _ _)).drew⟩
      | exact ⟨_, _, _, _, _, _, _, _, _, _, rfl, rfl, (LwB.new2 HES.out.1 HES.out.2 (Below.refl _ _)).drew⟩
  case rest =>
    obtain ⟨gs, gf, bs, Bs, is, js, bf, Bf, i2, j2, rfl, rfl, hB⟩ := hcut
    have HB := Lib.hid hB
    clear hB a0 a1 b0 b1 HGA HGB
    obtain ⟨f0, f1, f2, f3, f4, f5, f6, f7⟩ := HB.out.facts
    go_upto_if 31 with (go_at_call 78; (with_reducible refine (sign_any (.agg #[.bool bs, .slice Bs is js]) s k _ HB.out.es.big_).mono ?_); rintro e w3 ⟨rfl, hb⟩; have HB := Lib.hid (HB.out.next hb); clear hb f0 f1 f2 f3 f4 f5 f6 f7; obtain ⟨f0, f1, f2, f3, f4, f5, f6, f7⟩ := HB.out.facts)
    go_cut [7] from 29 to 35 (fun p wx => p = .pointer (some ⟨gs, 0, none⟩) ∧ ∃ bs Bs is js bf Bf i2 j2, LwB w wx gs gf (absI s) (sgI s f) k l bs (.slice Bs is js) bf (.slice Bf i2 j2))
    case first =>
      by_cases hs : s < 0
      · have hd : sgn s < 0 := by unfold sgn cmpI; rw [if_pos hs]; decide
        have HA := Lib.hid (show absI s = -s ∧ sgI s f = -f by unfold absI sgI; rw [if_pos hs, if_pos hs]; exact ⟨rfl, rfl⟩)
        clear hs
        go_wp2_with fail
        refine wt_start (S := (fun w' => w'.cell? ⟨gf, 0, none⟩ = some (.bool bf) ∧ w'.cell? ⟨gf, 1, none⟩ = some (.slice Bf i2 j2))) 5 (by kernel_rfl) ?_ (fun hHeld => ?_)
        · exact ⟨f2, f3⟩
        refine wt_take (i := 2) (oi := { dst := some 34, op := Op.load 60 (Operand.tmp 8), type := 60, pos := "poly.go:138", after := #[], guard := none }) (v := ?_) [] (by kernel_rfl) rfl (by kernel_rfl) (by kernel_rfl) (by kernel_rfl) rfl (fun _ _ _ h => h) (Or.inl ⟨by rfl, ?_⟩) (by assumption) ?_
        rotate_left 1
        · (intro w0 hS0; (try dsimp only at hS0); go_simp; try with_reducible rfl)
        try simp only [Act.put, List.setIfInBounds_toArray, List.set_cons_zero, List.set_cons_succ]
        refine wt_next (i := 0) (o := { dst := some 32, op := Op.load 60 (Operand.tmp 7), type := 60, pos := "poly.go:138", after := #[], guard := none }) (by kernel_rfl) rfl (fun K hK => ?_)
        go_simp
        skip
        refine hK.out _ _ (by exact ⟨f2, f3⟩) (fun hHeld => ?_)
        clear hK K
        try simp only [Act.put, List.setIfInBounds_toArray, List.set_cons_zero, List.set_cons_succ]
        refine wt_next (i := 1) (o := { dst := some 33, op := Op.call { callee := Callee.value (Operand.func 100), args := #[Operand.tmp 32], argTypes := #[60] }, type := 60, pos := "poly.go:138", after := #[{ on := 0, ground := Ground.data }], guard := none }) (by kernel_rfl) rfl (fun K hK => ?_)
        go_simp
        (go_at_call 100; (with_reducible refine (neg_any (.agg #[.bool bs, .slice Bs is js]) s k _ HB.out.drew.es.big_ (by omega)).mono ?_); rintro e w6 he; obtain ⟨n6, B6, p6, q6, rfl, he1, hb⟩ := he.open1; have HB := Lib.hid (HB.out.drew.next hb); have HE6 := Lib.hid he1; clear f0 f1 f2 f3 f4 f5 f6 f7 he he1 hb; obtain ⟨f0, f1, f2, f3, f4, f5, f6, f7⟩ := HB.out.facts)
        refine hK.out _ _ ⟨f2, f3⟩ (fun hHeld => ?_)
        clear hK K
        try simp only [Act.put, List.setIfInBounds_toArray, List.set_cons_zero, List.set_cons_succ]
        refine wt_next (i := 3) (o := { dst := some 35, op := Op.call { callee := Callee.value (Operand.func 100), args := #[Operand.tmp 34], argTypes := #[60] }, type := 60, pos := "poly.go:138", after := #[{ on := 2, ground := Ground.data }, { on := 1, ground := Ground.chain }], guard := none }) (by kernel_rfl) rfl (fun K hK => ?_)
        go_simp
        (go_at_call 100; (with_reducible refine (neg_any (.agg #[.bool bf, .slice Bf i2 j2]) f l _ HB.out.ef.big_ (by omega)).mono ?_); rintro e w7 he; obtain ⟨n7, B7, p7, q7, rfl, he1, hb⟩ := he.open1; have HB := Lib.hid (HB.out.next hb); have HE6 := Lib.hid (HE6.out.bel hb); have HE7 := Lib.hid he1; clear f0 f1 f2 f3 f4 f5 f6 f7 he he1 hb; obtain ⟨f0, f1, f2, f3, f4, f5, f6, f7⟩ := HB.out.facts)
        refine hK.out _ _ ⟨f2, f3⟩ (fun hHeld => ?_)
        clear hK K
        try simp only [Act.put, List.setIfInBounds_toArray, List.set_cons_zero, List.set_cons_succ]
        refine wt_next (i := 4) (o := { dst := none, op := Op.store 60 (Operand.tmp 7) (Operand.tmp 33), type := 0, pos := "poly.go:138", after := #[{ on := 1, ground := Ground.data }, { on := 3, ground := Ground.chain }, { on := 0, ground := Ground.phase }, { on := 1, ground := Ground.phase }, { on := 2, ground := Ground.textOnly Departure.lateStores }, { on := 3, ground := Ground.textOnly Departure.lateStoresUnsure }], guard := none }) (by kernel_rfl) rfl (fun K hK => ?_)
        go_simp
        skip
        refine hK.out _ _ (by exact ⟨cell_two f2 (Ne.symm HB.out.ne.2.2) _ _ _ _, cell_two f3 (Ne.symm HB.out.ne.2.2) _ _ _ _⟩) (fun hHeld => ?_)
        clear hK K
        try simp only [Act.put, List.setIfInBounds_toArray, List.set_cons_zero, List.set_cons_succ]
        refine wt_last (o := { dst := none, op := Op.store 60 (Operand.tmp 8) (Operand.tmp 35), type := 0, pos := "poly.go:138", after := #[{ on := 3, ground := Ground.data }, { on := 4, ground := Ground.chain }, { on := 0, ground := Ground.phase }, { on := 1, ground := Ground.phase }, { on := 2, ground := Ground.phase }, { on := 3, ground := Ground.phase }, { on := 4, ground := Ground.phase }], guard := none }) (by kernel_rfl) (by kernel_rfl) rfl (fun K hK => ?_)
        go_simp
        refine hK.out _ _ ?_
        clear hK K hHeld
        try simp only [Act.put, List.setIfInBounds_toArray, List.set_cons_zero, List.set_cons_succ]
        go_wp2_with fail
        go_meet
        refine ⟨rfl, n6, B6, p6, q6, n7, B7, p7, q7, ?_⟩
        rw [HA.out.1, HA.out.2]
        have h1 := HB.out.puts (El.c_a HE6.out)
        have h2 := (El.c_a HE7.out).box HB.out.S n6 B6 p6 q6
        exact h1.putf h2
      · have hd : ¬ sgn s < 0 := by unfold sgn cmpI; rw [if_neg hs]; split <;> decide
        have HA := Lib.hid (show absI s = s ∧ sgI s f = f by unfold absI sgI; rw [if_neg hs, if_neg hs]; exact ⟨rfl, rfl⟩)
        clear hs
        go_wp2_with fail
        go_meet
        refine ⟨rfl, bs, Bs, is, js, bf, Bf, i2, j2, ?_⟩
        rw [HA.out.1, HA.out.2]
        exact HB.out
    case rest =>
      obtain ⟨rfl, bs, Bs, is, js, bf, Bf, i2, j2, hB⟩ := hcut
      have HB := Lib.hid hB
      clear hB f0 f1 f2 f3 f4 f5 f6 f7
      obtain ⟨S, hS⟩ : ∃ S, S = absI s := ⟨_, rfl⟩
      obtain ⟨F, hF⟩ : ∃ F, F = sgI s f := ⟨_, rfl⟩
      rw [← hS, ← hF] at HB
      obtain ⟨g, hg⟩ : ∃ g : Nat → Int, g = fun i => co L i * S - (if sh ≤ i then co M (i - sh) * F else 0) := ⟨_, rfl⟩
      have HR := Lib.hid (show stepR L M = trz (gen x g) by
        have e4 : M.length - 1 = y := by rw [← HL.out.2]; omega
        have e5 : L.length - 1 = x := by rw [← HL.out.1]; omega
        have e6 : L.length - M.length = sh := by rw [← HL.out.1, ← HL.out.2]; omega
        unfold stepR
        rw [e4, e5, e6, ← HSF.out.1, ← HSF.out.2, ← hS, ← hF, hg])
      have HG := Lib.hid (fun i => congrFun hg i)
      have HMX := Lib.hid (And.intro (show x < L.length by rw [← HL.out.1]; exact hxm) (show ∀ r, sh + r < x → r < M.length by intro r hr; rw [← HL.out.2]; omega))
      have hshx : sh ≤ m := by omega
      clear hS hF hg HSF HES
      go_wp2_with fail
      have hO0 := Ob.new (K := .c) 60 wc x (l + k + 1)
      rw [← fill_start x g] at hO0
      have HO := Lib.hid (show LwO w (wc.alloc (.cells (List.flatten (List.replicate x [.bool false, .slice none 0 0])).toArray 60)) gs gf wc.heap.size S F k l bs (.slice Bs is js) bf (.slice Bf i2 j2) (fillN x g 0) (l + k + 1) from
        ⟨HB.out.next (bel_a _ _), hO0, HB.out.bel.size, Nat.ne_of_lt HB.out.S.lt, Nat.ne_of_lt HB.out.F.lt⟩)
      obtain ⟨go, hgo⟩ : ∃ go, go = wc.heap.size := ⟨_, rfl⟩
      rw [← hgo] at HO ⊢
      clear hO0 hgo HB
      go_loopw [40] (fun i wr => ∃ j : Nat, i = .int .i64 (j : Int) ∧ j ≤ x ∧ LwO w wr gs gf go S F k l bs (.slice Bs is js) bf (.slice Bf i2 j2) (fillN x g j) (l + k + 1)) (fun i _ => x - (intOf i).toNat)
      case atStart => exact ⟨0, rfl, Nat.zero_le _, HO.out⟩
      case round =>
        obtain ⟨j, rfl, hj, hO⟩ := hrel
        have HO := Lib.hid hO
        clear hO
        by_cases hgo : j < x
        · obtain ⟨ad2, n1, B1, p1, q1, hA1, had2, hg1⟩ := H.out.at_ j (by have := HMX.out.1; omega)
          injection hA1 with hA1
          subst hA1
          have HG1 := Lib.hid hg1
          obtain ⟨⟨g0, g1⟩, he1⟩ := hg1 _ HO.out.B.bel
          have HE1 := Lib.hid he1
          have hne := HO.out.n
          have hadg : (ad.add (j * 2)).block ≠ go := by rw [block_of_add]; omega
          obtain ⟨f0, f1, f2, f3, f4, f5, f6, f7⟩ := HO.out.B.facts
          have hji : (j : Int) < (x : Int) := by omega
          have hjm : (j : Int) < (m : Int) := by omega
          have hj0 : (0 : Int) ≤ (j : Int) := by omega
          clear hg1 he1
          go_wp2_with fail
          go_region_held3 (fun w' => w'.cell? (ad.add (j * 2)) = some (.bool n1) ∧ w'.cell? { block := (ad.add (j * 2)).block, off := (ad.add (j * 2)).off + 1 } = some (.slice B1 p1 q1) ∧ w'.cell? ⟨gs, 0, none⟩ = some (.bool bs) ∧ w'.cell? ⟨gs, 1, none⟩ = some (.slice Bs is js))
            (first | exact ⟨g0, g1, f0, f1⟩ | exact ⟨cell_two g0 hadg _ _ _ _, cell_two g1 hadg _ _ _ _, cell_two f0 hne.2.1 _ _ _ _, cell_two f1 hne.2.1 _ _ _ _⟩)
            (first
            | (go_at_call 59; (with_reducible refine (mul_any (.agg #[.bool n1, .slice B1 p1 q1]) (.agg #[.bool bs, .slice Bs is js]) (co L j) S l k _ HE1.out.drew.one_ HO.out.drew.B.es.big_ (by omega) (by omega)).mono ?_); rintro e w4 he; obtain ⟨n4, B4, p4, q4, rfl, he1, hb⟩ := he.open1; have HO := Lib.hid (HO.out.drew.next hb); have HE4 := Lib.hid he1; have fr := HO.out.O.fr; obtain ⟨_, _, _, _, k0, k1, _⟩ := HO.out.O.get j (by rw [fill_len _ hj]; exact hgo); clear f0 f1 f2 f3 f4 f5 f6 f7 g0 g1 he he1 hb; obtain ⟨f0, f1, f2, f3, f4, f5, f6, f7⟩ := HO.out.B.facts; obtain ⟨⟨g0, g1⟩, _⟩ := HG1.out _ HO.out.B.bel))
          obtain ⟨W9, hW9⟩ : ∃ W9, W9 = (w4.setCell ⟨go, j * 2, none⟩ (.bool n4)).setCell ⟨go, j * 2 + 1, none⟩ (.slice B4 p4 q4) := ⟨_, rfl⟩
          have HV := Lib.hid (HO.out.puto (HE4.out.le (show l + k ≤ l + k + 1 by omega)) j)
          have HC := Lib.hid (HO.out.O.cells_set (j := j) (by rw [fill_len _ hj]; exact hgo) (.bool n4) (.slice B4 p4 q4))
          have HE4 := Lib.hid (HE4.out.two HO.out.O (j * 2) (j * 2 + 1) n4 B4 p4 q4)
          rw [← hW9] at HV HC HE4 ⊢
          clear hW9 k0 k1 fr HO f0 f1 f2 f3 f4 f5 f6 f7 g0 g1 HE1 HG1 hadg
          by_cases hsj : sh ≤ j
          · obtain ⟨r, hr⟩ : ∃ r, r = j - sh := ⟨_, rfl⟩
            have hrM : r < M.length := HMX.out.2 r (by omega)
            have HT := Lib.hid (show g j = co L j * S - co M r * F by rw [HG.out j, if_pos hsj, hr])
            obtain ⟨bd2, n2, B2, p2, q2, hA2, had2, hg2⟩ := H'.out.at_ r hrM
            injection hA2 with hA2
            subst hA2
            have HG2 := Lib.hid hg2
            obtain ⟨⟨g0, g1⟩, he2⟩ := hg2 _ HV.out.B.bel
            have HE2 := Lib.hid he2
            obtain ⟨k0, k1⟩ := HC.out
            obtain ⟨f0, f1, f2, f3, f4, f5, f6, f7⟩ := HV.out.B.facts
            have hwr : (j : Int) - (sh : Int) = (r : Int) := by omega
            have hwr2 : IntKind.i64.wrap (r : Int) = (r : Int) := IntWalk.i64_in _ (by omega)
            have hr0 : (0 : Int) ≤ (r : Int) := by omega
            have hrm : (r : Int) < (m2 : Int) := by have := HL.out.2; omega
            clear hg2 he2 hr hrM
            go_wp2_with fail
            refine wt_start (S := (fun w' => w'.cell? ⟨go, j * 2, none⟩ = some (.bool n4) ∧ w'.cell? ⟨go, j * 2 + 1, none⟩ = some (.slice B4 p4 q4) ∧ w'.cell? (bd.add (r * 2)) = some (.bool n2) ∧ w'.cell? { block := (bd.add (r * 2)).block, off := (bd.add (r * 2)).off + 1 } = some (.slice B2 p2 q2) ∧ w'.cell? ⟨gf, 0, none⟩ = some (.bool bf) ∧ w'.cell? ⟨gf, 1, none⟩ = some (.slice Bf i2 j2))) 16 (by kernel_rfl) ?_ (fun hHeld => ?_)
            · exact ⟨k0, k1, g0, g1, f2, f3⟩
            refine wt_take (i := 0) (oi := { dst := some 55, op := Op.move (Operand.tmp 9), type := 22, pos := "poly.go:145", after := #[], guard := none }) (v := ?_) [] (by kernel_rfl) rfl (by kernel_rfl) (by kernel_rfl) (by kernel_rfl) rfl (fun _ _ _ h => h) (Or.inl ⟨by rfl, ?_⟩) (by assumption) ?_
            rotate_left 1
            · (intro w0 hS0; (try dsimp only at hS0); go_simp; try with_reducible rfl)
            try simp only [Act.put, List.setIfInBounds_toArray, List.set_cons_zero, List.set_cons_succ]
            refine wt_take (i := 1) (oi := { dst := some 56, op := Op.move (Operand.tmp 10), type := 3, pos := "poly.go:145", after := #[], guard := none }) (v := ?_) [] (by kernel_rfl) rfl (by kernel_rfl) (by kernel_rfl) (by kernel_rfl) rfl (fun _ _ _ h => h) (Or.inl ⟨by rfl, ?_⟩) (by assumption) ?_
            rotate_left 1
            · (intro w0 hS0; (try dsimp only at hS0); go_simp; try with_reducible rfl)
            try simp only [Act.put, List.setIfInBounds_toArray, List.set_cons_zero, List.set_cons_succ]
            refine wt_take (i := 2) (oi := { dst := some 57, op := Op.move (Operand.tmp 9), type := 22, pos := "poly.go:145", after := #[], guard := none }) (v := ?_) [] (by kernel_rfl) rfl (by kernel_rfl) (by kernel_rfl) (by kernel_rfl) rfl (fun _ _ _ h => h) (Or.inl ⟨by rfl, ?_⟩) (by assumption) ?_
            rotate_left 1
            · (intro w0 hS0; (try dsimp only at hS0); go_simp; try with_reducible rfl)
            try simp only [Act.put, List.setIfInBounds_toArray, List.set_cons_zero, List.set_cons_succ]
            refine wt_take (i := 3) (oi := { dst := some 58, op := Op.move (Operand.tmp 10), type := 3, pos := "poly.go:145", after := #[], guard := none }) (v := ?_) [] (by kernel_rfl) rfl (by kernel_rfl) (by kernel_rfl) (by kernel_rfl) rfl (fun _ _ _ h => h) (Or.inl ⟨by rfl, ?_⟩) (by assumption) ?_
            rotate_left 1
            · (intro w0 hS0; (try dsimp only at hS0); go_simp; try with_reducible rfl)
            try simp only [Act.put, List.setIfInBounds_toArray, List.set_cons_zero, List.set_cons_succ]
            refine wt_take (i := 4) (oi := { dst := some 59, op := Op.indexAddr 22 (Operand.tmp 57) (Operand.tmp 58), type := 0, pos := "poly.go:145", after := #[{ on := 2, ground := Ground.data }, { on := 3, ground := Ground.data }], guard := none }) (v := ?_) [] (by kernel_rfl) rfl (by kernel_rfl) (by kernel_rfl) (by kernel_rfl) rfl (fun _ _ _ h => h) (Or.inl ⟨by rfl, ?_⟩) (by assumption) ?_
            rotate_left 1
            · (intro w0 hS0; (try dsimp only at hS0); go_simp; try with_reducible rfl)
            try simp only [Act.put, List.setIfInBounds_toArray, List.set_cons_zero, List.set_cons_succ]
            refine wt_take (i := 5) (oi := { dst := some 60, op := Op.load 60 (Operand.tmp 59), type := 60, pos := "poly.go:145", after := #[{ on := 4, ground := Ground.data }], guard := none }) (v := ?_) [] (by kernel_rfl) rfl (by kernel_rfl) (by kernel_rfl) (by kernel_rfl) rfl (fun _ _ _ h => h) (Or.inl ⟨by rfl, ?_⟩) (by assumption) ?_
            rotate_left 1
            · (intro w0 hS0; (try dsimp only at hS0); go_simp; try with_reducible rfl)
            try simp only [Act.put, List.setIfInBounds_toArray, List.set_cons_zero, List.set_cons_succ]
            refine wt_take (i := 6) (oi := { dst := some 61, op := Op.move (Operand.tmp 1), type := 22, pos := "poly.go:145", after := #[], guard := none }) (v := ?_) [] (by kernel_rfl) rfl (by kernel_rfl) (by kernel_rfl) (by kernel_rfl) rfl (fun _ _ _ h => h) (Or.inl ⟨by rfl, ?_⟩) (by assumption) ?_
            rotate_left 1
            · (intro w0 hS0; (try dsimp only at hS0); go_simp; try with_reducible rfl)
            try simp only [Act.put, List.setIfInBounds_toArray, List.set_cons_zero, List.set_cons_succ]
            refine wt_take (i := 7) (oi := { dst := some 62, op := Op.move (Operand.tmp 10), type := 3, pos := "poly.go:145", after := #[], guard := none }) (v := ?_) [] (by kernel_rfl) rfl (by kernel_rfl) (by kernel_rfl) (by kernel_rfl) rfl (fun _ _ _ h => h) (Or.inl ⟨by rfl, ?_⟩) (by assumption) ?_
            rotate_left 1
            · (intro w0 hS0; (try dsimp only at hS0); go_simp; try with_reducible rfl)
            try simp only [Act.put, List.setIfInBounds_toArray, List.set_cons_zero, List.set_cons_succ]
            refine wt_take (i := 8) (oi := { dst := some 63, op := Op.move (Operand.tmp 6), type := 3, pos := "poly.go:145", after := #[], guard := none }) (v := ?_) [] (by kernel_rfl) rfl (by kernel_rfl) (by kernel_rfl) (by kernel_rfl) rfl (fun _ _ _ h => h) (Or.inl ⟨by rfl, ?_⟩) (by assumption) ?_
            rotate_left 1
            · (intro w0 hS0; (try dsimp only at hS0); go_simp; try with_reducible rfl)
            try simp only [Act.put, List.setIfInBounds_toArray, List.set_cons_zero, List.set_cons_succ]
            refine wt_take (i := 9) (oi := { dst := some 64, op := Op.binOp BinOp.sub 3 (Operand.tmp 62) (Operand.tmp 63) 3, type := 3, pos := "poly.go:145", after := #[{ on := 7, ground := Ground.data }, { on := 8, ground := Ground.data }], guard := none }) (v := ?_) [] (by kernel_rfl) rfl (by kernel_rfl) (by kernel_rfl) (by kernel_rfl) rfl (fun _ _ _ h => h) (Or.inl ⟨by rfl, ?_⟩) (by assumption) ?_
            rotate_left 1
            · (intro w0 hS0; (try dsimp only at hS0); go_simp; try with_reducible rfl)
            try simp only [Act.put, List.setIfInBounds_toArray, List.set_cons_zero, List.set_cons_succ]
            refine wt_take (i := 10) (oi := { dst := some 65, op := Op.indexAddr 22 (Operand.tmp 61) (Operand.tmp 64), type := 0, pos := "poly.go:145", after := #[{ on := 6, ground := Ground.data }, { on := 9, ground := Ground.data }], guard := none }) (v := ?_) [] (by kernel_rfl) rfl (by kernel_rfl) (by kernel_rfl) (by kernel_rfl) rfl (fun _ _ _ h => h) (Or.inl ⟨by rfl, ?_⟩) (by assumption) ?_
            rotate_left 1
            · (intro w0 hS0; (try dsimp only at hS0); go_simp; try with_reducible rfl)
            try simp only [Act.put, List.setIfInBounds_toArray, List.set_cons_zero, List.set_cons_succ]
            refine wt_take (i := 11) (oi := { dst := some 66, op := Op.load 60 (Operand.tmp 65), type := 60, pos := "poly.go:145", after := #[{ on := 10, ground := Ground.data }], guard := none }) (v := ?_) [] (by kernel_rfl) rfl (by kernel_rfl) (by kernel_rfl) (by kernel_rfl) rfl (fun _ _ _ h => h) (Or.inl ⟨by rfl, ?_⟩) (by assumption) ?_
            rotate_left 1
            · (intro w0 hS0; (try dsimp only at hS0); go_simp; try with_reducible rfl)
            try simp only [Act.put, List.setIfInBounds_toArray, List.set_cons_zero, List.set_cons_succ]
            refine wt_take (i := 12) (oi := { dst := some 67, op := Op.load 60 (Operand.tmp 8), type := 60, pos := "poly.go:145", after := #[], guard := none }) (v := ?_) [] (by kernel_rfl) rfl (by kernel_rfl) (by kernel_rfl) (by kernel_rfl) rfl (fun _ _ _ h => h) (Or.inl ⟨by rfl, ?_⟩) (by assumption) ?_
            rotate_left 1
            · (intro w0 hS0; (try dsimp only at hS0); go_simp; try with_reducible rfl)
            try simp only [Act.put, List.setIfInBounds_toArray, List.set_cons_zero, List.set_cons_succ]
            refine wt_next (i := 13) (o := { dst := some 68, op := Op.call { callee := Callee.value (Operand.func 59), args := #[Operand.tmp 66, Operand.tmp 67], argTypes := #[60, 60] }, type := 60, pos := "poly.go:145", after := #[{ on := 11, ground := Ground.data }, { on := 12, ground := Ground.data }], guard := none }) (by kernel_rfl) rfl (fun K hK => ?_)
            go_simp
            (go_at_call 59; (with_reducible refine (mul_any (.agg #[.bool n2, .slice B2 p2 q2]) (.agg #[.bool bf, .slice Bf i2 j2]) (co M r) F k l _ HE2.out.drew.big_ HV.out.drew.B.ef.big_ (by omega) (by omega)).mono ?_); rintro e w6 he; obtain ⟨n6, B6, p6, q6, rfl, he1, hb⟩ := he.open1; have HC := Lib.hid (show w6.cell? ⟨go, j * 2, none⟩ = some (.bool n4) ∧ w6.cell? ⟨go, j * 2 + 1, none⟩ = some (.slice B4 p4 q4) from ⟨(hb.cell (show (⟨go, j * 2, none⟩ : Addr).block < W9.drew.heap.size from HV.out.O.lt)).trans HC.out.1, (hb.cell (show (⟨go, j * 2 + 1, none⟩ : Addr).block < W9.drew.heap.size from HV.out.O.lt)).trans HC.out.2⟩); have HV := Lib.hid (HV.out.drew.next hb); have HE4 := Lib.hid (HE4.out.drew.bel hb); have HE6 := Lib.hid he1; clear f0 f1 f2 f3 f4 f5 f6 f7 g0 g1 k0 k1 he he1; obtain ⟨f0, f1, f2, f3, f4, f5, f6, f7⟩ := HV.out.B.facts; obtain ⟨⟨g0, g1⟩, _⟩ := HG2.out _ HV.out.B.bel; obtain ⟨k0, k1⟩ := HC.out; clear hb)
            refine hK.out _ _ ⟨k0, k1, g0, g1, f2, f3⟩ (fun hHeld => ?_)
            clear hK K
            try simp only [Act.put, List.setIfInBounds_toArray, List.set_cons_zero, List.set_cons_succ]
            refine wt_next (i := 14) (o := { dst := some 69, op := Op.call { callee := Callee.value (Operand.func 69), args := #[Operand.tmp 60, Operand.tmp 68], argTypes := #[60, 60] }, type := 60, pos := "poly.go:145", after := #[{ on := 5, ground := Ground.data }, { on := 13, ground := Ground.data }, { on := 13, ground := Ground.chain }], guard := none }) (by kernel_rfl) rfl (fun K hK => ?_)
            go_simp
            (go_at_call 69; (with_reducible refine (sub_any (.agg #[.bool n4, .slice B4 p4 q4]) (.agg #[.bool n6, .slice B6 p6 q6]) (co L j * S) (co M r * F) (l + k) (k + l) _ HE4.out.one_ HE6.out.one_ (by omega) (by omega)).mono ?_); rintro e w7 he; obtain ⟨n7, B7, p7, q7, rfl, he1, hb⟩ := he.open1; have HC := Lib.hid (show w7.cell? ⟨go, j * 2, none⟩ = some (.bool n4) ∧ w7.cell? ⟨go, j * 2 + 1, none⟩ = some (.slice B4 p4 q4) from ⟨(hb.cell (show (⟨go, j * 2, none⟩ : Addr).block < w6.heap.size from HV.out.O.lt)).trans HC.out.1, (hb.cell (show (⟨go, j * 2 + 1, none⟩ : Addr).block < w6.heap.size from HV.out.O.lt)).trans HC.out.2⟩); have HV := Lib.hid (HV.out.next hb); have HE7 := Lib.hid (he1.le (show max (l + k) (k + l) + 1 ≤ l + k + 1 by omega)); have fr := HV.out.O.fr; clear f0 f1 f2 f3 f4 f5 f6 f7 g0 g1 k0 k1 he he1; obtain ⟨f0, f1, f2, f3, f4, f5, f6, f7⟩ := HV.out.B.facts; obtain ⟨⟨g0, g1⟩, _⟩ := HG2.out _ HV.out.B.bel; obtain ⟨k0, k1⟩ := HC.out; clear hb)
            refine hK.out _ _ ⟨k0, k1, g0, g1, f2, f3⟩ (fun hHeld => ?_)
            clear hK K
            try simp only [Act.put, List.setIfInBounds_toArray, List.set_cons_zero, List.set_cons_succ]
            refine wt_take (i := 15) (oi := { dst := some 70, op := Op.indexAddr 22 (Operand.tmp 55) (Operand.tmp 56), type := 0, pos := "poly.go:145", after := #[{ on := 0, ground := Ground.data }, { on := 1, ground := Ground.data }, { on := 0, ground := Ground.phase }, { on := 1, ground := Ground.phase }, { on := 2, ground := Ground.phase }, { on := 3, ground := Ground.phase }, { on := 4, ground := Ground.phase }, { on := 5, ground := Ground.phase }, { on := 6, ground := Ground.phase }, { on := 7, ground := Ground.phase }, { on := 8, ground := Ground.phase }, { on := 9, ground := Ground.phase }, { on := 10, ground := Ground.phase }, { on := 11, ground := Ground.phase }, { on := 12, ground := Ground.phase }, { on := 13, ground := Ground.phase }, { on := 14, ground := Ground.phase }], guard := none }) (v := ?_) [] (by kernel_rfl) rfl (by kernel_rfl) (by kernel_rfl) (by kernel_rfl) rfl (fun _ _ _ h => h) (Or.inl ⟨by rfl, ?_⟩) (by assumption) ?_
            rotate_left 1
            · (intro w0 hS0; (try dsimp only at hS0); go_simp; try with_reducible rfl)
            try simp only [Act.put, List.setIfInBounds_toArray, List.set_cons_zero, List.set_cons_succ]
            refine wt_last (o := { dst := none, op := Op.store 60 (Operand.tmp 70) (Operand.tmp 69), type := 0, pos := "poly.go:145", after := #[{ on := 15, ground := Ground.data }, { on := 14, ground := Ground.data }, { on := 14, ground := Ground.chain }, { on := 0, ground := Ground.phase }, { on := 1, ground := Ground.phase }, { on := 2, ground := Ground.phase }, { on := 3, ground := Ground.phase }, { on := 4, ground := Ground.phase }, { on := 5, ground := Ground.phase }, { on := 6, ground := Ground.phase }, { on := 7, ground := Ground.phase }, { on := 8, ground := Ground.phase }, { on := 9, ground := Ground.phase }, { on := 10, ground := Ground.phase }, { on := 11, ground := Ground.phase }, { on := 12, ground := Ground.phase }, { on := 13, ground := Ground.phase }, { on := 14, ground := Ground.phase }], guard := none }) (by kernel_rfl) (by kernel_rfl) rfl (fun K hK => ?_)
            go_simp
            refine hK.out _ _ ?_
            clear hK K hHeld
            try simp only [Act.put, List.setIfInBounds_toArray, List.set_cons_zero, List.set_cons_succ]
            have HX2 := Lib.hid (HV.out.puto HE7.out j)
            go_wp2_with fail
            refine ⟨⟨j + 1, rfl, by omega, ?_⟩, by simp [intOf]; omega⟩
            have h9 := HX2.out
            rw [List.set_set, ← HT.out, fill_set g hgo] at h9
            exact h9
          · have HT := Lib.hid (show g j = co L j * S by rw [HG.out j, if_neg hsj]; omega)
            go_wp2_with fail
            refine ⟨⟨j + 1, rfl, by omega, ?_⟩, by simp [intOf]; omega⟩
            have h9 := HV.out
            rw [← HT.out, fill_set g hgo] at h9
            exact h9
        · obtain rfl : j = x := by omega
          have hP := HO.out.O
          rw [fill_end] at hP
          have hP := hP.pol (by rw [gen_len]; omega)
          rw [gen_len] at hP
          have HP := Lib.hid hP
          have HB2 := Lib.hid HO.out.B.bel
          clear hP
          go_wp2_with (go_at_call 54; (with_reducible refine (trim_any _ j j (gen j g) (l + k + 1) _ HP.out.any).mono ?_); rintro e w4 ⟨rfl, hb⟩; have HB2 := Lib.hid (bel_tr HB2.out hb); have HP := Lib.hid (HP.out.bel hb); clear hb)
          go_ret
          exact polE_of HP.out HR.out HB2.out
end Go.Proofs.YtpobhegllhhdgaaGreat
