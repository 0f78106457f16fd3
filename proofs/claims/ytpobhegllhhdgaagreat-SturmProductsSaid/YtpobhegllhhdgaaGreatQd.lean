/- Proved here: what package poly's own and Mul answer and leave in memory. Condition: polynomials of at most 100 numbers of at most 10000 digits, that lie in memory. -/
import Derived.Test.YtpobhegllhhdgaaGreatQc
import Derived.Test.YtpobhegllhhdgaaGreatTl
import Derived.IntWalk
namespace Go.Proofs.YtpobhegllhhdgaaGreat
open Go.RowKit

set_option maxRecDepth 100000 in
theorem own_any (A : Option Addr) (m c : Nat) (L : List Int) (l : Nat) (w : World) (h : Pol .a w (.slice A m c) L l) (hm : m ≤ 1000) (hl : l ≤ 50000) :
    Calls Tryz.prog 67 #[.slice A m c] w (PolE .c (trz L) (l + 1) w) := by
  have H := Lib.hid h
  have HE := Lib.hid (add_nil L)
  have HM := Lib.hid (show max l 0 + 1 = l + 1 by omega)
  clear h
  go_enter Tryz.func67, Tryz.ntmps67
  go_wp2_with (go_at_call 30; (with_reducible refine (padd_any A none m c 0 0 L [] l 0 _ H.out (Pol.nil .a _ 0) hm (by omega) hl (by omega)).mono ?_); rintro e w1 he; rw [HE.out, HM.out] at he; obtain ⟨A', c', rfl, hP, hb⟩ := he; have HP := Lib.hid (And.intro hP hb); clear hP hb)
  go_ret
  exact ⟨A', c', rfl, HP.out.1, HP.out.2⟩
/-- The product's coefficients behind i rows and j places of the next one. -/
def mF (P Q : List Int) (i j k : Nat) : Int := conv P Q k i + (if i ≤ k ∧ k < i + j then co P i * co Q (k - i) else 0)
theorem mF_zero (P Q : List Int) (N : Nat) : gen N (mF P Q 0 0) = List.replicate N 0 := by
  rw [← fill_start N (mF P Q 0 0)]
  apply list_ext
  · rw [gen_len, fill_len _ (Nat.zero_le _)]
  · intro i
    rw [fill_start, co_gen]
    have e : co (List.replicate N (0 : Int)) i = 0 := by
      unfold co
      rw [List.getD_eq_getElem?_getD, List.getElem?_replicate]
      split <;> rfl
    rw [e]
    split
    · unfold mF
      rw [if_neg (by omega)]
      rfl
    · rfl
theorem mF_set (P Q : List Int) {N i j : Nat} (h : i + j < N) : (gen N (mF P Q i j)).set (i + j) (co (gen N (mF P Q i j)) (i + j) + co P i * co Q j) = gen N (mF P Q i (j + 1)) := by
  apply list_ext
  · simp [gen_len]
  · intro k
    by_cases hk : k = i + j
    · subst hk
      rw [co_set _ _ _ _ (by rw [gen_len]; exact h), if_pos rfl, co_gen, co_gen, if_pos h, if_pos h]
      unfold mF
      rw [if_neg (by omega), if_pos (by omega), show i + j - i = j by omega]
      omega
    · rw [co_set _ _ _ _ (by rw [gen_len]; exact h), if_neg hk, co_gen, co_gen]
      unfold mF
      by_cases h2 : i ≤ k ∧ k < i + j
      · rw [if_pos h2, if_pos (show i ≤ k ∧ k < i + (j + 1) by omega)]
      · rw [if_neg h2, if_neg (show ¬ (i ≤ k ∧ k < i + (j + 1)) by omega)]
theorem mF_row (P Q : List Int) (N i : Nat) : gen N (mF P Q i Q.length) = gen N (mF P Q (i + 1) 0) := by
  apply gen_congr
  intro k _
  unfold mF
  simp only [conv]
  rw [if_neg (show ¬ (i + 1 ≤ k ∧ k < i + 1 + 0) by omega)]
  by_cases h1 : i ≤ k
  · by_cases h2 : k < i + Q.length
    · rw [if_pos ⟨h1, h2⟩, if_pos h1]; omega
    · rw [if_neg (by omega), if_pos h1, co_beyond (L := Q) (by omega)]; omega
  · rw [if_neg (by omega), if_neg h1]; omega
theorem mF_end (P Q : List Int) : trz (gen (P.length + Q.length) (mF P Q P.length 0)) = mulP P Q := by
  unfold mulP
  congr 1
  apply gen_congr
  intro k _
  unfold mF
  rw [if_neg (by omega), conv_all (Nat.le_refl _)]
  omega
/-- What stands in memory in a round. -/
structure MuH (w wr : World) (ga gb : Nat) (cur : List Int) (l : Nat) (na : Bool) (va : Value) (nb : Bool) (vb : Value) : Prop where
  bel : Below w.heap.size w wr
  ob : Ob .c 60 wr w.heap.size cur l
  a : Bx 60 wr ga na va
  b : Bx 60 wr gb nb vb
section
variable {w wr w' : World} {ga gb l : Nat} {cur : List Int} {na nb : Bool} {va vb : Value}
theorem MuH.next (h : MuH w wr ga gb cur l na va nb vb) (hb : Below wr.heap.size wr w') : MuH w w' ga gb cur l na va nb vb :=
  ⟨bel_tr h.bel hb, h.ob.bel hb, h.a.bel hb, h.b.bel hb⟩
theorem MuH.drew (h : MuH w wr ga gb cur l na va nb vb) : MuH w wr.drew ga gb cur l na va nb vb := h.next ((Below.refl _ _).drew)
theorem MuH.facts (h : MuH w wr ga gb cur l na va nb vb) : wr.cell? ⟨ga, 0, none⟩ = some (.bool na) ∧ wr.cell? ⟨ga, 1, none⟩ = some va ∧ wr.cell? ⟨gb, 0, none⟩ = some (.bool nb) ∧ wr.cell? ⟨gb, 1, none⟩ = some vb := ⟨h.a.c0, h.a.c1, h.b.c0, h.b.c1⟩
end
/-- The same, and the two cells of the number that is turned. -/
structure MuK (w wr : World) (ga gb : Nat) (cur : List Int) (l r : Nat) (na : Bool) (va : Value) (nb : Bool) (vb : Value) (no : Bool) (vo : Value) : Prop where
  h : MuH w wr ga gb cur l na va nb vb
  o0 : wr.cell? ⟨w.heap.size, r * 2, none⟩ = some (.bool no)
  o1 : wr.cell? ⟨w.heap.size, r * 2 + 1, none⟩ = some vo
section
variable {w wr w' : World} {ga gb l r : Nat} {cur : List Int} {na nb no : Bool} {va vb vo : Value}
theorem MuK.next (h : MuK w wr ga gb cur l r na va nb vb no vo) (hb : Below wr.heap.size wr w') : MuK w w' ga gb cur l r na va nb vb no vo :=
  ⟨h.h.next hb, (hb.cell h.h.ob.lt).trans h.o0, (hb.cell h.h.ob.lt).trans h.o1⟩
theorem MuK.drew (h : MuK w wr ga gb cur l r na va nb vb no vo) : MuK w wr.drew ga gb cur l r na va nb vb no vo := h.next ((Below.refl _ _).drew)
theorem MuK.facts (h : MuK w wr ga gb cur l r na va nb vb no vo) : wr.cell? ⟨ga, 0, none⟩ = some (.bool na) ∧ wr.cell? ⟨ga, 1, none⟩ = some va ∧ wr.cell? ⟨gb, 0, none⟩ = some (.bool nb) ∧ wr.cell? ⟨gb, 1, none⟩ = some vb ∧
    wr.cell? ⟨w.heap.size, r * 2, none⟩ = some (.bool no) ∧ wr.cell? ⟨w.heap.size, r * 2 + 1, none⟩ = some vo := ⟨h.h.a.c0, h.h.a.c1, h.h.b.c0, h.h.b.c1, h.o0, h.o1⟩
end
theorem cell_two {w : World} {a : Addr} {g : Nat} {v : Value} (h : w.cell? a = some v) (hne : a.block ≠ g) (j1 j2 : Nat) (x y : Value) : ((w.setCell ⟨g, j1, none⟩ x).setCell ⟨g, j2, none⟩ y).cell? a = some v := by
  rw [cell_far _ _ _ hne, cell_far _ _ _ hne]
  exact h
theorem Bx.two {T : TypeId} {wr : World} {g ga : Nat} {na : Bool} {va : Value} (ha : Bx T wr ga na va) (h : ga ≠ g) (j1 j2 : Nat) (x y : Value) : Bx T ((wr.setCell ⟨g, j1, none⟩ x).setCell ⟨g, j2, none⟩ y) ga na va := (ha.far h x).far h y
theorem El.two {K : Kd} {w : World} {Z : Value} {z : Int} {l : Nat} (h : El K w Z z l) {K' : Kd} {T : TypeId} {g : Nat} {L : List Int} {l' : Nat} (hg : Ob K' T w g L l') (j1 j2 : Nat) (n : Bool) (B : Option Addr) (p q : Nat) : El K ((w.setCell ⟨g, j1, none⟩ (.bool n)).setCell ⟨g, j2, none⟩ (.slice B p q)) Z z l :=
  (h.store hg.noint _ _).store (hg.noint.set _ (by intro k z h; cases h)) _ _
set_option maxRecDepth 100000 in
set_option maxHeartbeats 4000000 in
theorem pmul_gen (A B : Option Addr) (m c m2 c2 : Nat) (L M : List Int) (l k : Nat) (w : World) (h : Pol .a w (.slice A m c) L l) (h' : Pol .a w (.slice B m2 c2) M k) (hm : m ≤ 100) (hm2 : m2 ≤ 100) (hl : l ≤ 10000) (hk : k ≤ 10000) :
    Calls Tryz.prog 23 #[.slice A m c, .slice B m2 c2] w (PolE .c (mulP (trz L) (trz M)) (l + k + m * m2) w) := by
  have hp1 := pl_le L
  have hp2 := pl_le M
  rw [← h.cap.1] at hp1
  rw [← h'.cap.1] at hp2
  have hc1 := h.cap.2.1
  have hc2 := h'.cap.2.1
  have H := Lib.hid h
  have H' := Lib.hid h'
  obtain ⟨x, hx⟩ : ∃ x, x = pl L := ⟨_, rfl⟩
  obtain ⟨y, hy⟩ : ∃ y, y = pl M := ⟨_, rfl⟩
  rw [← hx] at hp1
  rw [← hy] at hp2
  have HXY := Lib.hid (And.intro hx hy)
  have hmk := fun W => mkBig (x + y) (by omega) W ((x : Int) + (y : Int)) (by omega)
  clear h h' hx hy
  go_enter Tryz.func23, Tryz.ntmps23
  go_wp2_with (first
    | (go_at_call 54; (with_reducible refine (trim_any A m c L l _ H.out).mono ?_); rintro e w1 ⟨rfl, hb⟩; have HB1 := Lib.hid hb; rw [← HXY.out.1]; clear hb)
    | (go_at_call 54; (with_reducible refine (trim_any B m2 c2 M k _ (H'.out.bel HB1.out)).mono ?_); rintro e w2 ⟨rfl, hb⟩; have HB := Lib.hid (bel_tr HB1.out hb); rw [← HXY.out.2]; clear hb))
  obtain ⟨P, hP⟩ : ∃ P, P = trz L := ⟨_, rfl⟩
  obtain ⟨Q, hQ⟩ : ∃ Q, Q = trz M := ⟨_, rfl⟩
  have HL := Lib.hid (show P.length = x ∧ Q.length = y by rw [hP, hQ, trz_len, trz_len]; exact ⟨HXY.out.1.symm, HXY.out.2.symm⟩)
  have HP := Lib.hid (show Pol .a w2 (.slice A x c) P l by rw [hP, HXY.out.1]; exact H.out.trz.bel HB.out)
  have HQ := Lib.hid (show Pol .a w2 (.slice B y c2) Q k by rw [hQ, HXY.out.2]; exact H'.out.trz.bel HB.out)
  have HPQ := Lib.hid (show mulP (trz L) (trz M) = mulP P Q by rw [hP, hQ])
  have hO0 := Ob.new (K := .c) 60 w2 (x + y) (l + k + (0 * y + 0))
  rw [← mF_zero P Q (x + y)] at hO0
  have HO0 := Lib.hid hO0
  clear hP hQ hO0 HXY H H' HB1
  go_loopw [22] (fun i wr => ∃ j : Nat, i = .int .i64 (j : Int) ∧ j ≤ x ∧ Below w2.heap.size w2 wr ∧ Ob .c 60 wr w2.heap.size (gen (x + y) (mF P Q j 0)) (l + k + (j * y + 0))) (fun i _ => x - (intOf i).toNat)
  case atStart => exact ⟨0, rfl, Nat.zero_le _, bel_a _ _, HO0.out⟩
  case round =>
    obtain ⟨i, rfl, hi, hb, hO⟩ := hrel
    by_cases hgo : i < x
    · obtain ⟨ad, na, Ba, pa, qa, rfl, had, c0, c1, he⟩ := HP.out.get i (by rw [HL.out.1]; exact hgo)
      have f0 : wr.cell? (ad.add (i * 2)) = some (.bool na) := by rw [hb.cell (by rw [block_of_add]; exact had)]; exact c0
      have f1 : wr.cell? { block := (ad.add (i * 2)).block, off := (ad.add (i * 2)).off + 1 } = some (.slice Ba pa qa) := by rw [add_next, hb.cell (by rw [block_of_add]; exact had)]; exact c1
      have HA := Lib.hid (show BigA wr (.agg #[.bool na, .slice Ba pa qa]) (co P i) l from he.bel hb)
      have hgl := hO.lt
      have HB2 := Lib.hid hb
      have HO := Lib.hid hO
      clear he c0 c1 hb hO
      go_wp2_with fail
      have HI := Lib.hid (show Below w2.heap.size w2 (wr.alloc (.cells #[.bool na, .slice Ba pa qa] 60)) ∧ Ob .c 60 (wr.alloc (.cells #[.bool na, .slice Ba pa qa] 60)) w2.heap.size (gen (x + y) (mF P Q i 0)) (l + k + (i * y + 0)) ∧ Bx 60 (wr.alloc (.cells #[.bool na, .slice Ba pa qa] 60)) wr.heap.size na (.slice Ba pa qa) ∧ El .a (wr.alloc (.cells #[.bool na, .slice Ba pa qa] 60)) (.agg #[.bool na, .slice Ba pa qa]) (co P i) l from
        ⟨bel_tr HB2.out (bel_a _ _), HO.out.bel (bel_a _ _), Bx.new 60 wr _ _, El.bel (K := .a) HA.out (bel_a _ _)⟩)
      obtain ⟨ga, hga⟩ : ∃ ga, ga = wr.heap.size := ⟨_, rfl⟩
      obtain ⟨W1, hW1⟩ : ∃ W1, W1 = wr.alloc (.cells #[.bool na, .slice Ba pa qa] 60) := ⟨_, rfl⟩
      have HI := Lib.hid (show Below w2.heap.size w2 W1 ∧ Ob .c 60 W1 w2.heap.size (gen (x + y) (mF P Q i 0)) (l + k + (i * y + 0)) ∧ Bx 60 W1 ga na (.slice Ba pa qa) ∧ El .a W1 (.agg #[.bool na, .slice Ba pa qa]) (co P i) l by rw [hga, hW1]; exact HI.out)
      have hgne : ga ≠ w2.heap.size := by omega
      rw [← hga, ← hW1]
      clear hga hW1 HA HO HB2 f0 f1 hgl
      go_loopw [29] (fun s w3 => ∃ j : Nat, s = .int .i64 (j : Int) ∧ j ≤ y ∧ Below w2.heap.size w2 w3 ∧ Ob .c 60 w3 w2.heap.size (gen (x + y) (mF P Q i j)) (l + k + (i * y + j)) ∧ Bx 60 w3 ga na (.slice Ba pa qa) ∧ El .a w3 (.agg #[.bool na, .slice Ba pa qa]) (co P i) l) (fun s _ => y - (intOf s).toNat)
      case atStart => exact ⟨0, rfl, Nat.zero_le _, HI.out⟩
      case round =>
        obtain ⟨j, rfl, hj, hb, hO, hA, hE⟩ := hrel
        by_cases hgo2 : j < y
        · obtain ⟨bd, nb, Bb, pb, qb, rfl, hbd, c0, c1, he⟩ := HQ.out.get j (by rw [HL.out.2]; exact hgo2)
          have f0 : wr.cell? (bd.add (j * 2)) = some (.bool nb) := by rw [hb.cell (by rw [block_of_add]; exact hbd)]; exact c0
          have f1 : wr.cell? { block := (bd.add (j * 2)).block, off := (bd.add (j * 2)).off + 1 } = some (.slice Bb pb qb) := by rw [add_next, hb.cell (by rw [block_of_add]; exact hbd)]; exact c1
          have HBE := Lib.hid (show El .a wr (.agg #[.bool nb, .slice Bb pb qb]) (co Q j) k from he.bel hb)
          have hij : i + j < x + y := by omega
          have hiy : i * y ≤ 100 * 100 := Nat.mul_le_mul (by omega) (by omega)
          have HE := Lib.hid hE
          have H0 := Lib.hid (show MuH w2 (wr.alloc (.cells #[.bool nb, .slice Bb pb qb] 60)) ga wr.heap.size (gen (x + y) (mF P Q i j)) (l + k + (i * y + j)) na (.slice Ba pa qa) nb (.slice Bb pb qb) from
            ⟨bel_tr hb (bel_a _ _), hO.bel (bel_a _ _), hA.bel (bel_a _ _), Bx.new 60 wr _ _⟩)
          have hgn2 : wr.heap.size ≠ w2.heap.size := by have := hO.lt; omega
          clear he c0 c1 hb hO hA hE
          go_wp2_with fail
          obtain ⟨gb, hgb⟩ : ∃ gb, gb = wr.heap.size := ⟨_, rfl⟩
          obtain ⟨W0, hW0⟩ : ∃ W0, W0 = wr.alloc (.cells #[.bool nb, .slice Bb pb qb] 60) := ⟨_, rfl⟩
          have HE := Lib.hid (show El .a W0 (.agg #[.bool na, .slice Ba pa qa]) (co P i) l by rw [hW0]; exact HE.out.bel (bel_a _ _))
          have HBE := Lib.hid (show El .a W0 (.agg #[.bool nb, .slice Bb pb qb]) (co Q j) k by rw [hW0]; exact HBE.out.bel (bel_a _ _))
          have H0 := Lib.hid (show MuH w2 W0 ga gb (gen (x + y) (mF P Q i j)) (l + k + (i * y + j)) na (.slice Ba pa qa) nb (.slice Bb pb qb) by rw [hgb, hW0]; exact H0.out)
          rw [← hgb, ← hW0]
          rw [← hgb] at hgn2
          clear hgb hW0 f0 f1
          obtain ⟨r, hr⟩ : ∃ r, r = i + j := ⟨_, rfl⟩
          have HR := Lib.hid hr
          have hrl : r < x + y := by omega
          have hri : (r : Int) < (x : Int) + (y : Int) := by omega
          have hri0 : (0 : Int) ≤ (r : Int) := by omega
          obtain ⟨no, Bo, po, qo, g0, g1, ho⟩ := H0.out.ob.get r (by rw [gen_len]; exact hrl)
          have HOE := Lib.hid ho
          have H1 := Lib.hid (MuK.mk H0.out g0 g1)
          clear ho g0 g1 H0
          obtain ⟨f0, f1, f2, f3, f4, f5⟩ := H1.out.facts
          have hw : IntKind.i64.wrap ((i : Int) + (j : Int)) = (r : Int) := by rw [hr]; exact IntWalk.i64_in _ (by omega)
          clear hr
          refine wt_start (S := (fun w' => w'.cell? ⟨ga, 0, none⟩ = some (.bool na) ∧ w'.cell? ⟨ga, 1, none⟩ = some (.slice Ba pa qa) ∧ w'.cell? ⟨gb, 0, none⟩ = some (.bool nb) ∧ w'.cell? ⟨gb, 1, none⟩ = some (.slice Bb pb qb) ∧ w'.cell? ⟨w2.heap.size, r * 2, none⟩ = some (.bool no) ∧ w'.cell? ⟨w2.heap.size, r * 2 + 1, none⟩ = some (.slice Bo po qo))) 15 (by kernel_rfl) ?_ (fun hHeld => ?_)
          · exact ⟨f0, f1, f2, f3, f4, f5⟩
          refine wt_take (i := 0) (oi := { dst := some 34, op := Op.move (Operand.tmp 5), type := 22, pos := "poly.go:52", after := #[], guard := none }) (v := ?_) [] (by kernel_rfl) rfl (by kernel_rfl) (by kernel_rfl) (by kernel_rfl) rfl (fun _ _ _ h => h) (Or.inl ⟨by rfl, ?_⟩) (by assumption) ?_
          rotate_left 1
          · (intro w0 hS0; (try dsimp only at hS0); go_simp; try with_reducible rfl)
          try simp only [Act.put, List.setIfInBounds_toArray, List.set_cons_zero, List.set_cons_succ]
          refine wt_take (i := 1) (oi := { dst := some 35, op := Op.move (Operand.tmp 6), type := 3, pos := "poly.go:52", after := #[], guard := none }) (v := ?_) [] (by kernel_rfl) rfl (by kernel_rfl) (by kernel_rfl) (by kernel_rfl) rfl (fun _ _ _ h => h) (Or.inl ⟨by rfl, ?_⟩) (by assumption) ?_
          rotate_left 1
          · (intro w0 hS0; (try dsimp only at hS0); go_simp; try with_reducible rfl)
          try simp only [Act.put, List.setIfInBounds_toArray, List.set_cons_zero, List.set_cons_succ]
          refine wt_take (i := 2) (oi := { dst := some 36, op := Op.move (Operand.tmp 8), type := 3, pos := "poly.go:52", after := #[], guard := none }) (v := ?_) [] (by kernel_rfl) rfl (by kernel_rfl) (by kernel_rfl) (by kernel_rfl) rfl (fun _ _ _ h => h) (Or.inl ⟨by rfl, ?_⟩) (by assumption) ?_
          rotate_left 1
          · (intro w0 hS0; (try dsimp only at hS0); go_simp; try with_reducible rfl)
          try simp only [Act.put, List.setIfInBounds_toArray, List.set_cons_zero, List.set_cons_succ]
          refine wt_take (i := 3) (oi := { dst := some 37, op := Op.binOp BinOp.add 3 (Operand.tmp 35) (Operand.tmp 36) 3, type := 3, pos := "poly.go:52", after := #[{ on := 1, ground := Ground.data }, { on := 2, ground := Ground.data }], guard := none }) (v := ?_) [] (by kernel_rfl) rfl (by kernel_rfl) (by kernel_rfl) (by kernel_rfl) rfl (fun _ _ _ h => h) (Or.inl ⟨by rfl, ?_⟩) (by assumption) ?_
          rotate_left 1
          · (intro w0 hS0; (try dsimp only at hS0); go_simp; try with_reducible rfl)
          try simp only [Act.put, List.setIfInBounds_toArray, List.set_cons_zero, List.set_cons_succ]
          refine wt_take (i := 4) (oi := { dst := some 38, op := Op.move (Operand.tmp 5), type := 22, pos := "poly.go:52", after := #[], guard := none }) (v := ?_) [] (by kernel_rfl) rfl (by kernel_rfl) (by kernel_rfl) (by kernel_rfl) rfl (fun _ _ _ h => h) (Or.inl ⟨by rfl, ?_⟩) (by assumption) ?_
          rotate_left 1
          · (intro w0 hS0; (try dsimp only at hS0); go_simp; try with_reducible rfl)
          try simp only [Act.put, List.setIfInBounds_toArray, List.set_cons_zero, List.set_cons_succ]
          refine wt_take (i := 5) (oi := { dst := some 39, op := Op.move (Operand.tmp 6), type := 3, pos := "poly.go:52", after := #[], guard := none }) (v := ?_) [] (by kernel_rfl) rfl (by kernel_rfl) (by kernel_rfl) (by kernel_rfl) rfl (fun _ _ _ h => h) (Or.inl ⟨by rfl, ?_⟩) (by assumption) ?_
          rotate_left 1
          · (intro w0 hS0; (try dsimp only at hS0); go_simp; try with_reducible rfl)
          try simp only [Act.put, List.setIfInBounds_toArray, List.set_cons_zero, List.set_cons_succ]
          refine wt_take (i := 6) (oi := { dst := some 40, op := Op.move (Operand.tmp 8), type := 3, pos := "poly.go:52", after := #[], guard := none }) (v := ?_) [] (by kernel_rfl) rfl (by kernel_rfl) (by kernel_rfl) (by kernel_rfl) rfl (fun _ _ _ h => h) (Or.inl ⟨by rfl, ?_⟩) (by assumption) ?_
          rotate_left 1
          · (intro w0 hS0; (try dsimp only at hS0); go_simp; try with_reducible rfl)
          try simp only [Act.put, List.setIfInBounds_toArray, List.set_cons_zero, List.set_cons_succ]
          refine wt_take (i := 7) (oi := { dst := some 41, op := Op.binOp BinOp.add 3 (Operand.tmp 39) (Operand.tmp 40) 3, type := 3, pos := "poly.go:52", after := #[{ on := 5, ground := Ground.data }, { on := 6, ground := Ground.data }], guard := none }) (v := ?_) [] (by kernel_rfl) rfl (by kernel_rfl) (by kernel_rfl) (by kernel_rfl) rfl (fun _ _ _ h => h) (Or.inl ⟨by rfl, ?_⟩) (by assumption) ?_
          rotate_left 1
          · (intro w0 hS0; (try dsimp only at hS0); go_simp; try with_reducible rfl)
          try simp only [Act.put, List.setIfInBounds_toArray, List.set_cons_zero, List.set_cons_succ]
          refine wt_take (i := 8) (oi := { dst := some 42, op := Op.indexAddr 22 (Operand.tmp 38) (Operand.tmp 41), type := 0, pos := "poly.go:52", after := #[{ on := 4, ground := Ground.data }, { on := 7, ground := Ground.data }], guard := none }) (v := ?_) [] (by kernel_rfl) rfl (by kernel_rfl) (by kernel_rfl) (by kernel_rfl) rfl (fun _ _ _ h => h) (Or.inl ⟨by rfl, ?_⟩) (by assumption) ?_
          rotate_left 1
          · (intro w0 hS0; (try dsimp only at hS0); go_simp; try with_reducible rfl)
          try simp only [Act.put, List.setIfInBounds_toArray, List.set_cons_zero, List.set_cons_succ]
          refine wt_take (i := 9) (oi := { dst := some 43, op := Op.load 60 (Operand.tmp 42), type := 60, pos := "poly.go:52", after := #[{ on := 8, ground := Ground.data }], guard := none }) (v := ?_) [] (by kernel_rfl) rfl (by kernel_rfl) (by kernel_rfl) (by kernel_rfl) rfl (fun _ _ _ h => h) (Or.inl ⟨by rfl, ?_⟩) (by assumption) ?_
          rotate_left 1
          · (intro w0 hS0; (try dsimp only at hS0); go_simp; try with_reducible rfl)
          try simp only [Act.put, List.setIfInBounds_toArray, List.set_cons_zero, List.set_cons_succ]
          refine wt_take (i := 10) (oi := { dst := some 44, op := Op.load 60 (Operand.tmp 7), type := 60, pos := "poly.go:52", after := #[], guard := none }) (v := ?_) [] (by kernel_rfl) rfl (by kernel_rfl) (by kernel_rfl) (by kernel_rfl) rfl (fun _ _ _ h => h) (Or.inl ⟨by rfl, ?_⟩) (by assumption) ?_
          rotate_left 1
          · (intro w0 hS0; (try dsimp only at hS0); go_simp; try with_reducible rfl)
          try simp only [Act.put, List.setIfInBounds_toArray, List.set_cons_zero, List.set_cons_succ]
          refine wt_take (i := 11) (oi := { dst := some 45, op := Op.load 60 (Operand.tmp 9), type := 60, pos := "poly.go:52", after := #[], guard := none }) (v := ?_) [] (by kernel_rfl) rfl (by kernel_rfl) (by kernel_rfl) (by kernel_rfl) rfl (fun _ _ _ h => h) (Or.inl ⟨by rfl, ?_⟩) (by assumption) ?_
          rotate_left 1
          · (intro w0 hS0; (try dsimp only at hS0); go_simp; try with_reducible rfl)
          try simp only [Act.put, List.setIfInBounds_toArray, List.set_cons_zero, List.set_cons_succ]
          refine wt_next (i := 12) (o := { dst := some 46, op := Op.call { callee := Callee.value (Operand.func 59), args := #[Operand.tmp 44, Operand.tmp 45], argTypes := #[60, 60] }, type := 60, pos := "poly.go:52", after := #[{ on := 10, ground := Ground.data }, { on := 11, ground := Ground.data }], guard := none }) (by kernel_rfl) rfl (fun K hK => ?_)
          go_simp
          (go_at_call 59; (with_reducible refine (mul_any (.agg #[.bool na, .slice Ba pa qa]) (.agg #[.bool nb, .slice Bb pb qb]) (co P i) (co Q j) l k _ HE.out.drew.big_ HBE.out.drew.big_ (by omega) (by omega)).mono ?_); rintro e w4 he; obtain ⟨n4, B4, p4, q4, rfl, he1, hb⟩ := he.open1; have H1 := Lib.hid (H1.out.drew.next hb); have HE4 := Lib.hid he1; have HOE := Lib.hid (HOE.out.drew.bel hb); have HE := Lib.hid (HE.out.drew.bel hb); clear f0 f1 f2 f3 f4 f5 he he1 hb; obtain ⟨f0, f1, f2, f3, f4, f5⟩ := H1.out.facts)
          refine hK.out _ _ ⟨f0, f1, f2, f3, f4, f5⟩ (fun hHeld => ?_)
          clear hK K
          try simp only [Act.put, List.setIfInBounds_toArray, List.set_cons_zero, List.set_cons_succ]
          refine wt_next (i := 13) (o := { dst := some 47, op := Op.call { callee := Callee.value (Operand.func 58), args := #[Operand.tmp 43, Operand.tmp 46], argTypes := #[60, 60] }, type := 60, pos := "poly.go:52", after := #[{ on := 9, ground := Ground.data }, { on := 12, ground := Ground.data }, { on := 12, ground := Ground.chain }], guard := none }) (by kernel_rfl) rfl (fun K hK => ?_)
          go_simp
          (go_at_call 58; (with_reducible refine (add_any (.agg #[.bool no, .slice Bo po qo]) (.agg #[.bool n4, .slice B4 p4 q4]) (co (gen (x + y) (mF P Q i j)) r) (co P i * co Q j) (l + k + (i * y + j)) (l + k) _ HOE.out.one_ HE4.out.one_ (by omega) (by omega)).mono ?_); rintro e w5 he; obtain ⟨n5, B5, p5, q5, rfl, he1, hb⟩ := he.open1; have H1 := Lib.hid (H1.out.next hb); have HE5 := Lib.hid he1; have HE := Lib.hid (HE.out.bel hb); clear f0 f1 f2 f3 f4 f5 he he1 hb; obtain ⟨f0, f1, f2, f3, f4, f5⟩ := H1.out.facts; have fr := H1.out.h.ob.fr)
          refine hK.out _ _ ⟨f0, f1, f2, f3, f4, f5⟩ (fun hHeld => ?_)
          clear hK K
          try simp only [Act.put, List.setIfInBounds_toArray, List.set_cons_zero, List.set_cons_succ]
          refine wt_take (i := 14) (oi := { dst := some 48, op := Op.indexAddr 22 (Operand.tmp 34) (Operand.tmp 37), type := 0, pos := "poly.go:52", after := #[{ on := 0, ground := Ground.data }, { on := 3, ground := Ground.data }, { on := 0, ground := Ground.phase }, { on := 1, ground := Ground.phase }, { on := 2, ground := Ground.phase }, { on := 3, ground := Ground.phase }, { on := 4, ground := Ground.phase }, { on := 5, ground := Ground.phase }, { on := 6, ground := Ground.phase }, { on := 7, ground := Ground.phase }, { on := 8, ground := Ground.phase }, { on := 9, ground := Ground.phase }, { on := 10, ground := Ground.phase }, { on := 11, ground := Ground.phase }, { on := 12, ground := Ground.phase }, { on := 13, ground := Ground.phase }], guard := none }) (v := ?_) [] (by kernel_rfl) rfl (by kernel_rfl) (by kernel_rfl) (by kernel_rfl) rfl (fun _ _ _ h => h) (Or.inl ⟨by rfl, ?_⟩) (by assumption) ?_
          rotate_left 1
          · (intro w0 hS0; (try dsimp only at hS0); go_simp; try with_reducible rfl)
          try simp only [Act.put, List.setIfInBounds_toArray, List.set_cons_zero, List.set_cons_succ]
          refine wt_last (o := { dst := none, op := Op.store 60 (Operand.tmp 48) (Operand.tmp 47), type := 0, pos := "poly.go:52", after := #[{ on := 14, ground := Ground.data }, { on := 13, ground := Ground.data }, { on := 13, ground := Ground.chain }, { on := 0, ground := Ground.phase }, { on := 1, ground := Ground.phase }, { on := 2, ground := Ground.phase }, { on := 3, ground := Ground.phase }, { on := 4, ground := Ground.phase }, { on := 5, ground := Ground.phase }, { on := 6, ground := Ground.phase }, { on := 7, ground := Ground.phase }, { on := 8, ground := Ground.phase }, { on := 9, ground := Ground.phase }, { on := 10, ground := Ground.phase }, { on := 11, ground := Ground.phase }, { on := 12, ground := Ground.phase }, { on := 13, ground := Ground.phase }], guard := none }) (by kernel_rfl) (by kernel_rfl) rfl (fun K hK => ?_)
          go_simp
          refine hK.out _ _ ?_
          clear hK K hHeld
          try simp only [Act.put, List.setIfInBounds_toArray, List.set_cons_zero, List.set_cons_succ]
          all_goals
            go_wp2_with fail
            refine ⟨⟨j + 1, rfl, by omega, bel_set (bel_set H1.out.h.bel (Nat.le_refl _) _ _) (Nat.le_refl _) _ _, ?_, H1.out.h.a.two hgne _ _ _ _, HE.out.two H1.out.h.ob _ _ _ _ _ _⟩, by simp [intOf]; omega⟩
            have h9 := (H1.out.h.ob.le (show l + k + (i * y + j) ≤ l + k + (i * y + (j + 1)) by omega)).set r (HE5.out.le (show max (l + k + (i * y + j)) (l + k) + 1 ≤ l + k + (i * y + (j + 1)) by omega))
            rw [HR.out, mF_set P Q hij] at h9
            rw [HR.out]
            exact h9
        · obtain rfl : j = y := by omega
          have h9 := hO
          rw [← HL.out.2, mF_row] at h9
          rw [HL.out.2] at h9
          have HX := Lib.hid (And.intro hb (h9.le (show l + k + (i * j + j) ≤ l + k + ((i + 1) * j + 0) by rw [Nat.succ_mul]; omega)))
          clear hO h9 hA hE hb
          go_wp2_with fail
          exact ⟨⟨i + 1, rfl, by omega, HX.out⟩, by simp [intOf]; omega⟩
    · obtain rfl : i = x := by omega
      have hiy : i * y ≤ 100 * 100 := Nat.mul_le_mul (by omega) (by omega)
      have hP2 := (hO.le (show l + k + (i * y + 0) ≤ l + k + m * m2 by have := Nat.mul_le_mul hp1 hp2; omega)).pol (by rw [gen_len]; omega)
      rw [gen_len] at hP2
      have HP2 := Lib.hid hP2
      have HE := Lib.hid (mF_end P Q)
      rw [HL.out.1, HL.out.2] at HE
      have HB2 := Lib.hid (bel_tr HB.out hb)
      clear hO hP2 hb
      go_wp2_with (go_at_call 54; (with_reducible refine (trim_any _ (i + y) (i + y) (gen (i + y) (mF P Q i 0)) (l + k + m * m2) _ HP2.out.any).mono ?_); rintro e w4 ⟨rfl, hb⟩; have HB2 := Lib.hid (bel_tr HB2.out hb); have HP2 := Lib.hid (HP2.out.bel hb); clear hb)
      go_ret
      exact polE_of HP2.out (HPQ.out.trans HE.out.symm) HB2.out
theorem PolE.le {K : Kd} {L : List Int} {l l' : Nat} {w w' : World} {e : Ending} (h : PolE K L l w e w') (hl : l ≤ l') : PolE K L l' w e w' := by
  obtain ⟨A, c, h1, h2, h3⟩ := h
  exact ⟨A, c, h1, h2.le hl, h3⟩
theorem pmul_any (A B : Option Addr) (m c m2 c2 : Nat) (L M : List Int) (l k : Nat) (w : World) (h : Pol .a w (.slice A m c) L l) (h' : Pol .a w (.slice B m2 c2) M k) (hm : m ≤ 100) (hm2 : m2 ≤ 100) (hl : l ≤ 10000) (hk : k ≤ 10000) :
    Calls Tryz.prog 23 #[.slice A m c, .slice B m2 c2] w (PolE .c (mulP (trz L) (trz M)) (l + k + 10000) w) :=
  (pmul_gen A B m c m2 c2 L M l k w h h' hm hm2 hl hk).mono fun _ _ he => he.le (by have := Nat.mul_le_mul hm hm2; omega)
theorem pmul_small (A B : Option Addr) (m c m2 c2 : Nat) (L M : List Int) (l k : Nat) (w : World) (h : Pol .a w (.slice A m c) L l) (h' : Pol .a w (.slice B m2 c2) M k) (hm : m ≤ 10) (hm2 : m2 ≤ 10) (hl : l ≤ 10000) (hk : k ≤ 10000) :
    Calls Tryz.prog 23 #[.slice A m c, .slice B m2 c2] w (PolE .c (mulP (trz L) (trz M)) (l + k + 100) w) :=
  (pmul_gen A B m c m2 c2 L M l k w h h' (by omega) (by omega) hl hk).mono fun _ _ he => he.le (by have := Nat.mul_le_mul hm hm2; omega)
end Go.Proofs.YtpobhegllhhdgaaGreat
