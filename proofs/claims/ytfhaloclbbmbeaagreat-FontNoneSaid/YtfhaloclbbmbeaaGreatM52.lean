/- Proved here: plain: a contour turned to where it begins has the way that is turned there; edges along a way, one by one. No condition · the way of a contour (the program's wayOf). Condition: points that lie in memory, and may be; px from 1 up to 128 · which numbers, points and edges may be (the program's mayFine, mayPt, isDot, mayEdge). No condition. -/
import Derived.Test.YtfhaloclbbmbeaaGreatM51
import Derived.BigRegion
import Derived.Deep.RegionLaw
import Derived.BigQuiet
namespace Go.Proofs.YtfhaloclbbmbeaaGreat
open Go.RowKit
def rot (L : List Pt) (b : Nat) : List Pt := L.drop b ++ L.take b
theorem rot_len (L : List Pt) (b : Nat) : (rot L b).length = L.length := by unfold rot; simp; omega
theorem rot_pq {L : List Pt} {b i : Nat} (hb : b < L.length) (hi : i < L.length) : pq (rot L b) i = pq L ((b + i) % L.length) := by
  unfold rot pq
  rcases Nat.lt_or_ge (b + i) L.length with h | h
  · rw [Nat.mod_eq_of_lt h]
    simp only [List.getD_eq_getElem?_getD]
    rw [List.getElem?_append_left (by simp; omega), List.getElem?_drop]
  · rw [Nat.mod_eq_sub_mod h, Nat.mod_eq_of_lt (by omega)]
    simp only [List.getD_eq_getElem?_getD]
    rw [List.getElem?_append_right (by simp; omega), List.getElem?_take_of_lt (by simp; omega)]
    simp only [List.length_drop]
    rw [show i - (L.length - b) = b + i - L.length by omega]
def Beg (L : List Pt) (b : Nat) : Prop := (b < L.length ∧ (pq L b).2.2 = true ∧ ∀ i, i < b → (pq L i).2.2 = false) ∨ (b = 0 ∧ ∀ i, i < L.length → (pq L i).2.2 = false)
theorem pq_mem {X : List Pt} {p : Pt} (hp : p ∈ X) : ∃ i, i < X.length ∧ pq X i = p := by
  obtain ⟨i, hi, h⟩ := List.getElem_of_mem hp
  exact ⟨i, hi, by unfold pq; simp [hi, h]⟩
theorem way_rot (px : Int) (L : List Pt) (b : Nat) (h : Beg L b) : wyR px (lstD (0, 0, false) (rot L b)) (rot L b) = way px L := by
  rcases h with ⟨hb, hy, hX⟩ | ⟨rfl, ho⟩
  · have e : L = L.take b ++ pq L b :: L.drop (b + 1) := by
      have := List.take_append_drop b L
      rw [pq_drop L b hb] at this
      exact this.symm
    have hX' : ∀ p ∈ L.take b, p.2.2 = false := fun p hp => by
      obtain ⟨i, hi, h⟩ := pq_mem hp
      rw [← h]
      have hi' : i < b := by simp at hi; omega
      have : pq (L.take b) i = pq L i := by unfold pq; simp [hi']
      rw [this]
      exact hX i hi'
    have er : rot L b = (pq L b :: L.drop (b + 1)) ++ L.take b := by unfold rot; rw [pq_drop L b hb]
    obtain ⟨X, hXe⟩ : ∃ X, X = L.take b := ⟨_, rfl⟩
    obtain ⟨Z, hZe⟩ : ∃ Z, Z = L.drop (b + 1) := ⟨_, rfl⟩
    obtain ⟨y, hye⟩ : ∃ y, y = pq L b := ⟨_, rfl⟩
    rw [← hXe, ← hZe, ← hye] at e er
    rw [← hXe] at hX'
    rw [← hye] at hy
    rw [er, e, way_on px X Z y hy hX', wyR_app, lstD_app]
    rfl
  · have er : rot L 0 = L := by unfold rot; simp
    rw [er]
    have hX' : ∀ p ∈ L, p.2.2 = false := fun p hp => by
      obtain ⟨i, hi, h⟩ := pq_mem hp
      rw [← h]
      exact ho i hi
    unfold way beg
    rw [bgR_off _ _ _ hX']
    show _ = (way0 px L).drop 0 ++ (way0 px L).take 0
    rw [List.drop_zero, List.take_zero, List.append_nil]
    rfl
namespace N16
def mkE (k : Int) (a b d : Nod) : Edg := if b.2 = true then (k, false, a.1, (0, 0), b.1) else (k, true, a.1, b.1, d.1)
def alR (k : Int) : List Nod → List Edg
  | [] => []
  | [_] => []
  | [_, _] => []
  | a :: b :: d :: r => (if a.2 = true then [mkE k a b d] else []) ++ alR k (b :: d :: r)
end N16
def noT : List Nod → Prop
  | [] => True
  | [_] => True
  | a :: b :: r => (a.2 = true ∨ b.2 = true) ∧ noT (b :: r)
namespace N16
theorem alR_more (k : Int) (a b d : Nod) (r : List Nod) : alR k (a :: b :: d :: r) = (if a.2 = true then [mkE k a b d] else []) ++ alR k (b :: d :: r) := by rw [alR]
theorem alR_two (k : Int) (a b : Nod) : alR k [a, b] = [] := by rw [alR]
theorem alR_eds (k : Int) (z t : Nod) (hz : z.2 = true) : ∀ (n : Nat) (L : List Nod), L.length ≤ n → noT (L ++ [z]) → (∀ a r, L = a :: r → a.2 = true) → alR k (L ++ [z, t]) = eds k (L ++ [z]) := by
  intro n
  induction n with
  | zero =>
    intro L hn _ _
    obtain rfl : L = [] := List.length_eq_zero_iff.1 (by omega)
    rw [List.nil_append, List.nil_append, alR_two, eds_one]
  | succ n ih =>
    intro L hn hT hh
    match L, hn, hT, hh with
    | [], _, _, _ => rw [List.nil_append, List.nil_append, alR_two, eds_one]
    | [a], _, _, hh =>
      have ha := hh a [] rfl
      show alR k [a, z, t] = eds k [a, z]
      rw [alR_more, alR_two, if_pos ha, List.append_nil, eds_two, if_pos hz]
      unfold mkE
      rw [if_pos hz]
    | a :: b :: r, hn, hT, hh =>
      have ha := hh a (b :: r) rfl
      by_cases hb : b.2 = true
      · have e := ih (b :: r) (by simp at hn ⊢; omega) hT.2 (fun a' r' h => by injection h with h _; rw [← h]; exact hb)
        show alR k (a :: b :: (r ++ [z, t])) = eds k (a :: b :: (r ++ [z]))
        rw [eds_line k a b _ hb]
        have e2 : alR k (a :: b :: (r ++ [z, t])) = [(k, false, a.1, (0, 0), b.1)] ++ alR k (b :: (r ++ [z, t])) := by
          match r with
          | [] => show alR k (a :: b :: z :: [t]) = _; rw [alR_more, if_pos ha]; unfold mkE; rw [if_pos hb]; rfl
          | d :: r' => show alR k (a :: b :: d :: (r' ++ [z, t])) = _; rw [alR_more, if_pos ha]; unfold mkE; rw [if_pos hb]; rfl
        rw [e2]
        show _ :: alR k ((b :: r) ++ [z, t]) = _
        rw [e]
        rfl
      · match r, hn, hT, hh with
        | [], _, _, _ =>
          show alR k (a :: b :: z :: [t]) = eds k (a :: b :: z :: [])
          rw [alR_more, if_pos ha, alR_more, if_neg hb, alR_two, eds_quad k a b z [] hb, eds_one]
          unfold mkE
          rw [if_neg hb]
          rfl
        | d :: r', hn, hT, _ =>
          have hd : d.2 = true := by
            rcases hT.2.1 with h | h
            · exact absurd h hb
            · exact h
          have e := ih (d :: r') (by simp at hn ⊢; omega) hT.2.2 (fun a' r' h => by injection h with h _; rw [← h]; exact hd)
          show alR k (a :: b :: d :: (r' ++ [z, t])) = eds k (a :: b :: d :: (r' ++ [z]))
          rw [alR_more, if_pos ha, eds_quad k a b d _ hb]
          have e2 : alR k (b :: d :: (r' ++ [z, t])) = alR k (d :: (r' ++ [z, t])) := by
            match r' with
            | [] => show alR k (b :: d :: z :: [t]) = _; rw [alR_more, if_neg hb]; rfl
            | x :: r'' => show alR k (b :: d :: x :: (r'' ++ [z, t])) = _; rw [alR_more, if_neg hb]; rfl
          rw [e2]
          show mkE k a b d :: alR k ((d :: r') ++ [z, t]) = _
          rw [e]
          unfold mkE
          rw [if_neg hb]
          rfl
end N16
theorem noT_cons (a b : Nod) (r : List Nod) (h : a.2 = true ∨ b.2 = true) (h2 : noT (b :: r)) : noT (a :: b :: r) := ⟨h, h2⟩
theorem wyR_noT (px : Int) : ∀ (q : Pt) (X : List Pt), noT (wyR px q X) ∧ ∀ a r, wyR px q X = a :: r → q.2.2 = true ∨ a.2 = true
  | _, [] => ⟨trivial, fun _ _ h => by cases h⟩
  | q, p :: r => by
    obtain ⟨h1, h2⟩ := wyR_noT px p r
    have hn : noT (ndN px p :: wyR px p r) := by
      match h : wyR px p r with
      | [] => exact trivial
      | x :: s => rw [h] at h1; exact noT_cons _ _ _ (h2 x s h) h1
    by_cases c : p.2.2 = false ∧ q.2.2 = false
    · have e : wyR px q (p :: r) = mdN px p q :: ndN px p :: wyR px p r := by show (if _ then _ else _) ++ _ = _; rw [if_pos c]; rfl
      rw [e]
      exact ⟨noT_cons _ _ _ (.inl rfl) hn, fun a s h => by injection h with h _; rw [← h]; exact .inr rfl⟩
    · have e : wyR px q (p :: r) = ndN px p :: wyR px p r := by show (if _ then _ else _) ++ _ = _; rw [if_neg c]; rfl
      rw [e]
      refine ⟨hn, fun a s h => ?_⟩
      injection h with h _
      rw [← h]
      show q.2.2 = true ∨ p.2.2 = true
      rcases hq : q.2.2 with _ | _
      · right
        rcases hp : p.2.2 with _ | _
        · exact absurd ⟨hp, hq⟩ c
        · rfl
      · left; rfl
def ring (l : List Nod) : List Nod := l ++ [l.getD 0 ((0, 0), false), l.getD (1 % l.length) ((0, 0), false)]
theorem noT_snoc : ∀ (l : List Nod) (z : Nod), noT l → z.2 = true → noT (l ++ [z])
  | [], _, _, _ => trivial
  | [_], _, _, hz => ⟨.inr hz, trivial⟩
  | _ :: b :: r, z, h, hz => ⟨h.1, noT_snoc (b :: r) z h.2 hz⟩
namespace N16
theorem ring_eds (px k : Int) (L : List Pt) (h1 : 1 ≤ L.length) : alR k (ring (way px L)) = eds k (way px L ++ (way px L).take 1) := by
  obtain ⟨z, R, hz, hzo⟩ := way_head px L h1
  have hT : noT (way px L) := by
    by_cases hc : ∃ p ∈ L, p.2.2 = true
    · obtain ⟨X, y, Z, rfl, hy, hX⟩ := first_on L hc
      rw [way_on px X Z y hy hX]
      have e := wyR_app px (lstD (lstD y Z) X) (y :: Z) X
      rw [show lstD (lstD (lstD y Z) X) (y :: Z) = lstD y Z from rfl] at e
      rw [← e]
      exact (wyR_noT px _ _).1
    · unfold way beg
      rw [bgR_off _ _ _ fun p hp => by
        cases h : p.2.2
        · rfl
        · exact absurd ⟨p, hp, h⟩ hc]
      show noT ((way0 px L).drop 0 ++ (way0 px L).take 0)
      rw [List.drop_zero, List.take_zero, List.append_nil]
      exact (wyR_noT px _ _).1
  have hN := noT_snoc (way px L) z hT hzo
  have e0 : (way px L).getD 0 ((0, 0), false) = z := by rw [hz]; rfl
  have et : (way px L).take 1 = [z] := by rw [hz]; rfl
  unfold ring
  rw [e0, et]
  exact alR_eds k z _ hzo _ _ (Nat.le_refl _) hN (fun a r h => by rw [hz] at h; injection h with h _; rw [← h]; exact hzo)
end N16
end Go.Proofs.YtfhaloclbbmbeaaGreat
namespace Go.Proofs.YtfhaloclbbmbeaaGreat
open Go.RowKit
theorem Tryz.info53z : (Tryz.prog.info? 269).map (fun i => (i.zero, i.size, i.bytes)) = some (some (.agg #[.int .i64 0, .int .i64 0, .bool false]), 3, 24) := by kernel_rfl
theorem beg_of {L : List Pt} {z : Int} (h : FstI L z) : ∃ b : Nat, Beg L b ∧ ((z = (b : Int)) ∨ (z = -1 ∧ b = 0)) := by
  rcases h with ⟨k, hk, rfl, ho, hX⟩ | ⟨rfl, hX⟩
  · exact ⟨k, .inl ⟨hk, ho, hX⟩, .inl rfl⟩
  · exact ⟨0, .inr ⟨rfl, hX⟩, .inr ⟨rfl, rfl⟩⟩
theorem Beg.lt {L : List Pt} {b : Nat} (h : Beg L b) (h1 : 1 ≤ L.length) : b < L.length := by
  rcases h with ⟨h, _⟩ | ⟨rfl, _⟩
  · exact h
  · omega
theorem dbl_eq (px x : Int) : (x + x) * px = 2 * px * x := by
  rw [← Int.two_mul, Int.mul_assoc, Int.mul_comm x px, Int.mul_assoc]
theorem two_p (w : World) (p q : Pt) : Ppt ((w.alloc (.cells #[.int .i64 p.1, .int .i64 p.2.1, .bool p.2.2] 75)).alloc (.cells #[.int .i64 q.1, .int .i64 q.2.1, .bool q.2.2] 75)).drew w.heap.size p ∧ Ppt ((w.alloc (.cells #[.int .i64 p.1, .int .i64 p.2.1, .bool p.2.2] 75)).alloc (.cells #[.int .i64 q.1, .int .i64 q.2.1, .bool q.2.2] 75)).drew (w.heap.size + 1) q ∧ Below w.heap.size w ((w.alloc (.cells #[.int .i64 p.1, .int .i64 p.2.1, .bool p.2.2] 75)).alloc (.cells #[.int .i64 q.1, .int .i64 q.2.1, .bool q.2.2] 75)).drew := by
  refine ⟨Ppt.bel (Ppt.bel (Ppt.new w p) ((Below.refl _ _).alloc (Nat.le_refl _) _)) (Below.drew (Below.refl _ _)), ?_, Below.drew (((Below.refl _ _).alloc (Nat.le_refl _) _).alloc (by simp) _)⟩
  have h := Ppt.bel (Ppt.new (w.alloc (.cells #[.int .i64 p.1, .int .i64 p.2.1, .bool p.2.2] 75)) q) (Below.drew (Below.refl _ _))
  rw [size_a] at h
  exact h
theorem Ppt.grownS {W W' : World} {b : Nat} {p : Pt} (h : Ppt W b p) {base n : Nat} {v : Value} {xs : List Value} (ho : W.ownsRow base 269 3 v n xs) (hg : W.grownBy W' v.ownBlock) : Ppt W' b p := (hg.block b (heap_lt h) (own_not ho h (by decide))).trans h
structure NdS (w W : World) (v : Value) (n : Nat) (l : List Nod) : Prop where
  own : W.ownsRow w.heap.size 269 3 v n (ndC l)
  bel : Below w.heap.size w W
theorem NdS.next {w W W' : World} {v : Value} {n : Nat} {l : List Nod} (h : NdS w W v n l) (hb : Below W.heap.size W W') : NdS w W' v n l := ⟨own_bel h.own hb, h.bel.trans (hb.mono h.bel.size)⟩
theorem NdS.push {w W W' : World} {v v' : Value} {n : Nat} {l : List Nod} {e : Nod} (h : NdS w W v n l) (h1 : W'.ownsRow w.heap.size 269 3 v' (n + 1) (ndC l ++ [.int .i64 e.1.1, .int .i64 e.1.2, .bool e.2])) (h2 : W.grownBy W' v.ownBlock) : NdS w W' v' (n + 1) (l ++ [e]) :=
  ⟨by rw [ndC_app]; exact h1, below_grown h.bel h.own h2⟩
theorem step_nd0 {ops : Array Oper} {o : Oper} {a : Act} {K : Act → World → Prop} {Q : Exit → Act → World → Prop} {E0 : Prop} {wr : World} (hgd : o.guard = none) (s x : Operand)
    (ho : o.op = .call { callee := .builtin .append, args := #[s, x], argTypes := #[199, 199] }) (w : World) (v : Value) (n : Nat) (l : List Nod) (e1 e2 : Int) (e3 : Bool) (hs : a.eval s = v)
    (hown : NdS w wr v n l) (hn : n ≤ 1000000) (hx : a.eval x = .slice (some ⟨wr.heap.size, 0, none⟩) 1 1)
    (h : ∀ A c w', NdS w w' (.slice A (n + 1) c) (n + 1) (l ++ [((e1, e2), e3)]) → K (a.put o.dst (.slice A (n + 1) c)) w') :
    if Region.wanted o (yielded ops a.tmps) = true then Oper.wp Tryz.prog o a (wr.alloc (.cells #[.int .i64 e1, .int .i64 e2, .bool e3] 269)) K Q else E0 := by
  have hw : Region.wanted o (yielded ops a.tmps) = true := by simp [Region.wanted, hgd]
  rw [if_pos hw]
  obtain ⟨i0, hi0, hz0, hz1, hz2⟩ := info_parts Tryz.info53z
  have hA := hown.next ((Below.refl wr.heap.size wr).alloc (Nat.le_refl _) (.cells #[.int .i64 e1, .int .i64 e2, .bool e3] 269))
  refine wp_append_own _ s x 199 ho w.heap.size 269 i0 _ 3 24 Tryz.underlying199 hi0 hz0 hz1 hz2 rfl (by decide) v n (ndC l) hs hA.own ⟨wr.heap.size, 0, none⟩ 1 1 [.int .i64 e1, .int .i64 e2, .bool e3] hx rfl (cells_new _ _ _) (by intro u hu; simp at hu; rcases hu with rfl | rfl | rfl <;> rfl) ?_ ?_ ?_ ?_
  · unfold maxLen; omega
  · omega
  · exact hA.bel.size
  · intro v' w' h1 h2 _
    have h3 := hA.push (e := ((e1, e2), e3)) h1 h2
    obtain ⟨A, c, rfl⟩ := own_form h1
    exact h A c w' h3
theorem step_nd {ops : Array Oper} {o : Oper} {a : Act} {K : Act → World → Prop} {Q : Exit → Act → World → Prop} {E0 : Prop} {wr : World} (hgd : o.guard = none) (s x : Operand)
    (ho : o.op = .call { callee := .builtin .append, args := #[s, x], argTypes := #[199, 199] }) (w : World) (v : Value) (n : Nat) (l : List Nod) (e1 e2 : Int) (e3 : Bool) (hs : a.eval s = v)
    (hown : NdS w wr v n l) (hn : n ≤ 1000000) (hx : a.eval x = .slice (some ⟨wr.heap.size, 0, none⟩) 1 1)
    (h : ∀ A c w', NdS w w' (.slice A (n + 1) c) (n + 1) (l ++ [((e1, e2), e3)]) → K (a.put o.dst (.slice A (n + 1) c)) w') :
    if Region.wanted o (yielded ops a.tmps) = true then Oper.wp Tryz.prog o a (wr.alloc (.cells #[.int .i64 e1, .int .i64 e2, .bool e3] 269)).drew K Q else E0 :=
  step_nd0 (wr := wr.drew) hgd s x ho w v n l e1 e2 e3 hs (hown.next (Below.drew (Below.refl _ _))) hn hx h
namespace N16
set_option maxHeartbeats 8000000 in
set_option maxRecDepth 100000 in
theorem wayOf_any (A : Option Addr) (m c : Nat) (px : Int) (L : List Pt) (w : World) (hL : Ptl w A m L) (h1 : 1 ≤ m) (hm : m ≤ 5000) (hp : 1 ≤ px ∧ px ≤ 128) (hu : ∀ i, i < m → okU (pq L i).1 ∧ okU (pq L i).2.1) :
    Calls Tryz.prog 126 #[.slice A m c, .int .i64 px] w fun e w' => ∃ A' c', e = .returned (.slice A' (way px L).length c') ∧ w'.ownsRow w.heap.size 269 3 (.slice A' (way px L).length c') (way px L).length (ndC (way px L)) ∧ Below w.heap.size w w' := by
  have hlen := hL.len
  have HLen := Lib.hid hlen
  have HL := Lib.hid hL
  have HU := Lib.hid hu
  have CI := Lib.hid (index_any A m c L w hL (by omega))
  have HWY := Lib.hid (fun b (h : Beg L b) => way_rot px L b h)
  obtain ⟨i0, hi0, hz0, hz1, hz2⟩ := info_parts Tryz.info53z
  have H53 := Lib.hid (And.intro hi0 (And.intro hz0 (And.intro hz1 hz2)))
  have HP := Lib.hid hp
  clear hL hu hi0 hz0 hz1 hz2 hlen hp
  go_enter Tryz.func126, Tryz.ntmps126
  go_upto_region 1 with fail
  go_cut [5] from 11 to 13 (fun bv wx => ∃ b : Nat, bv = .int .i64 (b : Int) ∧ Beg L b ∧ Below w.heap.size w wx)
  case first =>
    go_wp2_with (go_at_call 194; (with_reducible refine CI.out.mono ?_); rintro e w1 ⟨z, rfl, hF, hb⟩; have HF := Lib.hid hF; have HB := Lib.hid hb; clear hF hb)
    all_goals
      obtain ⟨b, hB, hz⟩ := beg_of HF.out
      go_meet
      exact ⟨b, by congr 1; rcases hz with hz | ⟨hz, hb⟩ <;> omega, hB, HB.out⟩
  case rest =>
    obtain ⟨b, rfl, hB, hb⟩ := hcut
    have hbm := hB.lt (by rw [HLen.out]; exact h1)
    rw [HLen.out] at hbm
    have HB0 := Lib.hid hb
    have HR := Lib.hid (HWY.out b hB)
    obtain ⟨R, hRe⟩ : ∃ R, R = rot L b := ⟨_, rfl⟩
    have HRe := Lib.hid hRe
    have HRl := Lib.hid (show R.length = m from by rw [hRe, rot_len, HLen.out])
    have HRq := Lib.hid (show ∀ i, i < m → pq R i = pq L ((b + i) % m) from fun i hi => by rw [hRe, rot_pq (by rw [HLen.out]; exact hbm) (by rw [HLen.out]; exact hi), HLen.out])
    rw [← hRe] at HR
    obtain ⟨q0, hq0⟩ : ∃ q, q = lstD (0, 0, false) R := ⟨_, rfl⟩
    have HQ0 := Lib.hid hq0
    clear hRe hq0 hB hb
    go_upto_region 3 with fail
    go_wp2_with fail
    go_loopw [7, 17] (fun v i wr => ∃ (k kn : Nat) (A' : Option Addr) (c' : Nat) (l : List Nod), i = .int .i64 (k : Int) ∧ k ≤ m ∧ v = .slice A' kn c' ∧ l = wyR px q0 (R.take k) ∧ l.length = kn ∧ kn ≤ 2 * k ∧ wr.ownsRow w.heap.size 269 3 (.slice A' kn c') kn (ndC l) ∧ Below w.heap.size w wr) (fun _ i _ => m - (intOf i).toNat)
    case atStart => exact ⟨0, 0, none, 0, [], rfl, Nat.zero_le _, rfl, rfl, rfl, Nat.le_refl _, World.ownsRow_nil _ _ _ _, HB0.out⟩
    case round =>
      obtain ⟨k, kn, A', c', l, rfl, hk, rfl, hl, hkn, hk2, ho, hb⟩ := hrel
      have HB := Lib.hid hb
      have HO := Lib.hid ho
      by_cases hgo : k < m
      · have hsn := wyR_snoc px R k (by rw [HRl.out]; exact hgo)
        have hpv := prv_eq R k (by rw [HRl.out]; exact hgo)
        rw [HRl.out, HRq.out _ (Nat.mod_lt _ (by omega))] at hpv
        have hpk := HRq.out k hgo
        obtain ⟨j1, hj1⟩ : ∃ j, j = (b + k + m - 1) % m := ⟨_, rfl⟩
        obtain ⟨j2, hj2⟩ : ∃ j, j = (b + k) % m := ⟨_, rfl⟩
        have hj1m : j1 < m := by rw [hj1]; exact Nat.mod_lt _ (by omega)
        have hj2m : j2 < m := by rw [hj2]; exact Nat.mod_lt _ (by omega)
        rw [Nat.add_mod_mod, show b + (k + m - 1) = b + k + m - 1 by omega, ← hj1] at hpv
        rw [← hj2] at hpk
        obtain ⟨ad, hA, c0, c1, c2⟩ := HL.out.at_ hb hj2m
        subst hA
        obtain ⟨ad2, hA, d0, d1, d2⟩ := HL.out.at_ hb hj1m
        injection hA with hA
        subst hA
        have w0 : IntKind.i64.wrap ((b : Int) + (k : Int)) = (b : Int) + (k : Int) := i64_in _ (by omega)
        have w1 : IntKind.i64.wrap ((b : Int) + (k : Int) + (m : Int)) = (b : Int) + (k : Int) + (m : Int) := i64_in _ (by omega)
        have w2 : IntKind.i64.wrap ((b : Int) + (k : Int) + (m : Int) - 1) = (b : Int) + (k : Int) + (m : Int) - 1 := i64_in _ (by omega)
        have w3 : ((b : Int) + (k : Int) + (m : Int) - 1).tmod (m : Int) = (j1 : Int) := by
          rw [Int.tmod_eq_emod_of_nonneg (by omega), hj1]
          have : ((b : Int) + (k : Int) + (m : Int) - 1) = ((b + k + m - 1 : Nat) : Int) := by omega
          rw [this]
          exact (Int.natCast_emod _ _).symm
        have w4 : IntKind.i64.wrap (j1 : Int) = (j1 : Int) := i64_in _ (by omega)
        have w3' : ((b : Int) + (k : Int)).tmod (m : Int) = (j2 : Int) := by
          rw [Int.tmod_eq_emod_of_nonneg (by omega), hj2]
          have : ((b : Int) + (k : Int)) = ((b + k : Nat) : Int) := by omega
          rw [this]
          exact (Int.natCast_emod _ _).symm
        have w4' : IntKind.i64.wrap (j2 : Int) = (j2 : Int) := i64_in _ (by omega)
        have w5 : ((m : Int) == 0) = false := by simp; omega
        have g1 : (0 : Int) ≤ (j1 : Int) := by omega
        have g2 : (j1 : Int) < (m : Int) := by omega
        have g3 : (0 : Int) ≤ (j2 : Int) := by omega
        have g4 : (j2 : Int) < (m : Int) := by omega
        rw [hpv, hpk, ← HQ0.out, ← hl] at hsn
        have ep : ∀ i, Go.Proofs.YtfhaloclbbmbeaaGreat.px L i = (pq L i).1 ∧ py L i = (pq L i).2.1 ∧ po L i = (pq L i).2.2 := fun i => ⟨rfl, rfl, rfl⟩
        rw [(ep j2).1] at c0
        rw [(ep j2).2.1] at c1
        rw [(ep j2).2.2] at c2
        rw [(ep j1).1] at d0
        rw [(ep j1).2.1] at d1
        rw [(ep j1).2.2] at d2
        have u1 := HU.out j2 hj2m
        have u2 := HU.out j1 hj1m
        obtain ⟨p, hp⟩ : ∃ p, p = pq L j2 := ⟨_, rfl⟩
        obtain ⟨q, hq⟩ : ∃ p, p = pq L j1 := ⟨_, rfl⟩
        rw [← hp] at c0 c1 c2 u1 hsn
        rw [← hq] at d0 d1 d2 u2 hsn
        obtain ⟨x, y, o⟩ := p
        obtain ⟨qx, qy, qo⟩ := q
        dsimp only at c0 c1 c2 d0 d1 d2 u1 u2
        have hm0 : ¬ m = 0 := by omega
        have hZ : ∀ o1 o2, Below wr.heap.size wr ((wr.alloc o1).alloc o2).drew := fun o1 o2 => Below.drew (((Below.refl _ _).alloc (Nat.le_refl _) o1).alloc (by simp) o2)
        have c0' := fun o1 o2 => ((hZ o1 o2).cell (cell_lt2 c0)).trans c0
        have c1' := fun o1 o2 => ((hZ o1 o2).cell (cell_lt2 c1)).trans c1
        have c2' := fun o1 o2 => ((hZ o1 o2).cell (cell_lt2 c2)).trans c2
        have d0' := fun o1 o2 => ((hZ o1 o2).cell (cell_lt2 d0)).trans d0
        have d1' := fun o1 o2 => ((hZ o1 o2).cell (cell_lt2 d1)).trans d1
        have d2' := fun o1 o2 => ((hZ o1 o2).cell (cell_lt2 d2)).trans d2
        have hY : ∀ o1, Below wr.heap.size wr (wr.alloc o1).drew := fun o1 => Below.drew ((Below.refl _ _).alloc (Nat.le_refl _) o1)
        have c0'' := fun o1 => ((hY o1).cell (cell_lt2 c0)).trans c0
        have c1'' := fun o1 => ((hY o1).cell (cell_lt2 c1)).trans c1
        have c2'' := fun o1 => ((hY o1).cell (cell_lt2 c2)).trans c2
        have d0'' := fun o1 => ((hY o1).cell (cell_lt2 d0)).trans d0
        have d1'' := fun o1 => ((hY o1).cell (cell_lt2 d1)).trans d1
        have d2'' := fun o1 => ((hY o1).cell (cell_lt2 d2)).trans d2
        have HU1 := Lib.hid u1
        have HU2 := Lib.hid u2
        have HSn := Lib.hid hsn
        have HKn := Lib.hid (And.intro hkn hk2)
        clear hpv hpk hsn hj1 hj2 hp hq hl ho hb ep u1 u2 hkn hk2 hZ hY
        go_upto_region 7 with fail
        go_cut [9, 10] from 18 to 65 (fun v9 v10 wx => ∃ b9 b10, v9 = .pointer (some ⟨b9, 0, none⟩) ∧ v10 = .pointer (some ⟨b10, 0, none⟩) ∧ Ppt wx b9 (qx, qy, qo) ∧ Ppt wx b10 (x, y, o) ∧ Below wr.heap.size wr wx)
        case first =>
          go_region
          · go_wp2_with fail
            go_meet
            exact ⟨_, _, rfl, rfl, (two_p wr (qx, qy, qo) (x, y, o)).1, (two_p wr (qx, qy, qo) (x, y, o)).2.1, (two_p wr (qx, qy, qo) (x, y, o)).2.2⟩
          · go_wp2_with fail
            go_meet
            exact ⟨_, _, rfl, rfl, (two_p wr (x, y, o) (qx, qy, qo)).2.1, (two_p wr (x, y, o) (qx, qy, qo)).1, (two_p wr (x, y, o) (qx, qy, qo)).2.2⟩
        case rest =>
          obtain ⟨b9, b10, rfl, rfl, hP9, hP10, hbw⟩ := hcut
          have HSw := Lib.hid (NdS.next ⟨HO.out, HB.out⟩ hbw)
          obtain ⟨c0, c1, c2⟩ := hP10.cells
          obtain ⟨d0, d1, d2⟩ := hP9.cells
          dsimp only at c0 c1 c2 d0 d1 d2
          have HP10 := Lib.hid hP10
          have CM := Lib.hid (fun W => show Calls Tryz.prog 196 #[.agg #[.int .i64 qx, .int .i64 qy, .bool qo], .agg #[.int .i64 x, .int .i64 y, .bool o], .int .i64 px] W fun e w' => e = .returned (.agg #[.int .i64 (px * (x + qx)), .int .i64 (px * (y + qy))]) ∧ Below W.heap.size W w' from by
            have h := middle_any qx qy x y px qo o W HP.out HU2.out.1 HU2.out.2 HU1.out.1 HU1.out.2
            rw [Int.mul_comm _ px, Int.mul_comm _ px, Int.add_comm qx, Int.add_comm qy] at h
            exact h)
          have CN := Lib.hid (fun W => show Calls Tryz.prog 196 #[.agg #[.int .i64 x, .int .i64 y, .bool o], .agg #[.int .i64 x, .int .i64 y, .bool o], .int .i64 px] W fun e w' => e = .returned (.agg #[.int .i64 (2 * px * x), .int .i64 (2 * px * y)]) ∧ Below W.heap.size W w' from by
            have h := middle_any x y x y px o o W HP.out HU1.out.1 HU1.out.2 HU1.out.1 HU1.out.2
            rw [dbl_eq, dbl_eq] at h
            exact h)
          clear hP9 hP10 hbw
          go_upto_region 8 with fail
          go_cut [17, 46] from 18 to 65 (fun v17 v46 wx => v17 = .int .i64 (k : Int) ∧ (∃ g, v46 = .bool g ∧ g = (!qo && !o)) ∧ wx = wc)
          case first =>
            cases qo with
            | true =>
              go_wp2_with fail
              go_meet
              exact ⟨rfl, ⟨_, rfl, rfl⟩, rfl⟩
            | false =>
              cases o with
              | true =>
                go_wp2_with fail
                go_meet
                exact ⟨rfl, ⟨_, rfl, rfl⟩, rfl⟩
              | false =>
                go_wp2_with fail
                go_meet
                exact ⟨rfl, ⟨_, rfl, rfl⟩, rfl⟩
          case rest =>
          obtain ⟨rfl, ⟨g, rfl, hg⟩, rfl⟩ := hcut
          have HG := Lib.hid hg
          clear hg
          go_upto_if 46 with fail
          go_cut [7, 17] from 18 to 65 (fun v v17 wx => v17 = .int .i64 (k : Int) ∧ ∃ (A2 : Option Addr) (c2 n2 : Nat) (l2 : List Nod), v = .slice A2 n2 c2 ∧ l2 = l ++ (if o = false ∧ qo = false then [mdN px (x, y, o) (qx, qy, qo)] else []) ∧ l2.length = n2 ∧ n2 ≤ kn + 1 ∧ NdS w wx (.slice A2 n2 c2) n2 l2 ∧ Ppt wx b10 (x, y, o))
          case first =>
            cases qo with
            | true =>
              obtain rfl : g = false := by rw [HG.out]; rfl
              go_wp2_with fail
              go_meet
              exact ⟨rfl, A', c', kn, l, rfl, by rw [if_neg (fun h => by cases h.2)]; simp, HKn.out.1, by omega, HSw.out, HP10.out⟩
            | false =>
              cases o with
              | true =>
                obtain rfl : g = false := by rw [HG.out]; rfl
                go_wp2_with fail
                go_meet
                exact ⟨rfl, A', c', kn, l, rfl, by rw [if_neg (fun h => by cases h.1)]; simp, HKn.out.1, by omega, HSw.out, HP10.out⟩
              | false =>
                obtain rfl : g = true := by rw [HG.out]; rfl
                have hkn := HKn.out
                go_wp2_with (first
                  | (go_at_call 196; (with_reducible refine (CM.out _).mono ?_); rintro e w5 ⟨rfl, hb⟩; have HS5 := Lib.hid ((HSw.out.next hb).next ((Below.refl _ _).alloc (Nat.le_refl _) (.cells #[.int .i64 (px * (x + qx)), .int .i64 (px * (y + qy)), .bool true] 269))); have HQ5 := Lib.hid ((HP10.out.bel hb).bel ((Below.refl _ _).alloc (Nat.le_refl _) (.cells #[.int .i64 (px * (x + qx)), .int .i64 (px * (y + qy)), .bool true] 269))); clear hb)
                  | (at_builtin; go_must (refine wpList_append_own _ rfl (.tmp 47) (.tmp 53) 199 rfl w.heap.size 269 i0 _ 3 24 Tryz.underlying199 H53.out.1 H53.out.2.1 H53.out.2.2.1 H53.out.2.2.2 rfl (by decide) (.slice A' kn c') kn (ndC l) rfl HS5.out.own ⟨w5.heap.size, 0, none⟩ 1 1 [.int .i64 (px * (x + qx)), .int .i64 (px * (y + qy)), .bool true] rfl rfl (cells_new _ _ _) (by intro u hu; simp at hu; rcases hu with rfl | rfl | rfl <;> rfl) (by unfold maxLen; omega) (by omega) HS5.out.bel.size ?_); intro v' w7 hown' hg' _; have HS7 := Lib.hid (HS5.out.push (e := ((px * (x + qx), px * (y + qy)), true)) hown' hg'); have HQ7 := Lib.hid (HQ5.out.grownS HS5.out.own hg'); obtain ⟨A7, c7, rfl⟩ := own_form hown'; clear hown' hg'))
                go_meet
                exact ⟨rfl, A7, c7, kn + 1, l ++ [mdN px (x, y, false) (qx, qy, false)], rfl, by simp, by rw [List.length_append, HKn.out.1]; rfl, by omega, HS7.out, HQ7.out⟩
          case rest =>
            obtain ⟨rfl, A2, c3, n2, l2, rfl, hl2, hn2, hn3, hS, hQ⟩ := hcut
            have HS := Lib.hid hS
            have HQ := Lib.hid hQ
            clear c0 c1 c2 d0 d1 d2
            obtain ⟨c0, c1, c2⟩ := hQ.cells
            dsimp only at c0 c1 c2
            have HL2 := Lib.hid hl2
            have HN2 := Lib.hid hn2
            have hkn := HKn.out.2
            have hn20 : n2 ≤ 1000000 := by omega
            clear hS hQ hl2 hn2
            go_wp2_with fail
            go_region_law (first
              | (refine step_nd0 rfl (.tmp 55) (.tmp 63) rfl w (.slice A2 n2 c3) n2 l2 (2 * px * x) (2 * px * y) o rfl HS5.out hn20 rfl ?_; intro A7 c7 w7 hS'; have HS7 := Lib.hid hS'; clear hS')
              | (refine step_nd rfl (.tmp 55) (.tmp 63) rfl w (.slice A2 n2 c3) n2 l2 (2 * px * x) (2 * px * y) o rfl HS5.out hn20 rfl ?_; intro A7 c7 w7 hS'; have HS7 := Lib.hid hS'; clear hS')
              | (go_simp; go_at_call 196; (with_reducible refine (CN.out _).mono ?_); rintro e w5 ⟨rfl, hb⟩; have HS5 := Lib.hid (HS.out.next ((Below.drew (Below.refl _ _)).trans hb)); obtain ⟨e0, e1, e2⟩ := ((HQ.out.bel (Below.drew (Below.refl _ _))).bel hb).cells; dsimp only at e0 e1 e2; clear hb)
              | (go_simp; go_at_call 196; (with_reducible refine (CN.out _).mono ?_); rintro e w5 ⟨rfl, hb⟩; have HS5 := Lib.hid (HS.out.next hb); obtain ⟨e0, e1, e2⟩ := (HQ.out.bel hb).cells; dsimp only at e0 e1 e2; clear hb))
            all_goals
              go_wp2_with fail
              exact ⟨⟨k + 1, n2 + 1, A7, c7, l2 ++ [ndN px (x, y, o)], by simp, by omega, rfl, by rw [HSn.out, HL2.out, List.append_assoc], by rw [List.length_append, HN2.out]; rfl, by omega, HS7.out.own, HS7.out.bel⟩, by simp [intOf]; omega⟩
      · obtain rfl : k = m := by omega
        have hw0 : l = way px L := by rw [hl, HQ0.out, List.take_of_length_le (by rw [HRl.out]; exact Nat.le_refl _)]; exact HR.out
        have HKn := Lib.hid hkn
        have HW0 := Lib.hid hw0
        clear hl ho hb hw0
        go_wp2_with fail
        go_ret
        have h := HO.out
        have hk9 := HKn.out
        rw [HW0.out] at h hk9
        subst hk9
        exact ⟨A', c', rfl, h, HB.out⟩
end N16
end Go.Proofs.YtfhaloclbbmbeaaGreat
namespace Go.Proofs.YtfhaloclbbmbeaaGreat
open Go.RowKit
set_option maxHeartbeats 4000000 in
set_option maxRecDepth 100000 in
theorem dot_any (k : Int) (q : Bool) (ax ay bx by_ cx cy : Int) (w : World) : Calls Tryz.prog 193 #[.agg #[.int .i64 k, .bool q, .int .i64 ax, .int .i64 ay, .int .i64 bx, .int .i64 by_, .int .i64 cx, .int .i64 cy]] w fun e w' => e = .returned (.bool (decide (smE (k, q, (ax, ay), (bx, by_), (cx, cy))))) ∧ Below w.heap.size w w' := by
  obtain ⟨c0, c1, c2, c3, c4, c5, c6, c7⟩ := (Ebx.new w (k, q, (ax, ay), (bx, by_), (cx, cy))).cells
  go_enter Tryz.func193, Tryz.ntmps193
  go_wp2_with fail
  all_goals
    clear c0 c1 c2 c3 c4 c5 c6 c7
    go_ret
    exact ⟨by simp_all [smE, eq_comm], (Below.refl _ _).alloc (Nat.le_refl _) _⟩
end Go.Proofs.YtfhaloclbbmbeaaGreat
