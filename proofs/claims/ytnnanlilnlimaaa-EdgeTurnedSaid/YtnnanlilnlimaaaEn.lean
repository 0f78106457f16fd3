/- Proved here: in which box edges are (the document's Box). Condition: edges that lie in memory. -/
import Derived.Test.YtnnanlilnlimaaaEm
import Derived.Deep.RegionLaw
namespace Go.Proofs.Ytnnanlilnlimaaa
open Go.RowKit

theorem below_st2 {B : Nat} {w W : World} {g j : Nat} {u : Value} (h : Below B w W) (hg : B ≤ g) : Below B w (W.setCell ⟨g, j, none⟩ u) := h.setCell (p := ⟨g, j, none⟩) hg u
/-- A point in a box. -/
def Pbx (W : World) (b : Nat) (p : P2) : Prop := W.heap[b]? = some (.cells #[.int .i64 p.1, .int .i64 p.2] 35 (0, 0))
section
variable {W W' : World} {b : Nat} {p : P2}
theorem Pbx.bel (h : Pbx W b p) (hb : Below W.heap.size W W') : Pbx W' b p := (hb.block b (heap_lt h)).trans h
theorem Pbx.onl (h : Pbx W b p) {g : Nat} (ho : Onl g W W') (hn : b ≠ g) : Pbx W' b p := (ho.block b (heap_lt h) hn).trans h
theorem Pbx.cells (h : Pbx W b p) : W.cell? ⟨b, 0, none⟩ = some (.int .i64 p.1) ∧ W.cell? ⟨b, 1, none⟩ = some (.int .i64 p.2) ∧ W.frozen? ⟨b, 0, none⟩ = false ∧ W.frozen? ⟨b, 1, none⟩ = false :=
  ⟨cell_of_row W b 0 _ 35 (0, 0) h, cell_of_row W b 1 _ 35 (0, 0) h, by unfold Pbx at h; simp [World.frozen?, h], by unfold Pbx at h; simp [World.frozen?, h]⟩
theorem Pbx.set (h : Pbx W b p) (q : P2) : Pbx ((W.setCell ⟨b, 0, none⟩ (.int .i64 q.1)).setCell ⟨b, 1, none⟩ (.int .i64 q.2)) b q := by
  unfold Pbx at h ⊢
  simp [World.setCell, Array.getElem?_modify, h]
theorem Pbx.new (W : World) (p : P2) : Pbx (W.alloc (.cells #[.int .i64 p.1, .int .i64 p.2] 35)) W.heap.size p := heap_alloc_new W _
end
/-- The boxes of the results, and of the least and the greatest so far. -/
structure BoS (w W : World) (b : Nat) (lo hi : P2) : Prop where
  bel : Below w.heap.size w W
  b2 : Pbx W b (0, 0)
  b3 : Pbx W (b + 1) (0, 0)
  b5 : Pbx W (b + 2) lo
  b6 : Pbx W (b + 3) hi
  ge : w.heap.size ≤ b
section
variable {w W W' : World} {b : Nat} {lo hi : P2}
theorem BoS.next (h : BoS w W b lo hi) (hb : Below W.heap.size W W') : BoS w W' b lo hi := ⟨h.bel.trans (hb.mono h.bel.size), h.b2.bel hb, h.b3.bel hb, h.b5.bel hb, h.b6.bel hb, h.ge⟩
theorem on2 (b : Nat) (W : World) (u v : Value) : Onl b W ((W.setCell ⟨b, 0, none⟩ u).setCell ⟨b, 1, none⟩ v) := (Onl.set b _ _ _).trans (Onl.set b _ _ _)
theorem BoS.setLo (h : BoS w W b lo hi) (q : P2) : BoS w ((W.setCell ⟨b + 2, 0, none⟩ (.int .i64 q.1)).setCell ⟨b + 2, 1, none⟩ (.int .i64 q.2)) b q hi :=
  ⟨below_st2 (below_st2 h.bel (by have := h.ge; omega)) (by have := h.ge; omega), h.b2.onl (on2 _ _ _ _) (by omega), h.b3.onl (on2 _ _ _ _) (by omega), h.b5.set q, h.b6.onl (on2 _ _ _ _) (by omega), h.ge⟩
theorem BoS.setHi (h : BoS w W b lo hi) (q : P2) : BoS w ((W.setCell ⟨b + 3, 0, none⟩ (.int .i64 q.1)).setCell ⟨b + 3, 1, none⟩ (.int .i64 q.2)) b lo q :=
  ⟨below_st2 (below_st2 h.bel (by have := h.ge; omega)) (by have := h.ge; omega), h.b2.onl (on2 _ _ _ _) (by omega), h.b3.onl (on2 _ _ _ _) (by omega), h.b5.onl (on2 _ _ _ _) (by omega), h.b6.set q, h.ge⟩
end
def pp (l : List P2) (i : Nat) : P2 := l.getD i (0, 0)
theorem pp_drop (l : List P2) (k : Nat) (h : k < l.length) : l.drop k = pp l k :: l.drop (k + 1) := by
  rw [List.drop_eq_getElem_cons h]
  congr 1
  simp [pp, h]
theorem p2C_get : ∀ (l : List P2) (i : Nat), i < l.length → (p2C l)[i * 2]? = some (.int .i64 (pp l i).1) ∧ (p2C l)[i * 2 + 1]? = some (.int .i64 (pp l i).2)
  | t :: L, 0, _ => ⟨rfl, rfl⟩
  | t :: L, i + 1, h => by
    have ih := p2C_get L i (by simp at h; omega)
    have e : p2C (t :: L) = .int .i64 t.1 :: .int .i64 t.2 :: p2C L := rfl
    rw [e, show (i + 1) * 2 = i * 2 + 2 by omega]
    exact ih
theorem ret_box3 {fn : Func} {p q u : Tmp} {tmps : Array Value} {W : World} {g h : Nat} {a b : P2} {v : Value} (hf : fn.results = #[.cell p 35, .cell q 35, .tmp u]) (hp : tmps.getD p undef = .pointer (some ⟨g, 0, none⟩)) (hq : tmps.getD q undef = .pointer (some ⟨h, 0, none⟩)) (hv : tmps.getD u undef = v) (ha : Pbx W g a) (hb : Pbx W h b) :
    (results fn tmps).run Try.prog W = .ok (.tuple #[.agg #[.int .i64 a.1, .int .i64 a.2], .agg #[.int .i64 b.1, .int .i64 b.2], v]) W := by
  obtain ⟨c0, c1, _, _⟩ := ha.cells
  obtain ⟨d0, d1, _, _⟩ := hb.cells
  rw [Array.getD_eq_getD_getElem?] at hp hq hv
  simp [results, hf, hp, hq, hv, go_sem, c0, c1, d0, d1]
/-- What Box answers, over memory. -/
def BoP (R : P2 × P2 × Bool) (w : World) (e : Ending) (w' : World) : Prop := e = .returned (.tuple #[.agg #[.int .i64 R.1.1, .int .i64 R.1.2], .agg #[.int .i64 R.2.1.1, .int .i64 R.2.1.2], .bool R.2.2]) ∧ Below w.heap.size w w'
set_option maxHeartbeats 8000000 in
set_option maxRecDepth 100000 in
theorem rbox_any (A : Option Addr) (m c : Nat) (L : List Edg) (w : World) (hL : Edl w A m L) (hm : m ≤ 100000) :
    Calls Try.prog 14 #[.slice A m c] w (BoP (boxP L) w) := by
  have hlen := hL.len
  have hB1 : Below w.heap.size w (w.alloc (.cells #[.int .i64 0, .int .i64 0] 35)) := (Below.refl _ _).alloc (Nat.le_refl _) _
  have hB2 : Below w.heap.size w ((w.alloc (.cells #[.int .i64 0, .int .i64 0] 35)).alloc (.cells #[.int .i64 0, .int .i64 0] 35)) := hB1.alloc (by simp) _
  have h2 : Pbx ((w.alloc (.cells #[.int .i64 0, .int .i64 0] 35)).alloc (.cells #[.int .i64 0, .int .i64 0] 35)) w.heap.size (0, 0) := (Pbx.new w (0, 0)).bel ((Below.refl _ _).alloc (Nat.le_refl _) _)
  have h3 : Pbx ((w.alloc (.cells #[.int .i64 0, .int .i64 0] 35)).alloc (.cells #[.int .i64 0, .int .i64 0] 35)) (w.heap.size + 1) (0, 0) := by
    have h := Pbx.new (w.alloc (.cells #[.int .i64 0, .int .i64 0] 35)) (0, 0)
    rw [size_a] at h
    exact h
  have H2 := Lib.hid (And.intro h2 (And.intro h3 hB2))
  by_cases h0 : m = 0
  · subst h0
    have HX := Lib.hid (show boxP L = ((0, 0), (0, 0), false) from by rw [List.length_eq_zero_iff.1 hlen]; rfl)
    obtain ⟨c0, c1, c2, c3⟩ := h2.cells
    obtain ⟨d0, d1, d2, d3⟩ := h3.cells
    dsimp only at c0 c1 d0 d1
    clear hL hlen hB1 hB2 h2 h3
    go_enter Try.func14, Try.ntmps14
    go_upto_region 2 with fail
    obtain ⟨W2, hW2⟩ : ∃ W, W = (w.alloc (.cells #[.int .i64 0, .int .i64 0] 35)).alloc (.cells #[.int .i64 0, .int .i64 0] 35) := ⟨_, rfl⟩
    rw [← hW2] at H2 c0 c1 c2 c3 d0 d1 d2 d3 ⊢
    clear hW2
    have q2 := (H2.out.1.set (0, 0))
    have q3 := H2.out.2.1.onl (on2 w.heap.size W2 (.int .i64 0) (.int .i64 0)) (by omega)
    obtain ⟨y0, y1, y2, y3⟩ := q3.cells
    have HQ2 := Lib.hid (q2.onl (on2 (w.heap.size + 1) _ (.int .i64 0) (.int .i64 0)) (by omega))
    have HQ3 := Lib.hid (q3.set (0, 0))
    clear q2 q3
    go_wp2_with fail
    have hb := below_st2 (below_st2 (below_st2 (below_st2 H2.out.2.2 (j := 0) (u := .int .i64 0) (Nat.le_refl w.heap.size)) (j := 1) (u := .int .i64 0) (Nat.le_refl _)) (g := w.heap.size + 1) (j := 0) (u := .int .i64 0) (by omega)) (g := w.heap.size + 1) (j := 1) (u := .int .i64 0) (by omega)
    exact bodyPost_ret (ret_box3 rfl rfl rfl rfl HQ2.out HQ3.out) rfl ⟨by rw [HX.out]; rfl, hb⟩
  have e0 : ((m : Int) == 0) = false := by simp; omega
  obtain ⟨ad, hA, _, _, a2, a3, _⟩ := hL.at_ hB2 (show 0 < m by omega)
  have hd0 := drop_eg L 0 (by omega)
  rw [List.drop_zero] at hd0
  have hbx : boxP L = ((boxR L (eg L 0).2.2.1 (eg L 0).2.2.1).1, (boxR L (eg L 0).2.2.1 (eg L 0).2.2.1).2, true) := by
    rw [hd0]; rfl
  have HX := Lib.hid hbx
  have HL := Lib.hid hL
  have HLen := Lib.hid hlen
  obtain ⟨s0, hs0⟩ : ∃ p, p = (eg L 0).2.2.1 := ⟨_, rfl⟩
  rw [← hs0] at a2 a3 HX
  obtain ⟨sx, sy⟩ := s0
  dsimp only at a2 a3
  have z0 : ad.add (0 * 8) = ad := by unfold Addr.add; simp
  rw [z0] at a2 a3
  subst hA
  obtain ⟨W2, hW2⟩ : ∃ W, W = (w.alloc (.cells #[.int .i64 0, .int .i64 0] 35)).alloc (.cells #[.int .i64 0, .int .i64 0] 35) := ⟨_, rfl⟩
  have hsz : W2.heap.size = w.heap.size + 2 := by rw [hW2]; simp
  rw [← hW2] at H2 a2 a3
  have hA3 : Below W2.heap.size W2 (W2.alloc (.cells #[.int .i64 sx, .int .i64 sy] 35)) := (Below.refl _ _).alloc (Nat.le_refl _) _
  have hB4 : Below W2.heap.size W2 ((W2.alloc (.cells #[.int .i64 sx, .int .i64 sy] 35)).alloc (.cells #[.int .i64 sx, .int .i64 sy] 35)) := hA3.alloc (by simp) _
  have a2' := (hA3.cell (cell_lt2 a2)).trans a2
  have a3' := (hA3.cell (cell_lt2 a3)).trans a3
  have HBo := Lib.hid (show BoS w ((W2.alloc (.cells #[.int .i64 sx, .int .i64 sy] 35)).alloc (.cells #[.int .i64 sx, .int .i64 sy] 35)) w.heap.size (sx, sy) (sx, sy) from by
    refine ⟨H2.out.2.2.trans (hB4.mono H2.out.2.2.size), H2.out.1.bel hB4, H2.out.2.1.bel hB4, ?_, ?_, Nat.le_refl _⟩
    · have h := (Pbx.new W2 (sx, sy)).bel ((Below.refl _ _).alloc (Nat.le_refl _) (.cells #[.int .i64 sx, .int .i64 sy] 35))
      rw [hsz] at h
      exact h
    · have h := Pbx.new (W2.alloc (.cells #[.int .i64 sx, .int .i64 sy] 35)) (sx, sy)
      rw [size_a, hsz] at h
      exact h)
  have HH2 := Lib.hid (And.intro hW2 hsz)
  have a4 : W2.cell? { block := ad.block, off := ad.off + 2 + 1 } = some (.int .i64 sy) := a3
  have a4' : (W2.alloc (.cells #[.int .i64 sx, .int .i64 sy] 35)).cell? { block := ad.block, off := ad.off + 2 + 1 } = some (.int .i64 sy) := a3'
  clear hL hlen hB1 hB2 h2 h3 hd0 hbx hs0 z0 H2 hA3 hB4 hW2 hsz
  go_enter Try.func14, Try.ntmps14
  go_upto_region 3 with fail
  rw [← HH2.out.1]
  go_upto_region 5 with fail
  obtain ⟨W4, hW4⟩ : ∃ W, W = (W2.alloc (.cells #[.int .i64 sx, .int .i64 sy] 35)).alloc (.cells #[.int .i64 sx, .int .i64 sy] 35) := ⟨_, rfl⟩
  rw [← hW4] at HBo ⊢
  rw [HH2.out.2]
  obtain ⟨b, hb⟩ : ∃ b, b = w.heap.size := ⟨_, rfl⟩
  rw [← hb] at HBo ⊢
  clear a2 a3 a2' a3' a4 a4' hW4 hb
  go_wp2_with fail
  go_loopw [7] (fun i wr => ∃ (k : Nat) (lo hi : P2), i = .int .i64 (k : Int) ∧ k ≤ m ∧ boxR (L.drop k) lo hi = boxR L (sx, sy) (sx, sy) ∧ BoS w wr b lo hi) (fun i _ => m - (intOf i).toNat)
  case atStart => exact ⟨0, (sx, sy), (sx, sy), rfl, Nat.zero_le _, by rw [List.drop_zero], HBo.out⟩
  case round =>
    obtain ⟨k, lo, hi, rfl, hk, hbx, hS⟩ := hrel
    have HS := Lib.hid hS
    by_cases hgo : k < m
    · obtain ⟨ad3, hA3, c0, c1, c2, c3, c4, c5, c6, c7⟩ := HL.out.at_ hS.bel hgo
      injection hA3 with hA3
      subst hA3
      rw [drop_eg L k (by rw [HLen.out]; exact hgo)] at hbx
      obtain ⟨e, he⟩ : ∃ e, e = eg L k := ⟨_, rfl⟩
      rw [← he] at c0 c1 c2 c3 c4 c5 c6 c7 hbx
      obtain ⟨ek, eq, ⟨ax, ay⟩, ⟨bx, by_⟩, ⟨cx, cy⟩⟩ := e
      dsimp only at c0 c1 c2 c3 c4 c5 c6 c7
      have CP := Lib.hid (points_any ek eq ax ay bx by_ cx cy wr)
      obtain ⟨P, hP⟩ : ∃ P, P = ptsE (ek, eq, (ax, ay), (bx, by_), (cx, cy)) := ⟨_, rfl⟩
      have hP3 : P.length ≤ 3 := by rw [hP]; unfold ptsE; split <;> simp
      have HPs := Lib.hid (show boxR (L.drop (k + 1)) (P.foldl loP lo) (P.foldl hiP hi) = boxR L (sx, sy) (sx, sy) from by
        rw [← hbx, hP]
        unfold boxR
        rw [List.flatMap_cons, List.foldl_append, List.foldl_append])
      rw [← hP] at CP
      clear hbx he hP hS
      go_upto_region 9 with (go_at_call 23; (with_reducible refine CP.out.mono ?_); rintro e w5 ⟨bp, rfl, hbp, hge, hb5⟩; have HB5 := Lib.hid hb5; have HBp := Lib.hid (And.intro hbp hge); have HS5 := Lib.hid (HS.out.next hb5); clear hb5 hbp hge)
      obtain ⟨pn, hpn⟩ : ∃ n, n = P.length := ⟨_, rfl⟩
      have HPn := Lib.hid hpn
      rw [← hpn] at hP3 ⊢
      clear hpn c0 c1 c2 c3 c4 c5 c6 c7
      have hbp6 : b + 3 < bp := by have h1 := heap_lt HS.out.b6; have := HBp.out.2; omega
      go_wp2_with fail
      go_loopw [9] (fun i wi => ∃ (j : Nat) (lo2 hi2 : P2), i = .int .i64 (j : Int) ∧ j ≤ pn ∧ (P.drop j).foldl loP lo2 = P.foldl loP lo ∧ (P.drop j).foldl hiP hi2 = P.foldl hiP hi ∧ BoS w wi b lo2 hi2 ∧ wi.heap[bp]? = some (.cells (p2C P).toArray 35 (0, 0))) (fun i _ => pn - (intOf i).toNat)
      case atStart => exact ⟨0, lo, hi, rfl, Nat.zero_le _, rfl, rfl, HS5.out, HBp.out.1⟩
      case round =>
        obtain ⟨j, lo2, hi2, rfl, hj, hlo, hhi, hS2, hbp⟩ := hrel
        have HS2 := Lib.hid hS2
        have HBp2 := Lib.hid hbp
        by_cases hgj : j < pn
        · obtain ⟨g0, g1⟩ := p2C_get P j (by rw [← HPn.out]; exact hgj)
          have hpd := pp_drop P j (by rw [← HPn.out]; exact hgj)
          rw [hpd, List.foldl_cons] at hlo hhi
          obtain ⟨p, hp⟩ : ∃ p, p = pp P j := ⟨_, rfl⟩
          rw [← hp] at g0 g1 hlo hhi
          obtain ⟨x, y⟩ := p
          have HPp := Lib.hid hp
          obtain ⟨lx, ly⟩ := lo2
          obtain ⟨hx, hy⟩ := hi2
          have HLo := Lib.hid hlo
          have HHi := Lib.hid hhi
          have d0 : wr.cell? ⟨bp, j * 2, none⟩ = some (.int .i64 x) := by rw [cell_of_row wr bp _ _ 35 (0, 0) hbp]; simpa using g0
          have d1 : wr.cell? ⟨bp, j * 2 + 1, none⟩ = some (.int .i64 y) := by rw [cell_of_row wr bp _ _ 35 (0, 0) hbp]; simpa using g1
          obtain ⟨y0, y1, y2, y3⟩ := hS2.b5.cells
          obtain ⟨z0, z1, z2, z3⟩ := hS2.b6.cells
          dsimp only at y0 y1 z0 z1
          have m1 : (if x < lx then x else lx) = min lx x := by split <;> omega
          have m2 : (if y < ly then y else ly) = min ly y := by split <;> omega
          have m3 : (if hx < x then x else hx) = max hx x := by split <;> omega
          have m4 : (if hy < y then y else hy) = max hy y := by split <;> omega
          have HMM := Lib.hid (And.intro (And.intro m1 m2) (And.intro m3 m4))
          clear hlo hhi hpd hp hS2 hbp g0 g1 m1 m2 m3 m4
          go_upto_region 12 with fail
          go_region
          go_upto_region 13 with fail
          rw [HMM.out.1.1, HMM.out.1.2]
          have HS3 := Lib.hid ((HS2.out.setLo (min lx x, min ly y)).next (Below.drew (Below.refl _ _)))
          have HBp3 := Lib.hid (show (((wr.setCell ⟨b + 2, 0, none⟩ (.int .i64 (min lx x))).setCell ⟨b + 2, 1, none⟩ (.int .i64 (min ly y))).drew).heap[bp]? = some (.cells (p2C P).toArray 35 (0, 0)) from ((on2 (b + 2) wr (.int .i64 (min lx x)) (.int .i64 (min ly y))).block bp (heap_lt HBp2.out) (by omega)).trans HBp2.out)
          obtain ⟨W6, hW6⟩ : ∃ W, W = ((wr.setCell ⟨b + 2, 0, none⟩ (.int .i64 (min lx x))).setCell ⟨b + 2, 1, none⟩ (.int .i64 (min ly y))).drew := ⟨_, rfl⟩
          rw [← hW6] at HBp3 ⊢
          have HS3 : Hid (BoS w W6 b (min lx x, min ly y) (hx, hy)) := by rw [hW6]; exact HS3
          clear d0 d1 y0 y1 y2 y3 z0 z1 z2 z3 hW6
          obtain ⟨g0, g1⟩ := p2C_get P j (by rw [← HPn.out]; exact hgj)
          rw [← HPp.out] at g0 g1
          have d0 : W6.cell? ⟨bp, j * 2, none⟩ = some (.int .i64 x) := by rw [cell_of_row W6 bp _ _ 35 (0, 0) HBp3.out]; simpa using g0
          have d1 : W6.cell? ⟨bp, j * 2 + 1, none⟩ = some (.int .i64 y) := by rw [cell_of_row W6 bp _ _ 35 (0, 0) HBp3.out]; simpa using g1
          obtain ⟨z0, z1, z2, z3⟩ := HS3.out.b6.cells
          have z0 : W6.cell? ⟨b + 2 + 1, 0, none⟩ = some (.int .i64 hx) := z0
          have z1 : W6.cell? ⟨b + 2 + 1, 1, none⟩ = some (.int .i64 hy) := z1
          have z2 : W6.frozen? ⟨b + 2 + 1, 0, none⟩ = false := z2
          have z3 : W6.frozen? ⟨b + 2 + 1, 1, none⟩ = false := z3
          clear g0 g1
          go_region
          go_wp2_with fail
          rw [HMM.out.2.1, HMM.out.2.2]
          exact ⟨⟨j + 1, (min lx x, min ly y), (max hx x, max hy y), by simp, by omega, HLo.out, HHi.out, (HS3.out.setHi (max hx x, max hy y)).next (Below.drew (Below.refl _ _)), ((on2 (b + 3) W6 (.int .i64 (max hx x)) (.int .i64 (max hy y))).block bp (heap_lt HBp3.out) (by omega)).trans HBp3.out⟩, by simp [intOf]; omega⟩
        · obtain rfl : j = pn := by omega
          have hnil : P.drop j = [] := List.drop_eq_nil_of_le (by rw [HPn.out]; exact Nat.le_refl _)
          rw [hnil] at hlo hhi
          have hlo : lo2 = P.foldl loP lo := hlo
          have hhi : hi2 = P.foldl hiP hi := hhi
          have HQ := Lib.hid (show boxR (L.drop (k + 1)) lo2 hi2 = boxR L (sx, sy) (sx, sy) from by rw [hlo, hhi]; exact HPs.out)
          clear hlo hhi hnil hS2 hbp
          go_wp2_with fail
          exact ⟨⟨k + 1, lo2, hi2, by simp, by omega, HQ.out, HS2.out⟩, by simp [intOf]; omega⟩
    · obtain rfl : k = m := by omega
      have hf : boxR (L.drop k) lo hi = (lo, hi) := by rw [List.drop_of_length_le (by rw [HLen.out]; exact Nat.le_refl _)]; rfl
      rw [hf] at hbx
      have hx := HX.out
      rw [← hbx] at hx
      have HR := Lib.hid hx
      obtain ⟨lx, ly⟩ := lo
      obtain ⟨hx_, hy⟩ := hi
      obtain ⟨y0, y1, _, _⟩ := hS.b5.cells
      obtain ⟨z0, z1, _, _⟩ := hS.b6.cells
      have z0 : wr.cell? ⟨b + 2 + 1, 0, none⟩ = some (.int .i64 hx_) := z0
      have z1 : wr.cell? ⟨b + 2 + 1, 1, none⟩ = some (.int .i64 hy) := z1
      obtain ⟨c0, c1, c2, c3⟩ := hS.b2.cells
      obtain ⟨d0, d1, d2, d3⟩ := hS.b3.cells
      dsimp only at y0 y1 c0 c1 d0 d1
      clear hbx hf hx hS
      go_upto_region 14 with fail
      go_region
      all_goals
        go_wp2_with fail
        have hg := HS.out.ge
        have q2 := ((HS.out.b2.set (lx, ly)).onl (on2 (b + 1) _ (.int .i64 hx_) (.int .i64 hy)) (by omega)).bel (Below.drew (Below.refl _ _))
        have q3 := ((HS.out.b3.onl (on2 b _ (.int .i64 lx) (.int .i64 ly)) (by omega)).set (hx_, hy)).bel (Below.drew (Below.refl _ _))
        have hb := Below.drew (below_st2 (below_st2 (below_st2 (below_st2 HS.out.bel (j := 0) (u := .int .i64 lx) hg) (j := 1) (u := .int .i64 ly) hg) (g := b + 1) (j := 0) (u := .int .i64 hx_) (by omega)) (g := b + 1) (j := 1) (u := .int .i64 hy) (by omega))
        exact bodyPost_ret (ret_box3 rfl rfl rfl rfl q2 q3) rfl ⟨by rw [HR.out]; rfl, hb⟩
end Go.Proofs.Ytnnanlilnlimaaa
