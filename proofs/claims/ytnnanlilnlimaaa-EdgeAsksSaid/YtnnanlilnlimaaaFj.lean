/- Proved here: in which box edges are (the program's Box). Condition: edges that lie in memory. -/
import Derived.Test.YtnnanlilnlimaaaFh
import Derived.Test.YtnnanlilnlimaaaTl
namespace Go.Proofs.Ytnnanlilnlimaaa
open Go.RowKit

/-- The boxes of the results, and of the least and the greatest so far. -/
structure BoT (w W : World) (b b5 b6 : Nat) (lo hi : P2) : Prop where
  bel : Below w.heap.size w W
  b2 : Pbx W b (0, 0)
  b3 : Pbx W (b + 1) (0, 0)
  h5 : Pbx W b5 lo
  h6 : Pbx W b6 hi
  ge : w.heap.size ≤ b
  g5 : b + 1 < b5
  g6 : b + 1 < b6
  ne : b5 ≠ b6
section
variable {w W W' : World} {b b5 b6 : Nat} {lo hi : P2}
theorem BoT.next (h : BoT w W b b5 b6 lo hi) (hb : Below W.heap.size W W') : BoT w W' b b5 b6 lo hi := ⟨h.bel.trans (hb.mono h.bel.size), h.b2.bel hb, h.b3.bel hb, h.h5.bel hb, h.h6.bel hb, h.ge, h.g5, h.g6, h.ne⟩
theorem BoT.setLo (h : BoT w W b b5 b6 lo hi) (q : P2) : BoT w ((W.setCell ⟨b5, 0, none⟩ (.int .i64 q.1)).setCell ⟨b5, 1, none⟩ (.int .i64 q.2)) b b5 b6 q hi :=
  ⟨below_st2 (below_st2 h.bel (by have := h.ge; have := h.g5; omega)) (by have := h.ge; have := h.g5; omega), h.b2.onl (on2 _ _ _ _) (by have := h.g5; omega), h.b3.onl (on2 _ _ _ _) (by have := h.g5; omega), h.h5.set q, h.h6.onl (on2 _ _ _ _) (fun e => h.ne e.symm), h.ge, h.g5, h.g6, h.ne⟩
theorem BoT.setHi (h : BoT w W b b5 b6 lo hi) (q : P2) : BoT w ((W.setCell ⟨b6, 0, none⟩ (.int .i64 q.1)).setCell ⟨b6, 1, none⟩ (.int .i64 q.2)) b b5 b6 lo q :=
  ⟨below_st2 (below_st2 h.bel (by have := h.ge; have := h.g6; omega)) (by have := h.ge; have := h.g6; omega), h.b2.onl (on2 _ _ _ _) (by have := h.g6; omega), h.b3.onl (on2 _ _ _ _) (by have := h.g6; omega), h.h5.onl (on2 _ _ _ _) h.ne, h.h6.set q, h.ge, h.g5, h.g6, h.ne⟩
end
theorem BoT.far {w W W' : World} {b b5 b6 g : Nat} {lo hi : P2} (h : BoT w W b b5 b6 lo hi) (ho : Onl g W W') (h5 : b5 ≠ g) (h6 : b6 ≠ g) (hg : b + 1 < g) : BoT w W' b b5 b6 lo hi :=
  ⟨bel_onl h.bel ho (by have := h.ge; omega), h.b2.onl ho (by omega), h.b3.onl ho (by omega), h.h5.onl ho h5, h.h6.onl ho h6, h.ge, h.g5, h.g6, h.ne⟩
theorem two_b (w : World) (p : P2) : Pbx ((w.alloc (.cells #[.int .i64 p.1, .int .i64 p.2] 35)).alloc (.cells #[.int .i64 p.1, .int .i64 p.2] 35)).drew w.heap.size p ∧ Pbx ((w.alloc (.cells #[.int .i64 p.1, .int .i64 p.2] 35)).alloc (.cells #[.int .i64 p.1, .int .i64 p.2] 35)).drew (w.heap.size + 1) p ∧ Below w.heap.size w ((w.alloc (.cells #[.int .i64 p.1, .int .i64 p.2] 35)).alloc (.cells #[.int .i64 p.1, .int .i64 p.2] 35)).drew := by
  refine ⟨((Pbx.new w p).bel ((Below.refl _ _).alloc (Nat.le_refl _) _)).bel (Below.drew (Below.refl _ _)), ?_, Below.drew (((Below.refl _ _).alloc (Nat.le_refl _) _).alloc (by simp) _)⟩
  have h := (Pbx.new (w.alloc (.cells #[.int .i64 p.1, .int .i64 p.2] 35)) p).bel (Below.drew (Below.refl _ _))
  rw [size_a] at h
  exact h
/-- What becomes of the least and the greatest at an edge. -/
def midB (e : Edg) : P2 := if e.2.1 = true then e.2.2.2.1 else e.2.2.1
theorem box_lo (e : Edg) (lo : P2) : (ptsE e).foldl loP lo = (min lo.1 (min e.2.2.1.1 (min (midB e).1 e.2.2.2.2.1)), min lo.2 (min e.2.2.1.2 (min (midB e).2 e.2.2.2.2.2))) := by
  obtain ⟨k, q, ⟨ax, ay⟩, ⟨bx, by_⟩, ⟨cx, cy⟩⟩ := e
  cases q with
  | true =>
    show (min (min (min lo.1 ax) bx) cx, min (min (min lo.2 ay) by_) cy) = (min lo.1 (min ax (min bx cx)), min lo.2 (min ay (min by_ cy)))
    rw [show min (min (min lo.1 ax) bx) cx = min lo.1 (min ax (min bx cx)) by omega, show min (min (min lo.2 ay) by_) cy = min lo.2 (min ay (min by_ cy)) by omega]
  | false =>
    show (min (min lo.1 ax) cx, min (min lo.2 ay) cy) = (min lo.1 (min ax (min ax cx)), min lo.2 (min ay (min ay cy)))
    rw [show min (min lo.1 ax) cx = min lo.1 (min ax (min ax cx)) by omega, show min (min lo.2 ay) cy = min lo.2 (min ay (min ay cy)) by omega]
theorem box_hi (e : Edg) (hi : P2) : (ptsE e).foldl hiP hi = (max hi.1 (max e.2.2.1.1 (max (midB e).1 e.2.2.2.2.1)), max hi.2 (max e.2.2.1.2 (max (midB e).2 e.2.2.2.2.2))) := by
  obtain ⟨k, q, ⟨ax, ay⟩, ⟨bx, by_⟩, ⟨cx, cy⟩⟩ := e
  cases q with
  | true =>
    show (max (max (max hi.1 ax) bx) cx, max (max (max hi.2 ay) by_) cy) = (max hi.1 (max ax (max bx cx)), max hi.2 (max ay (max by_ cy)))
    rw [show max (max (max hi.1 ax) bx) cx = max hi.1 (max ax (max bx cx)) by omega, show max (max (max hi.2 ay) by_) cy = max hi.2 (max ay (max by_ cy)) by omega]
  | false =>
    show (max (max hi.1 ax) cx, max (max hi.2 ay) cy) = (max hi.1 (max ax (max ax cx)), max hi.2 (max ay (max ay cy)))
    rw [show max (max hi.1 ax) cx = max hi.1 (max ax (max ax cx)) by omega, show max (max hi.2 ay) cy = max hi.2 (max ay (max ay cy)) by omega]
theorem boxR_cons (e : Edg) (r : List Edg) (lo hi : P2) : boxR (e :: r) lo hi = boxR r ((ptsE e).foldl loP lo) ((ptsE e).foldl hiP hi) := by
  unfold boxR
  rw [List.flatMap_cons, List.foldl_append, List.foldl_append]
theorem if_min (a b : Int) : (if b < a then b else a) = min a b := by split <;> omega
theorem if_max (a b : Int) : (if b > a then b else a) = max a b := by split <;> omega
theorem min4 (a b c d : Int) (W : World) : (Builtin.min_ #[3, 3, 3, 3] 3 #[.int .i64 a, .int .i64 b, .int .i64 c, .int .i64 d]).run Try.prog W = .ok (.int .i64 (min a (min b (min c d)))) W := by
  rw [show min a (min b (min c d)) = min (min (min a b) c) d by omega, ← if_min, ← if_min, ← if_min]
  simp [Builtin.min_, Builtin.min2, go_sem]
theorem max4 (a b c d : Int) (W : World) : (Builtin.max_ #[3, 3, 3, 3] 3 #[.int .i64 a, .int .i64 b, .int .i64 c, .int .i64 d]).run Try.prog W = .ok (.int .i64 (max a (max b (max c d)))) W := by
  rw [show max a (max b (max c d)) = max (max (max a b) c) d by omega, ← if_max, ← if_max, ← if_max]
  simp [Builtin.max_, Builtin.max2, go_sem]
theorem keep1 (W : World) (b : Nat) (u : Value) {v : Value} (h : W.cell? ⟨b, 1, none⟩ = some v) : (W.setCell ⟨b, 0, none⟩ u).cell? ⟨b, 1, none⟩ = some v := by
  rw [World.cell?_setCell_other _ _ _ _ (by simp)]
  exact h
theorem Ebx.old {W W' : World} {b g : Nat} {e : Edg} (h : Ebx W b e) (ho : Onl g W W') (hn : b ≠ g) : Ebx W' b e := (ho.block b (heap_lt h) hn).trans h
set_option maxHeartbeats 8000000 in
set_option maxRecDepth 100000 in
theorem pbox_any (A : Option Addr) (m c : Nat) (L : List Edg) (w : World) (hL : Edl w A m L) (hm : m ≤ 100000) :
    Calls Try.prog 13 #[.slice A m c] w (BoP (boxP L) w) := by
  have hlen := hL.len
  have hB1 : Below w.heap.size w (w.alloc (.cells #[.int .i64 0, .int .i64 0] 35)) := (Below.refl _ _).alloc (Nat.le_refl _) _
  have hB2 : Below w.heap.size w ((w.alloc (.cells #[.int .i64 0, .int .i64 0] 35)).alloc (.cells #[.int .i64 0, .int .i64 0] 35)) := hB1.alloc (by simp) _
  have h2 : Pbx ((w.alloc (.cells #[.int .i64 0, .int .i64 0] 35)).alloc (.cells #[.int .i64 0, .int .i64 0] 35)) w.heap.size (0, 0) := (Pbx.new w (0, 0)).bel ((Below.refl _ _).alloc (Nat.le_refl _) _)
  have h3 : Pbx ((w.alloc (.cells #[.int .i64 0, .int .i64 0] 35)).alloc (.cells #[.int .i64 0, .int .i64 0] 35)) (w.heap.size + 1) (0, 0) := by
    have h := Pbx.new (w.alloc (.cells #[.int .i64 0, .int .i64 0] 35)) (0, 0)
    rw [size_a] at h
    exact h
  have H2 := Lib.hid (And.intro h2 (And.intro h3 hB2))
  by_cases h0 : m = 0
  · subst h0
    have HX := Lib.hid (show boxP L = ((0, 0), (0, 0), false) from by rw [List.length_eq_zero_iff.1 hlen]; rfl)
    obtain ⟨c0, c1, c2, c3⟩ := h2.cells
    obtain ⟨d0, d1, d2, d3⟩ := h3.cells
    dsimp only at c0 c1 d0 d1
    clear hL hlen hB1 hB2 h2 h3
    go_enter Try.func13, Try.ntmps13
    go_upto_region 2 with fail
    obtain ⟨W2, hW2⟩ : ∃ W, W = (w.alloc (.cells #[.int .i64 0, .int .i64 0] 35)).alloc (.cells #[.int .i64 0, .int .i64 0] 35) := ⟨_, rfl⟩
    rw [← hW2] at H2 c0 c1 c2 c3 d0 d1 d2 d3 ⊢
    clear hW2
    have q2 := (H2.out.1.set (0, 0))
    have q3 := H2.out.2.1.onl (on2 w.heap.size W2 (.int .i64 0) (.int .i64 0)) (by omega)
    obtain ⟨y0, y1, y2, y3⟩ := q3.cells
    have HQ2 := Lib.hid (q2.onl (on2 (w.heap.size + 1) _ (.int .i64 0) (.int .i64 0)) (by omega))
    have HQ3 := Lib.hid (q3.set (0, 0))
    clear q2 q3
    go_wp2_with fail
    have hb := below_st2 (below_st2 (below_st2 (below_st2 H2.out.2.2 (j := 0) (u := .int .i64 0) (Nat.le_refl w.heap.size)) (j := 1) (u := .int .i64 0) (Nat.le_refl _)) (g := w.heap.size + 1) (j := 0) (u := .int .i64 0) (by omega)) (g := w.heap.size + 1) (j := 1) (u := .int .i64 0) (by omega)
    exact bodyPost_ret (ret_box3 rfl rfl rfl rfl HQ2.out HQ3.out) rfl ⟨by rw [HX.out]; rfl, hb⟩
  have e0 : ((m : Int) == 0) = false := by simp; omega
  obtain ⟨ad, hA, _, _, a2, a3, _⟩ := hL.at_ hB2 (show 0 < m by omega)
  have hd0 := drop_eg L 0 (by omega)
  rw [List.drop_zero] at hd0
  have hbx : boxP L = ((boxR L (eg L 0).2.2.1 (eg L 0).2.2.1).1, (boxR L (eg L 0).2.2.1 (eg L 0).2.2.1).2, true) := by
    rw [hd0]; rfl
  have HX := Lib.hid hbx
  have HL := Lib.hid hL
  have HLen := Lib.hid hlen
  obtain ⟨s0, hs0⟩ : ∃ p, p = (eg L 0).2.2.1 := ⟨_, rfl⟩
  rw [← hs0] at a2 a3 HX
  obtain ⟨sx, sy⟩ := s0
  dsimp only at a2 a3
  have z0 : ad.add (0 * 8) = ad := by unfold Addr.add; simp
  rw [z0] at a2 a3
  subst hA
  obtain ⟨W2, hW2⟩ : ∃ W, W = (w.alloc (.cells #[.int .i64 0, .int .i64 0] 35)).alloc (.cells #[.int .i64 0, .int .i64 0] 35) := ⟨_, rfl⟩
  have hsz : W2.heap.size = w.heap.size + 2 := by rw [hW2]; simp
  rw [← hW2] at H2 a2 a3
  have a4 : W2.cell? { block := ad.block, off := ad.off + 2 + 1 } = some (.int .i64 sy) := a3
  have hZ : ∀ o1 o2, Below W2.heap.size W2 ((W2.alloc o1).alloc o2).drew := fun o1 o2 => Below.drew (((Below.refl _ _).alloc (Nat.le_refl _) o1).alloc (by simp) o2)
  have hY : ∀ o1, Below W2.heap.size W2 (W2.alloc o1).drew := fun o1 => Below.drew ((Below.refl _ _).alloc (Nat.le_refl _) o1)
  have a2' := fun o1 o2 => ((hZ o1 o2).cell (cell_lt2 a2)).trans a2
  have a3' := fun o1 o2 => ((hZ o1 o2).cell (cell_lt2 a3)).trans a3
  have a4' := fun o1 o2 => ((hZ o1 o2).cell (cell_lt2 a4)).trans a4
  have a2'' := fun o1 => ((hY o1).cell (cell_lt2 a2)).trans a2
  have a3'' := fun o1 => ((hY o1).cell (cell_lt2 a3)).trans a3
  have a4'' := fun o1 => ((hY o1).cell (cell_lt2 a4)).trans a4
  have HH2 := Lib.hid (And.intro hW2 hsz)
  clear hL hlen hB1 hB2 h2 h3 hd0 hbx hs0 z0 hW2 hsz hZ hY
  go_enter Try.func13, Try.ntmps13
  go_upto_region 3 with fail
  rw [← HH2.out.1]
  go_cut [5, 6] from 15 to 22 (fun v5 v6 wx => ∃ b5 b6, v5 = .pointer (some ⟨b5, 0, none⟩) ∧ v6 = .pointer (some ⟨b6, 0, none⟩) ∧ BoT w wx w.heap.size b5 b6 (sx, sy) (sx, sy))
  case first =>
    have hsz := HH2.out.2
    go_region
    · go_wp2_with fail
      go_meet
      obtain ⟨t1, t2, t3⟩ := two_b W2 (sx, sy)
      rw [hsz] at t1 t2
      exact ⟨_, _, rfl, rfl, ⟨H2.out.2.2.trans (t3.mono H2.out.2.2.size), H2.out.1.bel t3, H2.out.2.1.bel t3, t1, t2, Nat.le_refl _, by omega, by omega, by omega⟩⟩
    · go_wp2_with fail
      go_meet
      obtain ⟨t1, t2, t3⟩ := two_b W2 (sx, sy)
      rw [hsz] at t1 t2
      exact ⟨_, _, rfl, rfl, ⟨H2.out.2.2.trans (t3.mono H2.out.2.2.size), H2.out.1.bel t3, H2.out.2.1.bel t3, t2, t1, Nat.le_refl _, by omega, by omega, by omega⟩⟩
  case rest =>
    obtain ⟨b5, b6, rfl, rfl, hBo⟩ := hcut
    have HBo := Lib.hid hBo
    obtain ⟨b, hb⟩ : ∃ b, b = w.heap.size := ⟨_, rfl⟩
    rw [← hb] at HBo ⊢
    clear a2 a3 a4 a2' a3' a4' a2'' a3'' a4'' hBo hb
    go_wp2_with fail
    go_loopw [25] (fun i wr => ∃ (k : Nat) (lo hi : P2), i = .int .i64 (k : Int) ∧ k ≤ m ∧ boxR (L.drop k) lo hi = boxR L (sx, sy) (sx, sy) ∧ BoT w wr b b5 b6 lo hi) (fun i _ => m - (intOf i).toNat)
    case atStart => exact ⟨0, (sx, sy), (sx, sy), rfl, Nat.zero_le _, by rw [List.drop_zero], HBo.out⟩
    case round =>
      obtain ⟨k, lo, hi, rfl, hk, hbx, hS⟩ := hrel
      by_cases hgo : k < m
      · obtain ⟨ad3, hA3, c0, c1, c2, c3, c4, c5, c6, c7⟩ := HL.out.at_ hS.bel hgo
        injection hA3 with hA3
        subst hA3
        rw [drop_eg L k (by rw [HLen.out]; exact hgo), boxR_cons, box_lo, box_hi] at hbx
        obtain ⟨e, he⟩ : ∃ e, e = eg L k := ⟨_, rfl⟩
        rw [← he] at c0 c1 c2 c3 c4 c5 c6 c7 hbx
        obtain ⟨p, hp⟩ : ∃ p, p = midB e := ⟨_, rfl⟩
        rw [← hp] at hbx
        have HP := Lib.hid hp
        obtain ⟨ek, eq, ⟨ax, ay⟩, ⟨bx, by_⟩, ⟨cx, cy⟩⟩ := e
        dsimp only at c0 c1 c2 c3 c4 c5 c6 c7 hbx
        have HBx := Lib.hid hbx
        have hA8 := (Below.refl wr.heap.size wr).alloc (Nat.le_refl _) (.cells #[.int .i64 ek, .bool eq, .int .i64 ax, .int .i64 ay, .int .i64 bx, .int .i64 by_, .int .i64 cx, .int .i64 cy] 43)
        have HE8 := Lib.hid (Ebx.new wr (ek, eq, (ax, ay), (bx, by_), (cx, cy)))
        have HS8 := Lib.hid (hS.next hA8)
        have hgt : b + 1 < wr.heap.size ∧ b5 < wr.heap.size ∧ b6 < wr.heap.size := ⟨heap_lt hS.b3, heap_lt hS.h5, heap_lt hS.h6⟩
        clear hbx he hp hS hA8
        go_upto_region 7 with fail
        obtain ⟨b8, hb8⟩ : ∃ b, b = wr.heap.size := ⟨_, rfl⟩
        obtain ⟨W8, hW8⟩ : ∃ W, W = wr.alloc (.cells #[.int .i64 ek, .bool eq, .int .i64 ax, .int .i64 ay, .int .i64 bx, .int .i64 by_, .int .i64 cx, .int .i64 cy] 43) := ⟨_, rfl⟩
        have hs8 : W8.heap.size = b8 + 1 := by rw [hW8, hb8]; simp
        have HE8 : Hid (Ebx W8 b8 (ek, eq, (ax, ay), (bx, by_), (cx, cy))) := by rw [hW8, hb8]; exact HE8
        rw [← hW8] at HS8 ⊢
        rw [← hb8] at hgt ⊢
        have hA9 := (Below.refl W8.heap.size W8).alloc (Nat.le_refl _) (.cells #[.int .i64 ax, .int .i64 ay] 35)
        have HE9 := Lib.hid (HE8.out.bel hA9)
        have HS9 := Lib.hid (HS8.out.next hA9)
        have HP9 := Lib.hid (Pbx.new W8 (ax, ay))
        clear c0 c1 c2 c3 c4 c5 c6 c7 hW8 hb8 hA9
        obtain ⟨c0, c1, c2, c3, c4, c5, c6, c7⟩ := HE8.out.cells
        dsimp only at c0 c1 c2 c3 c4 c5 c6 c7
        go_upto_region 8 with fail
        obtain ⟨b9, hb9⟩ : ∃ b, b = b8 + 1 := ⟨_, rfl⟩
        obtain ⟨W9, hW9⟩ : ∃ W, W = W8.alloc (.cells #[.int .i64 ax, .int .i64 ay] 35) := ⟨_, rfl⟩
        have HP9 : Hid (Pbx W9 b9 (ax, ay)) := by rw [hW9, hb9, ← hs8]; exact HP9
        rw [← hW9] at HE9 HS9 ⊢
        rw [← hb9]
        have HN := Lib.hid (show b8 ≠ b9 ∧ b5 ≠ b9 ∧ b6 ≠ b9 ∧ b5 ≠ b8 ∧ b6 ≠ b8 ∧ b + 1 < b9 by omega)
        clear c0 c1 c2 c3 c4 c5 c6 c7 hW9 hb9 hs8 hgt
        obtain ⟨c0, c1, c2, c3, c4, c5, c6, c7⟩ := HE9.out.cells
        obtain ⟨p0, p1, p2, p3⟩ := HP9.out.cells
        dsimp only at c0 c1 c2 c3 c4 c5 c6 c7 p0 p1
        have n89 : ¬ b8 = b9 := HN.out.1
        have n98 : ¬ b9 = b8 := fun h => HN.out.1 h.symm
        go_upto_if 32 with fail
        go_cut [25] from 26 to 83 (fun v25 wx => v25 = .int .i64 (k : Int) ∧ BoT w wx b b5 b6 lo hi ∧ Ebx wx b8 (ek, eq, (ax, ay), (bx, by_), (cx, cy)) ∧ Pbx wx b9 p)
        case first =>
          cases eq with
          | false =>
            have hp : p = (ax, ay) := HP.out
            go_wp2_with fail
            go_meet
            exact ⟨rfl, HS9.out, HE9.out, by rw [hp]; exact HP9.out⟩
          | true =>
            have hp : p = (bx, by_) := HP.out
            have HPp := Lib.hid hp
            clear hp
            go_wp2_with fail
            go_meet
            exact ⟨rfl, HS9.out.far (on2 b9 _ (.int .i64 bx) (.int .i64 by_)) HN.out.2.1 HN.out.2.2.1 HN.out.2.2.2.2.2, HE9.out.old (on2 b9 _ (.int .i64 bx) (.int .i64 by_)) HN.out.1, by rw [HPp.out]; exact HP9.out.set (bx, by_)⟩
        case rest =>
          obtain ⟨rfl, hS, hE, hQ⟩ := hcut
          clear c0 c1 c2 c3 c4 c5 c6 c7 p0 p1 p2 p3
          obtain ⟨c0, c1, c2, c3, c4, c5, c6, c7⟩ := hE.cells
          obtain ⟨qx, qy⟩ := p
          obtain ⟨p0, p1, p2, p3⟩ := hQ.cells
          obtain ⟨lx, ly⟩ := lo
          obtain ⟨hx, hy⟩ := hi
          obtain ⟨y0, y1, y2, y3⟩ := hS.h5.cells
          dsimp only at c0 c1 c2 c3 c4 c5 c6 c7 p0 p1 y0 y1
          have n5 : ¬ b5 = b9 := HN.out.2.1
          have n5' : ¬ b9 = b5 := fun h => HN.out.2.1 h.symm
          have n58 : ¬ b5 = b8 := HN.out.2.2.2.1
          have n58' : ¬ b8 = b5 := fun h => HN.out.2.2.2.1 h.symm
          have HS := Lib.hid hS
          have HE := Lib.hid hE
          have HQ := Lib.hid hQ
          dsimp only at HBx
          clear hS hE hQ
          have M1 := fun W => min4 lx ax qx cx W
          have M2 := fun W => min4 ly ay qy cy W
          go_upto_region 10 with fail
          obtain ⟨nx, hnx⟩ : ∃ x, x = min lx (min ax (min qx cx)) := ⟨_, rfl⟩
          obtain ⟨ny, hny⟩ : ∃ x, x = min ly (min ay (min qy cy)) := ⟨_, rfl⟩
          rw [← hnx] at HBx M1
          rw [← hny] at HBx M2
          clear hnx hny
          go_cut [25] from 26 to 83 (fun v25 wx => v25 = .int .i64 (k : Int) ∧ BoT w wx b b5 b6 (nx, ny) (hx, hy) ∧ Ebx wx b8 (ek, eq, (ax, ay), (bx, by_), (cx, cy)) ∧ Pbx wx b9 (qx, qy))
          case first =>
            refine wt_start (S := (fun w' => w'.cell? ⟨b8, 2, none⟩ = some (.int .i64 ax) ∧ w'.cell? ⟨b8, 3, none⟩ = some (.int .i64 ay) ∧ w'.cell? ⟨b8, 6, none⟩ = some (.int .i64 cx) ∧ w'.cell? ⟨b8, 7, none⟩ = some (.int .i64 cy) ∧ w'.cell? ⟨b9, 0, none⟩ = some (.int .i64 qx) ∧ w'.cell? ⟨b9, 1, none⟩ = some (.int .i64 qy) ∧ w'.cell? ⟨b5, 1, none⟩ = some (.int .i64 ly))) 25 (by kernel_rfl) ?_ (fun hHeld => ?_)
            · (try dsimp only); go_keep
            refine wt_take (i := 0) (oi := { dst := some 35, op := Op.fieldAddr 35 (Operand.tmp 5) 0, type := 0, pos := "edge.go:36", after := #[], guard := none }) (v := ?_) [] (by kernel_rfl) rfl (by kernel_rfl) (by kernel_rfl) (by kernel_rfl) rfl (fun _ _ _ h => h) (Or.inl ⟨by rfl, ?_⟩) (by assumption) ?_
            rotate_left 1
            · (intro w0 hS0; (try dsimp only at hS0); go_simp; try with_reducible rfl)
            try simp only [Act.put, List.setIfInBounds_toArray, List.set_cons_zero, List.set_cons_succ]
            refine wt_take (i := 2) (oi := { dst := some 37, op := Op.fieldAddr 43 (Operand.tmp 8) 2, type := 0, pos := "edge.go:36", after := #[], guard := none }) (v := ?_) [] (by kernel_rfl) rfl (by kernel_rfl) (by kernel_rfl) (by kernel_rfl) rfl (fun _ _ _ h => h) (Or.inl ⟨by rfl, ?_⟩) (by assumption) ?_
            rotate_left 1
            · (intro w0 hS0; (try dsimp only at hS0); go_simp; try with_reducible rfl)
            try simp only [Act.put, List.setIfInBounds_toArray, List.set_cons_zero, List.set_cons_succ]
            refine wt_take (i := 3) (oi := { dst := some 38, op := Op.fieldAddr 35 (Operand.tmp 37) 0, type := 0, pos := "edge.go:36", after := #[{ on := 2, ground := Ground.data }], guard := none }) (v := ?_) [] (by kernel_rfl) rfl (by kernel_rfl) (by kernel_rfl) (by kernel_rfl) rfl (fun _ _ _ h => h) (Or.inl ⟨by rfl, ?_⟩) (by assumption) ?_
            rotate_left 1
            · (intro w0 hS0; (try dsimp only at hS0); go_simp; try with_reducible rfl)
            try simp only [Act.put, List.setIfInBounds_toArray, List.set_cons_zero, List.set_cons_succ]
            refine wt_take (i := 4) (oi := { dst := some 39, op := Op.load 3 (Operand.tmp 38), type := 3, pos := "edge.go:36", after := #[{ on := 3, ground := Ground.data }], guard := none }) (v := ?_) [] (by kernel_rfl) rfl (by kernel_rfl) (by kernel_rfl) (by kernel_rfl) rfl (fun _ _ _ h => h) (Or.inl ⟨by rfl, ?_⟩) (by assumption) ?_
            rotate_left 1
            · (intro w0 hS0; (try dsimp only at hS0); go_simp; try with_reducible rfl)
            try simp only [Act.put, List.setIfInBounds_toArray, List.set_cons_zero, List.set_cons_succ]
            refine wt_take (i := 5) (oi := { dst := some 40, op := Op.fieldAddr 35 (Operand.tmp 9) 0, type := 0, pos := "edge.go:36", after := #[], guard := none }) (v := ?_) [] (by kernel_rfl) rfl (by kernel_rfl) (by kernel_rfl) (by kernel_rfl) rfl (fun _ _ _ h => h) (Or.inl ⟨by rfl, ?_⟩) (by assumption) ?_
            rotate_left 1
            · (intro w0 hS0; (try dsimp only at hS0); go_simp; try with_reducible rfl)
            try simp only [Act.put, List.setIfInBounds_toArray, List.set_cons_zero, List.set_cons_succ]
            refine wt_take (i := 6) (oi := { dst := some 41, op := Op.load 3 (Operand.tmp 40), type := 3, pos := "edge.go:36", after := #[{ on := 5, ground := Ground.data }], guard := none }) (v := ?_) [] (by kernel_rfl) rfl (by kernel_rfl) (by kernel_rfl) (by kernel_rfl) rfl (fun _ _ _ h => h) (Or.inl ⟨by rfl, ?_⟩) (by assumption) ?_
            rotate_left 1
            · (intro w0 hS0; (try dsimp only at hS0); go_simp; try with_reducible rfl)
            try simp only [Act.put, List.setIfInBounds_toArray, List.set_cons_zero, List.set_cons_succ]
            refine wt_take (i := 7) (oi := { dst := some 42, op := Op.fieldAddr 43 (Operand.tmp 8) 4, type := 0, pos := "edge.go:36", after := #[], guard := none }) (v := ?_) [] (by kernel_rfl) rfl (by kernel_rfl) (by kernel_rfl) (by kernel_rfl) rfl (fun _ _ _ h => h) (Or.inl ⟨by rfl, ?_⟩) (by assumption) ?_
            rotate_left 1
            · (intro w0 hS0; (try dsimp only at hS0); go_simp; try with_reducible rfl)
            try simp only [Act.put, List.setIfInBounds_toArray, List.set_cons_zero, List.set_cons_succ]
            refine wt_take (i := 8) (oi := { dst := some 43, op := Op.fieldAddr 35 (Operand.tmp 42) 0, type := 0, pos := "edge.go:36", after := #[{ on := 7, ground := Ground.data }], guard := none }) (v := ?_) [] (by kernel_rfl) rfl (by kernel_rfl) (by kernel_rfl) (by kernel_rfl) rfl (fun _ _ _ h => h) (Or.inl ⟨by rfl, ?_⟩) (by assumption) ?_
            rotate_left 1
            · (intro w0 hS0; (try dsimp only at hS0); go_simp; try with_reducible rfl)
            try simp only [Act.put, List.setIfInBounds_toArray, List.set_cons_zero, List.set_cons_succ]
            refine wt_take (i := 9) (oi := { dst := some 44, op := Op.load 3 (Operand.tmp 43), type := 3, pos := "edge.go:36", after := #[{ on := 8, ground := Ground.data }], guard := none }) (v := ?_) [] (by kernel_rfl) rfl (by kernel_rfl) (by kernel_rfl) (by kernel_rfl) rfl (fun _ _ _ h => h) (Or.inl ⟨by rfl, ?_⟩) (by assumption) ?_
            rotate_left 1
            · (intro w0 hS0; (try dsimp only at hS0); go_simp; try with_reducible rfl)
            try simp only [Act.put, List.setIfInBounds_toArray, List.set_cons_zero, List.set_cons_succ]
            refine wt_take (i := 11) (oi := { dst := some 46, op := Op.fieldAddr 35 (Operand.tmp 5) 1, type := 0, pos := "edge.go:36", after := #[], guard := none }) (v := ?_) [] (by kernel_rfl) rfl (by kernel_rfl) (by kernel_rfl) (by kernel_rfl) rfl (fun _ _ _ h => h) (Or.inl ⟨by rfl, ?_⟩) (by assumption) ?_
            rotate_left 1
            · (intro w0 hS0; (try dsimp only at hS0); go_simp; try with_reducible rfl)
            try simp only [Act.put, List.setIfInBounds_toArray, List.set_cons_zero, List.set_cons_succ]
            refine wt_take (i := 12) (oi := { dst := some 47, op := Op.load 3 (Operand.tmp 46), type := 3, pos := "edge.go:36", after := #[{ on := 11, ground := Ground.data }], guard := none }) (v := ?_) [] (by kernel_rfl) rfl (by kernel_rfl) (by kernel_rfl) (by kernel_rfl) rfl (fun _ _ _ h => h) (Or.inl ⟨by rfl, ?_⟩) (by assumption) ?_
            rotate_left 1
            · (intro w0 hS0; (try dsimp only at hS0); go_simp; try with_reducible rfl)
            try simp only [Act.put, List.setIfInBounds_toArray, List.set_cons_zero, List.set_cons_succ]
            refine wt_take (i := 13) (oi := { dst := some 48, op := Op.fieldAddr 43 (Operand.tmp 8) 2, type := 0, pos := "edge.go:36", after := #[], guard := none }) (v := ?_) [] (by kernel_rfl) rfl (by kernel_rfl) (by kernel_rfl) (by kernel_rfl) rfl (fun _ _ _ h => h) (Or.inl ⟨by rfl, ?_⟩) (by assumption) ?_
            rotate_left 1
            · (intro w0 hS0; (try dsimp only at hS0); go_simp; try with_reducible rfl)
            try simp only [Act.put, List.setIfInBounds_toArray, List.set_cons_zero, List.set_cons_succ]
            refine wt_take (i := 14) (oi := { dst := some 49, op := Op.fieldAddr 35 (Operand.tmp 48) 1, type := 0, pos := "edge.go:36", after := #[{ on := 13, ground := Ground.data }], guard := none }) (v := ?_) [] (by kernel_rfl) rfl (by kernel_rfl) (by kernel_rfl) (by kernel_rfl) rfl (fun _ _ _ h => h) (Or.inl ⟨by rfl, ?_⟩) (by assumption) ?_
            rotate_left 1
            · (intro w0 hS0; (try dsimp only at hS0); go_simp; try with_reducible rfl)
            try simp only [Act.put, List.setIfInBounds_toArray, List.set_cons_zero, List.set_cons_succ]
            refine wt_take (i := 15) (oi := { dst := some 50, op := Op.load 3 (Operand.tmp 49), type := 3, pos := "edge.go:36", after := #[{ on := 14, ground := Ground.data }], guard := none }) (v := ?_) [] (by kernel_rfl) rfl (by kernel_rfl) (by kernel_rfl) (by kernel_rfl) rfl (fun _ _ _ h => h) (Or.inl ⟨by rfl, ?_⟩) (by assumption) ?_
            rotate_left 1
            · (intro w0 hS0; (try dsimp only at hS0); go_simp; try with_reducible rfl)
            try simp only [Act.put, List.setIfInBounds_toArray, List.set_cons_zero, List.set_cons_succ]
            refine wt_take (i := 16) (oi := { dst := some 51, op := Op.fieldAddr 35 (Operand.tmp 9) 1, type := 0, pos := "edge.go:36", after := #[], guard := none }) (v := ?_) [] (by kernel_rfl) rfl (by kernel_rfl) (by kernel_rfl) (by kernel_rfl) rfl (fun _ _ _ h => h) (Or.inl ⟨by rfl, ?_⟩) (by assumption) ?_
            rotate_left 1
            · (intro w0 hS0; (try dsimp only at hS0); go_simp; try with_reducible rfl)
            try simp only [Act.put, List.setIfInBounds_toArray, List.set_cons_zero, List.set_cons_succ]
            refine wt_take (i := 17) (oi := { dst := some 52, op := Op.load 3 (Operand.tmp 51), type := 3, pos := "edge.go:36", after := #[{ on := 16, ground := Ground.data }], guard := none }) (v := ?_) [] (by kernel_rfl) rfl (by kernel_rfl) (by kernel_rfl) (by kernel_rfl) rfl (fun _ _ _ h => h) (Or.inl ⟨by rfl, ?_⟩) (by assumption) ?_
            rotate_left 1
            · (intro w0 hS0; (try dsimp only at hS0); go_simp; try with_reducible rfl)
            try simp only [Act.put, List.setIfInBounds_toArray, List.set_cons_zero, List.set_cons_succ]
            refine wt_take (i := 18) (oi := { dst := some 53, op := Op.fieldAddr 43 (Operand.tmp 8) 4, type := 0, pos := "edge.go:36", after := #[], guard := none }) (v := ?_) [] (by kernel_rfl) rfl (by kernel_rfl) (by kernel_rfl) (by kernel_rfl) rfl (fun _ _ _ h => h) (Or.inl ⟨by rfl, ?_⟩) (by assumption) ?_
            rotate_left 1
            · (intro w0 hS0; (try dsimp only at hS0); go_simp; try with_reducible rfl)
            try simp only [Act.put, List.setIfInBounds_toArray, List.set_cons_zero, List.set_cons_succ]
            refine wt_take (i := 19) (oi := { dst := some 54, op := Op.fieldAddr 35 (Operand.tmp 53) 1, type := 0, pos := "edge.go:36", after := #[{ on := 18, ground := Ground.data }], guard := none }) (v := ?_) [] (by kernel_rfl) rfl (by kernel_rfl) (by kernel_rfl) (by kernel_rfl) rfl (fun _ _ _ h => h) (Or.inl ⟨by rfl, ?_⟩) (by assumption) ?_
            rotate_left 1
            · (intro w0 hS0; (try dsimp only at hS0); go_simp; try with_reducible rfl)
            try simp only [Act.put, List.setIfInBounds_toArray, List.set_cons_zero, List.set_cons_succ]
            refine wt_take (i := 20) (oi := { dst := some 55, op := Op.load 3 (Operand.tmp 54), type := 3, pos := "edge.go:36", after := #[{ on := 19, ground := Ground.data }], guard := none }) (v := ?_) [] (by kernel_rfl) rfl (by kernel_rfl) (by kernel_rfl) (by kernel_rfl) rfl (fun _ _ _ h => h) (Or.inl ⟨by rfl, ?_⟩) (by assumption) ?_
            rotate_left 1
            · (intro w0 hS0; (try dsimp only at hS0); go_simp; try with_reducible rfl)
            try simp only [Act.put, List.setIfInBounds_toArray, List.set_cons_zero, List.set_cons_succ]
            refine wt_take (i := 21) (oi := { dst := some 56, op := Op.call { callee := Callee.builtin Builtin.min, args := #[Operand.tmp 47, Operand.tmp 50, Operand.tmp 52, Operand.tmp 55], argTypes := #[3, 3, 3, 3] }, type := 3, pos := "edge.go:36", after := #[{ on := 12, ground := Ground.data }, { on := 15, ground := Ground.data }, { on := 17, ground := Ground.data }, { on := 20, ground := Ground.data }], guard := none }) (v := ?_) [] (by kernel_rfl) rfl (by kernel_rfl) (by kernel_rfl) (by kernel_rfl) rfl (fun _ _ _ h => h) (Or.inl ⟨by rfl, ?_⟩) (by assumption) ?_
            rotate_left 1
            · (intro w0 hS0; (try dsimp only at hS0); go_simp; try with_reducible rfl)
            try simp only [Act.put, List.setIfInBounds_toArray, List.set_cons_zero, List.set_cons_succ]
            refine wt_next (i := 1) (o := { dst := some 36, op := Op.load 3 (Operand.tmp 35), type := 3, pos := "edge.go:36", after := #[{ on := 0, ground := Ground.data }], guard := none }) (by kernel_rfl) rfl (fun K hK => ?_)
            go_simp
            skip
            refine hK.out _ _ hHeld (fun hHeld => ?_)
            clear hK K
            try simp only [Act.put, List.setIfInBounds_toArray, List.set_cons_zero, List.set_cons_succ]
            refine wt_take (i := 10) (oi := { dst := some 45, op := Op.call { callee := Callee.builtin Builtin.min, args := #[Operand.tmp 36, Operand.tmp 39, Operand.tmp 41, Operand.tmp 44], argTypes := #[3, 3, 3, 3] }, type := 3, pos := "edge.go:36", after := #[{ on := 1, ground := Ground.data }, { on := 4, ground := Ground.data }, { on := 6, ground := Ground.data }, { on := 9, ground := Ground.data }], guard := none }) (v := ?_) [] (by kernel_rfl) rfl (by kernel_rfl) (by kernel_rfl) (by kernel_rfl) rfl (fun _ _ _ h => h) (Or.inl ⟨by rfl, ?_⟩) (by assumption) ?_
            rotate_left 1
            · (intro w0 hS0; (try dsimp only at hS0); go_simp; try with_reducible rfl)
            try simp only [Act.put, List.setIfInBounds_toArray, List.set_cons_zero, List.set_cons_succ]
            refine wt_take (i := 22) (oi := { dst := some 57, op := Op.fieldAddr 35 (Operand.tmp 5) 0, type := 0, pos := "edge.go:36", after := #[{ on := 0, ground := Ground.phase }, { on := 1, ground := Ground.phase }, { on := 2, ground := Ground.phase }, { on := 3, ground := Ground.phase }, { on := 4, ground := Ground.phase }, { on := 5, ground := Ground.phase }, { on := 6, ground := Ground.phase }, { on := 7, ground := Ground.phase }, { on := 8, ground := Ground.phase }, { on := 9, ground := Ground.phase }, { on := 10, ground := Ground.phase }, { on := 11, ground := Ground.phase }, { on := 12, ground := Ground.phase }, { on := 13, ground := Ground.textOnly Departure.lateStores }, { on := 14, ground := Ground.textOnly Departure.lateStores }, { on := 15, ground := Ground.textOnly Departure.lateStores }, { on := 16, ground := Ground.textOnly Departure.lateStores }, { on := 17, ground := Ground.textOnly Departure.lateStores }, { on := 18, ground := Ground.textOnly Departure.lateStores }, { on := 19, ground := Ground.textOnly Departure.lateStores }, { on := 20, ground := Ground.textOnly Departure.lateStores }, { on := 21, ground := Ground.textOnly Departure.lateStoresUnsure }], guard := none }) (v := ?_) [] (by kernel_rfl) rfl (by kernel_rfl) (by kernel_rfl) (by kernel_rfl) rfl (fun _ _ _ h => h) (Or.inl ⟨by rfl, ?_⟩) (by assumption) ?_
            rotate_left 1
            · (intro w0 hS0; (try dsimp only at hS0); go_simp; try with_reducible rfl)
            try simp only [Act.put, List.setIfInBounds_toArray, List.set_cons_zero, List.set_cons_succ]
            refine wt_next (i := 23) (o := { dst := none, op := Op.store 3 (Operand.tmp 57) (Operand.tmp 45), type := 0, pos := "edge.go:36", after := #[{ on := 22, ground := Ground.data }, { on := 10, ground := Ground.data }, { on := 0, ground := Ground.phase }, { on := 1, ground := Ground.phase }, { on := 2, ground := Ground.phase }, { on := 3, ground := Ground.phase }, { on := 4, ground := Ground.phase }, { on := 5, ground := Ground.phase }, { on := 6, ground := Ground.phase }, { on := 7, ground := Ground.phase }, { on := 8, ground := Ground.phase }, { on := 9, ground := Ground.phase }, { on := 10, ground := Ground.phase }, { on := 11, ground := Ground.phase }, { on := 12, ground := Ground.phase }, { on := 13, ground := Ground.textOnly Departure.lateStores }, { on := 14, ground := Ground.textOnly Departure.lateStores }, { on := 15, ground := Ground.textOnly Departure.lateStores }, { on := 16, ground := Ground.textOnly Departure.lateStores }, { on := 17, ground := Ground.textOnly Departure.lateStores }, { on := 18, ground := Ground.textOnly Departure.lateStores }, { on := 19, ground := Ground.textOnly Departure.lateStores }, { on := 20, ground := Ground.textOnly Departure.lateStores }, { on := 21, ground := Ground.textOnly Departure.lateStoresUnsure }], guard := none }) (by kernel_rfl) rfl (fun K hK => ?_)
            go_simp
            skip
            refine hK.out _ _ (by (try dsimp only); go_keep; all_goals (first | assumption | exact keep1 _ _ _ (by assumption))) (fun hHeld => ?_)
            clear hK K
            try simp only [Act.put, List.setIfInBounds_toArray, List.set_cons_zero, List.set_cons_succ]
            refine wt_take (i := 24) (oi := { dst := some 58, op := Op.fieldAddr 35 (Operand.tmp 5) 1, type := 0, pos := "edge.go:36", after := #[{ on := 0, ground := Ground.phase }, { on := 1, ground := Ground.phase }, { on := 2, ground := Ground.phase }, { on := 3, ground := Ground.phase }, { on := 4, ground := Ground.phase }, { on := 5, ground := Ground.phase }, { on := 6, ground := Ground.phase }, { on := 7, ground := Ground.phase }, { on := 8, ground := Ground.phase }, { on := 9, ground := Ground.phase }, { on := 10, ground := Ground.phase }, { on := 11, ground := Ground.phase }, { on := 12, ground := Ground.phase }, { on := 13, ground := Ground.phase }, { on := 14, ground := Ground.phase }, { on := 15, ground := Ground.phase }, { on := 16, ground := Ground.phase }, { on := 17, ground := Ground.phase }, { on := 18, ground := Ground.phase }, { on := 19, ground := Ground.phase }, { on := 20, ground := Ground.phase }, { on := 21, ground := Ground.phase }, { on := 22, ground := Ground.phase }, { on := 23, ground := Ground.phase }], guard := none }) (v := ?_) [] (by kernel_rfl) rfl (by kernel_rfl) (by kernel_rfl) (by kernel_rfl) rfl (fun _ _ _ h => h) (Or.inl ⟨by rfl, ?_⟩) (by assumption) ?_
            rotate_left 1
            · (intro w0 hS0; (try dsimp only at hS0); go_simp; try with_reducible rfl)
            try simp only [Act.put, List.setIfInBounds_toArray, List.set_cons_zero, List.set_cons_succ]
            refine wt_last (o := { dst := none, op := Op.store 3 (Operand.tmp 58) (Operand.tmp 56), type := 0, pos := "edge.go:36", after := #[{ on := 24, ground := Ground.data }, { on := 21, ground := Ground.data }, { on := 23, ground := Ground.chain }, { on := 0, ground := Ground.phase }, { on := 1, ground := Ground.phase }, { on := 2, ground := Ground.phase }, { on := 3, ground := Ground.phase }, { on := 4, ground := Ground.phase }, { on := 5, ground := Ground.phase }, { on := 6, ground := Ground.phase }, { on := 7, ground := Ground.phase }, { on := 8, ground := Ground.phase }, { on := 9, ground := Ground.phase }, { on := 10, ground := Ground.phase }, { on := 11, ground := Ground.phase }, { on := 12, ground := Ground.phase }, { on := 13, ground := Ground.phase }, { on := 14, ground := Ground.phase }, { on := 15, ground := Ground.phase }, { on := 16, ground := Ground.phase }, { on := 17, ground := Ground.phase }, { on := 18, ground := Ground.phase }, { on := 19, ground := Ground.phase }, { on := 20, ground := Ground.phase }, { on := 21, ground := Ground.phase }, { on := 22, ground := Ground.phase }, { on := 23, ground := Ground.phase }], guard := none }) (by kernel_rfl) (by kernel_rfl) rfl (fun K hK => ?_)
            go_simp
            refine hK.out _ _ ?_
            clear hK K hHeld
            try simp only [Act.put, List.setIfInBounds_toArray, List.set_cons_zero, List.set_cons_succ]
            all_goals
              go_wp2_with fail
              go_meet
              exact ⟨rfl, (HS.out.setLo (nx, ny)).next (Below.drew (Below.refl _ _)), (HE.out.old (on2 b5 _ (.int .i64 nx) (.int .i64 ny)) n58').bel (Below.drew (Below.refl _ _)), (HQ.out.onl (on2 b5 _ (.int .i64 nx) (.int .i64 ny)) n5').bel (Below.drew (Below.refl _ _))⟩
          case rest =>
            obtain ⟨rfl, hS, hE, hQ⟩ := hcut
            clear c0 c1 c2 c3 c4 c5 c6 c7 p0 p1 p2 p3 y0 y1 y2 y3 M1 M2 n5 n5' n58 n58' HS HE HQ
            obtain ⟨c0, c1, c2, c3, c4, c5, c6, c7⟩ := hE.cells
            obtain ⟨p0, p1, p2, p3⟩ := hQ.cells
            obtain ⟨y0, y1, y2, y3⟩ := hS.h6.cells
            dsimp only at c0 c1 c2 c3 c4 c5 c6 c7 p0 p1 y0 y1
            have HS := Lib.hid hS
            clear hS hE hQ
            have M1 := fun W => max4 hx ax qx cx W
            have M2 := fun W => max4 hy ay qy cy W
            obtain ⟨nz, hnz⟩ : ∃ x, x = max hx (max ax (max qx cx)) := ⟨_, rfl⟩
            obtain ⟨nw, hnw⟩ : ∃ x, x = max hy (max ay (max qy cy)) := ⟨_, rfl⟩
            rw [← hnz] at HBx M1
            rw [← hnw] at HBx M2
            have n6 : ¬ b6 = b9 := HN.out.2.2.1
            have n6' : ¬ b9 = b6 := fun h => HN.out.2.2.1 h.symm
            have n68 : ¬ b6 = b8 := HN.out.2.2.2.2.1
            have n68' : ¬ b8 = b6 := fun h => HN.out.2.2.2.2.1 h.symm
            clear hnz hnw
            go_upto_region 11 with fail
            refine wt_start (S := (fun w' => w'.cell? ⟨b8, 2, none⟩ = some (.int .i64 ax) ∧ w'.cell? ⟨b8, 3, none⟩ = some (.int .i64 ay) ∧ w'.cell? ⟨b8, 6, none⟩ = some (.int .i64 cx) ∧ w'.cell? ⟨b8, 7, none⟩ = some (.int .i64 cy) ∧ w'.cell? ⟨b9, 0, none⟩ = some (.int .i64 qx) ∧ w'.cell? ⟨b9, 1, none⟩ = some (.int .i64 qy) ∧ w'.cell? ⟨b6, 1, none⟩ = some (.int .i64 hy))) 25 (by kernel_rfl) ?_ (fun hHeld => ?_)
            · (try dsimp only); go_keep
            refine wt_take (i := 0) (oi := { dst := some 59, op := Op.fieldAddr 35 (Operand.tmp 6) 0, type := 0, pos := "edge.go:37", after := #[], guard := none }) (v := ?_) [] (by kernel_rfl) rfl (by kernel_rfl) (by kernel_rfl) (by kernel_rfl) rfl (fun _ _ _ h => h) (Or.inl ⟨by rfl, ?_⟩) (by assumption) ?_
            rotate_left 1
            · (intro w0 hS0; (try dsimp only at hS0); go_simp; try with_reducible rfl)
            try simp only [Act.put, List.setIfInBounds_toArray, List.set_cons_zero, List.set_cons_succ]
            refine wt_take (i := 2) (oi := { dst := some 61, op := Op.fieldAddr 43 (Operand.tmp 8) 2, type := 0, pos := "edge.go:37", after := #[], guard := none }) (v := ?_) [] (by kernel_rfl) rfl (by kernel_rfl) (by kernel_rfl) (by kernel_rfl) rfl (fun _ _ _ h => h) (Or.inl ⟨by rfl, ?_⟩) (by assumption) ?_
            rotate_left 1
            · (intro w0 hS0; (try dsimp only at hS0); go_simp; try with_reducible rfl)
            try simp only [Act.put, List.setIfInBounds_toArray, List.set_cons_zero, List.set_cons_succ]
            refine wt_take (i := 3) (oi := { dst := some 62, op := Op.fieldAddr 35 (Operand.tmp 61) 0, type := 0, pos := "edge.go:37", after := #[{ on := 2, ground := Ground.data }], guard := none }) (v := ?_) [] (by kernel_rfl) rfl (by kernel_rfl) (by kernel_rfl) (by kernel_rfl) rfl (fun _ _ _ h => h) (Or.inl ⟨by rfl, ?_⟩) (by assumption) ?_
            rotate_left 1
            · (intro w0 hS0; (try dsimp only at hS0); go_simp; try with_reducible rfl)
            try simp only [Act.put, List.setIfInBounds_toArray, List.set_cons_zero, List.set_cons_succ]
            refine wt_take (i := 4) (oi := { dst := some 63, op := Op.load 3 (Operand.tmp 62), type := 3, pos := "edge.go:37", after := #[{ on := 3, ground := Ground.data }], guard := none }) (v := ?_) [] (by kernel_rfl) rfl (by kernel_rfl) (by kernel_rfl) (by kernel_rfl) rfl (fun _ _ _ h => h) (Or.inl ⟨by rfl, ?_⟩) (by assumption) ?_
            rotate_left 1
            · (intro w0 hS0; (try dsimp only at hS0); go_simp; try with_reducible rfl)
            try simp only [Act.put, List.setIfInBounds_toArray, List.set_cons_zero, List.set_cons_succ]
            refine wt_take (i := 5) (oi := { dst := some 64, op := Op.fieldAddr 35 (Operand.tmp 9) 0, type := 0, pos := "edge.go:37", after := #[], guard := none }) (v := ?_) [] (by kernel_rfl) rfl (by kernel_rfl) (by kernel_rfl) (by kernel_rfl) rfl (fun _ _ _ h => h) (Or.inl ⟨by rfl, ?_⟩) (by assumption) ?_
            rotate_left 1
            · (intro w0 hS0; (try dsimp only at hS0); go_simp; try with_reducible rfl)
            try simp only [Act.put, List.setIfInBounds_toArray, List.set_cons_zero, List.set_cons_succ]
            refine wt_take (i := 6) (oi := { dst := some 65, op := Op.load 3 (Operand.tmp 64), type := 3, pos := "edge.go:37", after := #[{ on := 5, ground := Ground.data }], guard := none }) (v := ?_) [] (by kernel_rfl) rfl (by kernel_rfl) (by kernel_rfl) (by kernel_rfl) rfl (fun _ _ _ h => h) (Or.inl ⟨by rfl, ?_⟩) (by assumption) ?_
            rotate_left 1
            · (intro w0 hS0; (try dsimp only at hS0); go_simp; try with_reducible rfl)
            try simp only [Act.put, List.setIfInBounds_toArray, List.set_cons_zero, List.set_cons_succ]
            refine wt_take (i := 7) (oi := { dst := some 66, op := Op.fieldAddr 43 (Operand.tmp 8) 4, type := 0, pos := "edge.go:37", after := #[], guard := none }) (v := ?_) [] (by kernel_rfl) rfl (by kernel_rfl) (by kernel_rfl) (by kernel_rfl) rfl (fun _ _ _ h => h) (Or.inl ⟨by rfl, ?_⟩) (by assumption) ?_
            rotate_left 1
            · (intro w0 hS0; (try dsimp only at hS0); go_simp; try with_reducible rfl)
            try simp only [Act.put, List.setIfInBounds_toArray, List.set_cons_zero, List.set_cons_succ]
            refine wt_take (i := 8) (oi := { dst := some 67, op := Op.fieldAddr 35 (Operand.tmp 66) 0, type := 0, pos := "edge.go:37", after := #[{ on := 7, ground := Ground.data }], guard := none }) (v := ?_) [] (by kernel_rfl) rfl (by kernel_rfl) (by kernel_rfl) (by kernel_rfl) rfl (fun _ _ _ h => h) (Or.inl ⟨by rfl, ?_⟩) (by assumption) ?_
            rotate_left 1
            · (intro w0 hS0; (try dsimp only at hS0); go_simp; try with_reducible rfl)
            try simp only [Act.put, List.setIfInBounds_toArray, List.set_cons_zero, List.set_cons_succ]
            refine wt_take (i := 9) (oi := { dst := some 68, op := Op.load 3 (Operand.tmp 67), type := 3, pos := "edge.go:37", after := #[{ on := 8, ground := Ground.data }], guard := none }) (v := ?_) [] (by kernel_rfl) rfl (by kernel_rfl) (by kernel_rfl) (by kernel_rfl) rfl (fun _ _ _ h => h) (Or.inl ⟨by rfl, ?_⟩) (by assumption) ?_
            rotate_left 1
            · (intro w0 hS0; (try dsimp only at hS0); go_simp; try with_reducible rfl)
            try simp only [Act.put, List.setIfInBounds_toArray, List.set_cons_zero, List.set_cons_succ]
            refine wt_take (i := 11) (oi := { dst := some 70, op := Op.fieldAddr 35 (Operand.tmp 6) 1, type := 0, pos := "edge.go:37", after := #[], guard := none }) (v := ?_) [] (by kernel_rfl) rfl (by kernel_rfl) (by kernel_rfl) (by kernel_rfl) rfl (fun _ _ _ h => h) (Or.inl ⟨by rfl, ?_⟩) (by assumption) ?_
            rotate_left 1
            · (intro w0 hS0; (try dsimp only at hS0); go_simp; try with_reducible rfl)
            try simp only [Act.put, List.setIfInBounds_toArray, List.set_cons_zero, List.set_cons_succ]
            refine wt_take (i := 12) (oi := { dst := some 71, op := Op.load 3 (Operand.tmp 70), type := 3, pos := "edge.go:37", after := #[{ on := 11, ground := Ground.data }], guard := none }) (v := ?_) [] (by kernel_rfl) rfl (by kernel_rfl) (by kernel_rfl) (by kernel_rfl) rfl (fun _ _ _ h => h) (Or.inl ⟨by rfl, ?_⟩) (by assumption) ?_
            rotate_left 1
            · (intro w0 hS0; (try dsimp only at hS0); go_simp; try with_reducible rfl)
            try simp only [Act.put, List.setIfInBounds_toArray, List.set_cons_zero, List.set_cons_succ]
            refine wt_take (i := 13) (oi := { dst := some 72, op := Op.fieldAddr 43 (Operand.tmp 8) 2, type := 0, pos := "edge.go:37", after := #[], guard := none }) (v := ?_) [] (by kernel_rfl) rfl (by kernel_rfl) (by kernel_rfl) (by kernel_rfl) rfl (fun _ _ _ h => h) (Or.inl ⟨by rfl, ?_⟩) (by assumption) ?_
            rotate_left 1
            · (intro w0 hS0; (try dsimp only at hS0); go_simp; try with_reducible rfl)
            try simp only [Act.put, List.setIfInBounds_toArray, List.set_cons_zero, List.set_cons_succ]
            refine wt_take (i := 14) (oi := { dst := some 73, op := Op.fieldAddr 35 (Operand.tmp 72) 1, type := 0, pos := "edge.go:37", after := #[{ on := 13, ground := Ground.data }], guard := none }) (v := ?_) [] (by kernel_rfl) rfl (by kernel_rfl) (by kernel_rfl) (by kernel_rfl) rfl (fun _ _ _ h => h) (Or.inl ⟨by rfl, ?_⟩) (by assumption) ?_
            rotate_left 1
            · (intro w0 hS0; (try dsimp only at hS0); go_simp; try with_reducible rfl)
            try simp only [Act.put, List.setIfInBounds_toArray, List.set_cons_zero, List.set_cons_succ]
            refine wt_take (i := 15) (oi := { dst := some 74, op := Op.load 3 (Operand.tmp 73), type := 3, pos := "edge.go:37", after := #[{ on := 14, ground := Ground.data }], guard := none }) (v := ?_) [] (by kernel_rfl) rfl (by kernel_rfl) (by kernel_rfl) (by kernel_rfl) rfl (fun _ _ _ h => h) (Or.inl ⟨by rfl, ?_⟩) (by assumption) ?_
            rotate_left 1
            · (intro w0 hS0; (try dsimp only at hS0); go_simp; try with_reducible rfl)
            try simp only [Act.put, List.setIfInBounds_toArray, List.set_cons_zero, List.set_cons_succ]
            refine wt_take (i := 16) (oi := { dst := some 75, op := Op.fieldAddr 35 (Operand.tmp 9) 1, type := 0, pos := "edge.go:37", after := #[], guard := none }) (v := ?_) [] (by kernel_rfl) rfl (by kernel_rfl) (by kernel_rfl) (by kernel_rfl) rfl (fun _ _ _ h => h) (Or.inl ⟨by rfl, ?_⟩) (by assumption) ?_
            rotate_left 1
            · (intro w0 hS0; (try dsimp only at hS0); go_simp; try with_reducible rfl)
            try simp only [Act.put, List.setIfInBounds_toArray, List.set_cons_zero, List.set_cons_succ]
            refine wt_take (i := 17) (oi := { dst := some 76, op := Op.load 3 (Operand.tmp 75), type := 3, pos := "edge.go:37", after := #[{ on := 16, ground := Ground.data }], guard := none }) (v := ?_) [] (by kernel_rfl) rfl (by kernel_rfl) (by kernel_rfl) (by kernel_rfl) rfl (fun _ _ _ h => h) (Or.inl ⟨by rfl, ?_⟩) (by assumption) ?_
            rotate_left 1
            · (intro w0 hS0; (try dsimp only at hS0); go_simp; try with_reducible rfl)
            try simp only [Act.put, List.setIfInBounds_toArray, List.set_cons_zero, List.set_cons_succ]
            refine wt_take (i := 18) (oi := { dst := some 77, op := Op.fieldAddr 43 (Operand.tmp 8) 4, type := 0, pos := "edge.go:37", after := #[], guard := none }) (v := ?_) [] (by kernel_rfl) rfl (by kernel_rfl) (by kernel_rfl) (by kernel_rfl) rfl (fun _ _ _ h => h) (Or.inl ⟨by rfl, ?_⟩) (by assumption) ?_
            rotate_left 1
            · (intro w0 hS0; (try dsimp only at hS0); go_simp; try with_reducible rfl)
            try simp only [Act.put, List.setIfInBounds_toArray, List.set_cons_zero, List.set_cons_succ]
            refine wt_take (i := 19) (oi := { dst := some 78, op := Op.fieldAddr 35 (Operand.tmp 77) 1, type := 0, pos := "edge.go:37", after := #[{ on := 18, ground := Ground.data }], guard := none }) (v := ?_) [] (by kernel_rfl) rfl (by kernel_rfl) (by kernel_rfl) (by kernel_rfl) rfl (fun _ _ _ h => h) (Or.inl ⟨by rfl, ?_⟩) (by assumption) ?_
            rotate_left 1
            · (intro w0 hS0; (try dsimp only at hS0); go_simp; try with_reducible rfl)
            try simp only [Act.put, List.setIfInBounds_toArray, List.set_cons_zero, List.set_cons_succ]
            refine wt_take (i := 20) (oi := { dst := some 79, op := Op.load 3 (Operand.tmp 78), type := 3, pos := "edge.go:37", after := #[{ on := 19, ground := Ground.data }], guard := none }) (v := ?_) [] (by kernel_rfl) rfl (by kernel_rfl) (by kernel_rfl) (by kernel_rfl) rfl (fun _ _ _ h => h) (Or.inl ⟨by rfl, ?_⟩) (by assumption) ?_
            rotate_left 1
            · (intro w0 hS0; (try dsimp only at hS0); go_simp; try with_reducible rfl)
            try simp only [Act.put, List.setIfInBounds_toArray, List.set_cons_zero, List.set_cons_succ]
            refine wt_take (i := 21) (oi := { dst := some 80, op := Op.call { callee := Callee.builtin Builtin.max, args := #[Operand.tmp 71, Operand.tmp 74, Operand.tmp 76, Operand.tmp 79], argTypes := #[3, 3, 3, 3] }, type := 3, pos := "edge.go:37", after := #[{ on := 12, ground := Ground.data }, { on := 15, ground := Ground.data }, { on := 17, ground := Ground.data }, { on := 20, ground := Ground.data }], guard := none }) (v := ?_) [] (by kernel_rfl) rfl (by kernel_rfl) (by kernel_rfl) (by kernel_rfl) rfl (fun _ _ _ h => h) (Or.inl ⟨by rfl, ?_⟩) (by assumption) ?_
            rotate_left 1
            · (intro w0 hS0; (try dsimp only at hS0); go_simp; try with_reducible rfl)
            try simp only [Act.put, List.setIfInBounds_toArray, List.set_cons_zero, List.set_cons_succ]
            refine wt_next (i := 1) (o := { dst := some 60, op := Op.load 3 (Operand.tmp 59), type := 3, pos := "edge.go:37", after := #[{ on := 0, ground := Ground.data }], guard := none }) (by kernel_rfl) rfl (fun K hK => ?_)
            go_simp
            skip
            refine hK.out _ _ hHeld (fun hHeld => ?_)
            clear hK K
            try simp only [Act.put, List.setIfInBounds_toArray, List.set_cons_zero, List.set_cons_succ]
            refine wt_take (i := 10) (oi := { dst := some 69, op := Op.call { callee := Callee.builtin Builtin.max, args := #[Operand.tmp 60, Operand.tmp 63, Operand.tmp 65, Operand.tmp 68], argTypes := #[3, 3, 3, 3] }, type := 3, pos := "edge.go:37", after := #[{ on := 1, ground := Ground.data }, { on := 4, ground := Ground.data }, { on := 6, ground := Ground.data }, { on := 9, ground := Ground.data }], guard := none }) (v := ?_) [] (by kernel_rfl) rfl (by kernel_rfl) (by kernel_rfl) (by kernel_rfl) rfl (fun _ _ _ h => h) (Or.inl ⟨by rfl, ?_⟩) (by assumption) ?_
            rotate_left 1
            · (intro w0 hS0; (try dsimp only at hS0); go_simp; try with_reducible rfl)
            try simp only [Act.put, List.setIfInBounds_toArray, List.set_cons_zero, List.set_cons_succ]
            refine wt_take (i := 22) (oi := { dst := some 81, op := Op.fieldAddr 35 (Operand.tmp 6) 0, type := 0, pos := "edge.go:37", after := #[{ on := 0, ground := Ground.phase }, { on := 1, ground := Ground.phase }, { on := 2, ground := Ground.phase }, { on := 3, ground := Ground.phase }, { on := 4, ground := Ground.phase }, { on := 5, ground := Ground.phase }, { on := 6, ground := Ground.phase }, { on := 7, ground := Ground.phase }, { on := 8, ground := Ground.phase }, { on := 9, ground := Ground.phase }, { on := 10, ground := Ground.phase }, { on := 11, ground := Ground.phase }, { on := 12, ground := Ground.phase }, { on := 13, ground := Ground.textOnly Departure.lateStores }, { on := 14, ground := Ground.textOnly Departure.lateStores }, { on := 15, ground := Ground.textOnly Departure.lateStores }, { on := 16, ground := Ground.textOnly Departure.lateStores }, { on := 17, ground := Ground.textOnly Departure.lateStores }, { on := 18, ground := Ground.textOnly Departure.lateStores }, { on := 19, ground := Ground.textOnly Departure.lateStores }, { on := 20, ground := Ground.textOnly Departure.lateStores }, { on := 21, ground := Ground.textOnly Departure.lateStoresUnsure }], guard := none }) (v := ?_) [] (by kernel_rfl) rfl (by kernel_rfl) (by kernel_rfl) (by kernel_rfl) rfl (fun _ _ _ h => h) (Or.inl ⟨by rfl, ?_⟩) (by assumption) ?_
            rotate_left 1
            · (intro w0 hS0; (try dsimp only at hS0); go_simp; try with_reducible rfl)
            try simp only [Act.put, List.setIfInBounds_toArray, List.set_cons_zero, List.set_cons_succ]
            refine wt_next (i := 23) (o := { dst := none, op := Op.store 3 (Operand.tmp 81) (Operand.tmp 69), type := 0, pos := "edge.go:37", after := #[{ on := 22, ground := Ground.data }, { on := 10, ground := Ground.data }, { on := 0, ground := Ground.phase }, { on := 1, ground := Ground.phase }, { on := 2, ground := Ground.phase }, { on := 3, ground := Ground.phase }, { on := 4, ground := Ground.phase }, { on := 5, ground := Ground.phase }, { on := 6, ground := Ground.phase }, { on := 7, ground := Ground.phase }, { on := 8, ground := Ground.phase }, { on := 9, ground := Ground.phase }, { on := 10, ground := Ground.phase }, { on := 11, ground := Ground.phase }, { on := 12, ground := Ground.phase }, { on := 13, ground := Ground.textOnly Departure.lateStores }, { on := 14, ground := Ground.textOnly Departure.lateStores }, { on := 15, ground := Ground.textOnly Departure.lateStores }, { on := 16, ground := Ground.textOnly Departure.lateStores }, { on := 17, ground := Ground.textOnly Departure.lateStores }, { on := 18, ground := Ground.textOnly Departure.lateStores }, { on := 19, ground := Ground.textOnly Departure.lateStores }, { on := 20, ground := Ground.textOnly Departure.lateStores }, { on := 21, ground := Ground.textOnly Departure.lateStoresUnsure }], guard := none }) (by kernel_rfl) rfl (fun K hK => ?_)
            go_simp
            skip
            refine hK.out _ _ (by (try dsimp only); go_keep; all_goals (first | assumption | exact keep1 _ _ _ (by assumption))) (fun hHeld => ?_)
            clear hK K
            try simp only [Act.put, List.setIfInBounds_toArray, List.set_cons_zero, List.set_cons_succ]
            refine wt_take (i := 24) (oi := { dst := some 82, op := Op.fieldAddr 35 (Operand.tmp 6) 1, type := 0, pos := "edge.go:37", after := #[{ on := 0, ground := Ground.phase }, { on := 1, ground := Ground.phase }, { on := 2, ground := Ground.phase }, { on := 3, ground := Ground.phase }, { on := 4, ground := Ground.phase }, { on := 5, ground := Ground.phase }, { on := 6, ground := Ground.phase }, { on := 7, ground := Ground.phase }, { on := 8, ground := Ground.phase }, { on := 9, ground := Ground.phase }, { on := 10, ground := Ground.phase }, { on := 11, ground := Ground.phase }, { on := 12, ground := Ground.phase }, { on := 13, ground := Ground.phase }, { on := 14, ground := Ground.phase }, { on := 15, ground := Ground.phase }, { on := 16, ground := Ground.phase }, { on := 17, ground := Ground.phase }, { on := 18, ground := Ground.phase }, { on := 19, ground := Ground.phase }, { on := 20, ground := Ground.phase }, { on := 21, ground := Ground.phase }, { on := 22, ground := Ground.phase }, { on := 23, ground := Ground.phase }], guard := none }) (v := ?_) [] (by kernel_rfl) rfl (by kernel_rfl) (by kernel_rfl) (by kernel_rfl) rfl (fun _ _ _ h => h) (Or.inl ⟨by rfl, ?_⟩) (by assumption) ?_
            rotate_left 1
            · (intro w0 hS0; (try dsimp only at hS0); go_simp; try with_reducible rfl)
            try simp only [Act.put, List.setIfInBounds_toArray, List.set_cons_zero, List.set_cons_succ]
            refine wt_last (o := { dst := none, op := Op.store 3 (Operand.tmp 82) (Operand.tmp 80), type := 0, pos := "edge.go:37", after := #[{ on := 24, ground := Ground.data }, { on := 21, ground := Ground.data }, { on := 23, ground := Ground.chain }, { on := 0, ground := Ground.phase }, { on := 1, ground := Ground.phase }, { on := 2, ground := Ground.phase }, { on := 3, ground := Ground.phase }, { on := 4, ground := Ground.phase }, { on := 5, ground := Ground.phase }, { on := 6, ground := Ground.phase }, { on := 7, ground := Ground.phase }, { on := 8, ground := Ground.phase }, { on := 9, ground := Ground.phase }, { on := 10, ground := Ground.phase }, { on := 11, ground := Ground.phase }, { on := 12, ground := Ground.phase }, { on := 13, ground := Ground.phase }, { on := 14, ground := Ground.phase }, { on := 15, ground := Ground.phase }, { on := 16, ground := Ground.phase }, { on := 17, ground := Ground.phase }, { on := 18, ground := Ground.phase }, { on := 19, ground := Ground.phase }, { on := 20, ground := Ground.phase }, { on := 21, ground := Ground.phase }, { on := 22, ground := Ground.phase }, { on := 23, ground := Ground.phase }], guard := none }) (by kernel_rfl) (by kernel_rfl) rfl (fun K hK => ?_)
            go_simp
            refine hK.out _ _ ?_
            clear hK K hHeld
            try simp only [Act.put, List.setIfInBounds_toArray, List.set_cons_zero, List.set_cons_succ]
            all_goals
              go_wp2_with fail
              exact ⟨⟨k + 1, (nx, ny), (nz, nw), by simp, by omega, HBx.out, (HS.out.setHi (nz, nw)).next (Below.drew (Below.refl _ _))⟩, by simp [intOf]; omega⟩
      · obtain rfl : k = m := by omega
        have hf : boxR (L.drop k) lo hi = (lo, hi) := by rw [List.drop_of_length_le (by rw [HLen.out]; exact Nat.le_refl _)]; rfl
        rw [hf] at hbx
        have hx := HX.out
        rw [← hbx] at hx
        have HR := Lib.hid hx
        obtain ⟨lx, ly⟩ := lo
        obtain ⟨hx_, hy⟩ := hi
        obtain ⟨y0, y1, _, _⟩ := hS.h5.cells
        obtain ⟨z0, z1, _, _⟩ := hS.h6.cells
        obtain ⟨c0, c1, c2, c3⟩ := hS.b2.cells
        obtain ⟨d0, d1, d2, d3⟩ := hS.b3.cells
        have n5 : ¬ b5 = b := by have := hS.g5; omega
        have n5' : ¬ b = b5 := fun h => n5 h.symm
        have n6 : ¬ b6 = b := by have := hS.g6; omega
        have n6' : ¬ b = b6 := fun h => n6 h.symm
        have n7 : ¬ b5 = b + 1 := by have := hS.g5; omega
        have n7' : ¬ b + 1 = b5 := fun h => n7 h.symm
        have n8 : ¬ b6 = b + 1 := by have := hS.g6; omega
        have n8' : ¬ b + 1 = b6 := fun h => n8 h.symm
        have HS := Lib.hid hS
        dsimp only at y0 y1 z0 z1 c0 c1 d0 d1
        clear hbx hf hx hS
        go_upto_region 13 with fail
        go_region
        all_goals
          go_wp2_with fail
          have hg := HS.out.ge
          have q2 := ((HS.out.b2.set (lx, ly)).onl (on2 (b + 1) _ (.int .i64 hx_) (.int .i64 hy)) (by omega)).bel (Below.drew (Below.refl _ _))
          have q3 := ((HS.out.b3.onl (on2 b _ (.int .i64 lx) (.int .i64 ly)) (by omega)).set (hx_, hy)).bel (Below.drew (Below.refl _ _))
          have hb := Below.drew (below_st2 (below_st2 (below_st2 (below_st2 HS.out.bel (j := 0) (u := .int .i64 lx) hg) (j := 1) (u := .int .i64 ly) hg) (g := b + 1) (j := 0) (u := .int .i64 hx_) (by omega)) (g := b + 1) (j := 1) (u := .int .i64 hy) (by omega))
          exact bodyPost_ret (ret_box3 rfl rfl rfl rfl q2 q3) rfl ⟨by rw [HR.out]; rfl, hb⟩
end Go.Proofs.Ytnnanlilnlimaaa
