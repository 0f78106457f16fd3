/- Proved here: the edges of a contour (the document's contour). Condition: points that lie in memory, and may be; px from 1 up to 128. -/
import Derived.Test.YtnnanlilnlimaaaEj
namespace Go.Proofs.Ytnnanlilnlimaaa
open Go.RowKit

def egC (L : List Edg) : List Value := L.flatMap edC
theorem egC_app (a b : List Edg) : egC (a ++ b) = egC a ++ egC b := by simp [egC]
theorem egC_len : ∀ l : List Edg, (egC l).length = l.length * 8
  | [] => rfl
  | x :: l => by
    have ih := egC_len l
    have e : egC (x :: l) = edC x ++ egC l := rfl
    rw [e, List.length_append, ih, List.length_cons]
    show 8 + _ = _
    omega
theorem edC_one (e : Edg) : ∀ u ∈ edC e, u.oneCell' = true := by
  intro u hu
  unfold edC at hu
  simp at hu
  rcases hu with rfl | rfl | rfl | rfl | rfl | rfl | rfl | rfl <;> rfl
theorem egC_one (L : List Edg) : ∀ u ∈ egC L, u.oneCell' = true := by
  intro u hu
  simp only [egC, List.mem_flatMap] at hu
  obtain ⟨e, _, h⟩ := hu
  exact edC_one e u h
theorem own_grown {W W' : World} {b1 e1 s1 n1 b2 e2 s2 n2 : Nat} {v1 v2 : Value} {xs1 xs2 : List Value} (h : W.ownsRow b1 e1 s1 v1 n1 xs1) (ho : W.ownsRow b2 e2 s2 v2 n2 xs2) (hg : W.grownBy W' v2.ownBlock) (he : e1 ≠ e2) : W'.ownsRow b1 e1 s1 v1 n1 xs1 := by
  refine ⟨h.1, ?_⟩
  rcases h.2 with h0 | ⟨j, cap, cur, hv, hj, hh, rest⟩
  · exact .inl h0
  · exact .inr ⟨j, cap, cur, hv, hj, (hg.block j (heap_lt hh) (own_not ho hh he)).trans hh, rest⟩
theorem own_box {W W1 W' : World} {base e size n b : Nat} {v : Value} {xs : List Value} (h : W.ownsRow base e size v n xs) (hb : Below W.heap.size W W1) (ho : Onl b W1 W') (hw : W.heap.size ≤ b) : W'.ownsRow base e size v n xs := by
  refine ⟨h.1, ?_⟩
  rcases h.2 with h0 | ⟨j, cap, cur, hv, hj, hh, rest⟩
  · exact .inl h0
  · have hl := heap_lt hh
    exact .inr ⟨j, cap, cur, hv, hj, (ho.block j (Nat.lt_of_lt_of_le hl hb.size) (by omega)).trans ((hb.block j hl).trans hh), rest⟩
def nq (l : List Nod) (i : Nat) : Nod := l.getD i ((0, 0), false)
theorem nq_drop (l : List Nod) (k : Nat) (h : k < l.length) : l.drop k = nq l k :: l.drop (k + 1) := by
  rw [List.drop_eq_getElem_cons h]
  congr 1
  simp [nq, h]
theorem ndC_get : ∀ (l : List Nod) (i : Nat), i < l.length → (ndC l)[i * 3]? = some (.int .i64 (nq l i).1.1) ∧ (ndC l)[i * 3 + 1]? = some (.int .i64 (nq l i).1.2) ∧ (ndC l)[i * 3 + 2]? = some (.bool (nq l i).2)
  | t :: L, 0, _ => ⟨rfl, rfl, rfl⟩
  | t :: L, i + 1, h => by
    have ih := ndC_get L i (by simp at h; omega)
    have e : ndC (t :: L) = .int .i64 t.1.1 :: .int .i64 t.1.2 :: .bool t.2 :: ndC L := rfl
    rw [e, show (i + 1) * 3 = i * 3 + 3 by omega]
    exact ih
/-- A node's cells. -/
theorem node_at {W : World} {base g n c : Nat} {l : List Nod} (h : W.ownsRow base 60 3 (.slice (some ⟨g, 0, none⟩) n c) n (ndC l)) (hl : l.length = n) {i : Nat} (hi : i < n) :
    W.cell? ⟨g, i * 3, none⟩ = some (.int .i64 (nq l i).1.1) ∧ W.cell? ⟨g, i * 3 + 1, none⟩ = some (.int .i64 (nq l i).1.2) ∧ W.cell? ⟨g, i * 3 + 2, none⟩ = some (.bool (nq l i).2) := by
  obtain ⟨h1, h2, h3⟩ := ndC_get l i (by omega)
  have hc := h.cells (g := g) rfl
  refine ⟨?_, ?_, ?_⟩
  · have := hc _ _ h1; rw [add_z] at this; exact this
  · have := hc _ _ h2; rw [add_z] at this; exact this
  · have := hc _ _ h3; rw [add_z] at this; exact this
theorem Ebx.line {W : World} {b : Nat} {k ax ay : Int} (h : Ebx W b (k, false, (ax, ay), (0, 0), (0, 0))) (x y : Int) : Ebx ((W.setCell ⟨b, 6, none⟩ (.int .i64 x)).setCell ⟨b, 7, none⟩ (.int .i64 y)) b (k, false, (ax, ay), (0, 0), (x, y)) := by
  unfold Ebx edC at h ⊢
  simp [World.setCell, Array.getElem?_modify, h]
theorem Ebx.quad {W : World} {b : Nat} {k ax ay : Int} (h : Ebx W b (k, false, (ax, ay), (0, 0), (0, 0))) (x y u v : Int) : Ebx (((((W.setCell ⟨b, 1, none⟩ (.bool true)).setCell ⟨b, 4, none⟩ (.int .i64 x)).setCell ⟨b, 5, none⟩ (.int .i64 y)).setCell ⟨b, 6, none⟩ (.int .i64 u)).setCell ⟨b, 7, none⟩ (.int .i64 v)) b (k, true, (ax, ay), (x, y), (u, v)) := by
  unfold Ebx edC at h ⊢
  simp [World.setCell, Array.getElem?_modify, h]
theorem Ebx.fr {W : World} {b : Nat} {e : Edg} (h : Ebx W b e) (j : Nat) : W.frozen? ⟨b, j, none⟩ = false := by unfold Ebx at h; simp [World.frozen?, h]
/-- What is put behind: an edge whose points are not all the same. -/
theorem fil_yes {e : Edg} {r : List Edg} (h : ¬ smE e) : (e :: r).filter (fun e => decide (¬ smE e)) = e :: r.filter (fun e => decide (¬ smE e)) := List.filter_cons_of_pos (by simpa using h)
theorem fil_no {e : Edg} {r : List Edg} (h : smE e) : (e :: r).filter (fun e => decide (¬ smE e)) = r.filter (fun e => decide (¬ smE e)) := List.filter_cons_of_neg (by simpa using h)
set_option maxHeartbeats 8000000 in
set_option maxRecDepth 100000 in
theorem contour_any (A : Option Addr) (m c : Nat) (px pl : Int) (L : List Pt) (w : World) (hL : Ptl w A m L) (h1 : 1 ≤ m) (hm : m ≤ 5000) (hp : 1 ≤ px ∧ px ≤ 128) (hu : ∀ i, i < m → okU (pq L i).1 ∧ okU (pq L i).2.1) :
    Calls Try.prog 21 #[.slice A m c, .int .i64 px, .int .i64 pl] w fun e w' => ∃ A' c', e = .returned (.slice A' (cE px L pl).length c') ∧ w'.ownsRow w.heap.size 43 8 (.slice A' (cE px L pl).length c') (cE px L pl).length (egC (cE px L pl)) ∧ Below w.heap.size w w' := by
  have CW := Lib.hid (way_any A m c px L w hL h1 hm hp hu)
  have hlen := hL.len
  obtain ⟨z, R, hwz, hz⟩ := way_head px L (by omega)
  have hwl := way_len px L
  have hcE : cE px L pl = (eds pl (way px L ++ [z])).filter fun e => decide (¬ smE e) := by unfold cE; rw [hwz]; rfl
  obtain ⟨l, hl⟩ : ∃ l, l = way px L := ⟨_, rfl⟩
  rw [← hl] at CW hwz hwl hcE
  obtain ⟨kn, hkn⟩ : ∃ n, n = l.length := ⟨_, rfl⟩
  rw [← hkn] at CW hwl
  have hkb : kn ≤ 10000 := by omega
  have hk1 : 1 ≤ kn := by rw [hkn, hwz]; simp
  have HZ := Lib.hid (show nq l 0 = z from by rw [hwz]; rfl)
  have HKn := Lib.hid hkn
  have HLast := Lib.hid (show ∀ i, i < kn + 1 → (nq (l ++ [z]) i).2 = false → i < kn from fun i hi h => by
    rcases Nat.lt_or_ge i kn with h2 | h2
    · exact h2
    · have : i = kn := by omega
      subst this
      have e : nq (l ++ [z]) i = z := by unfold nq; rw [List.getD_eq_getElem?_getD, List.getElem?_append_right (by omega), hkn, Nat.sub_self]; rfl
      rw [e, hz] at h; exact absurd h (by decide))
  obtain ⟨F, hF⟩ : ∃ F, F = cE px L pl := ⟨_, rfl⟩
  rw [← hF] at hcE ⊢
  have HCE := Lib.hid hcE
  obtain ⟨i0, hi0, hz0, hz1, hz2⟩ := info_parts Try.info51z
  have H51 := Lib.hid (And.intro hi0 (And.intro hz0 (And.intro hz1 hz2)))
  obtain ⟨i1, hi1, hy0, hy1, hy2⟩ := info_parts Try.info43z
  have H43 := Lib.hid (And.intro hi1 (And.intro hy0 (And.intro hy1 hy2)))
  clear hL hu hlen hwz hl hkn hF hcE hi0 hz0 hz1 hz2 hi1 hy0 hy1 hy2 hp hz
  go_enter Try.func21, Try.ntmps21
  go_upto_region 2 with (go_at_call 30; (with_reducible refine CW.out.mono ?_); rintro e w1 ⟨A1, c1, rfl, ho, hb⟩; have HO1 := Lib.hid ho; have HB1 := Lib.hid hb; clear ho hb)
  obtain ⟨g, rfl, hnc⟩ := own_some HO1.out (by omega)
  obtain ⟨x0, x1, x2⟩ := node_at HO1.out HKn.out.symm (show 0 < kn by omega)
  rw [HZ.out] at x0 x1 x2
  obtain ⟨⟨zx, zy⟩, zo⟩ := z
  dsimp only at x0 x1 x2
  rw [Nat.zero_mul] at x0 x1 x2
  have HO2 := Lib.hid (own_bel HO1.out ((Below.refl w1.heap.size w1).alloc (Nat.le_refl _) (.cells #[.int .i64 zx, .int .i64 zy, .bool zo] 60)))
  have HB2 := Lib.hid (HB1.out.trans (((Below.refl w1.heap.size w1).alloc (Nat.le_refl _) (.cells #[.int .i64 zx, .int .i64 zy, .bool zo] 60)).mono HB1.out.size))
  go_upto_region 3 with (at_builtin; go_must (refine wpList_append_own _ rfl (.tmp 14) (.tmp 18) 57 rfl w.heap.size 60 i0 _ 3 24 Try.underlying57 H51.out.1 H51.out.2.1 H51.out.2.2.1 H51.out.2.2.2 rfl (by decide) (.slice (some ⟨g, 0, none⟩) kn c1) kn (ndC l) rfl HO2.out ⟨w1.heap.size, 0, none⟩ 1 1 [.int .i64 zx, .int .i64 zy, .bool zo] rfl rfl (cells_new _ _ _) (by intro u hu; simp at hu; rcases hu with rfl | rfl | rfl <;> rfl) (by unfold maxLen; omega) (by omega) HB2.out.size ?_); intro v' w3 hown' hg' _; obtain ⟨A3, c3, rfl⟩ := own_form hown'; have HO3 := Lib.hid hown'; have HB3 := Lib.hid (below_grown HB2.out HO2.out hg'); clear hown' hg')
  obtain ⟨g3, rfl, hnc3⟩ := own_some HO3.out (by omega)
  have HN3 := Lib.hid (show w3.ownsRow w.heap.size 60 3 (.slice (some ⟨g3, 0, none⟩) (kn + 1) c3) (kn + 1) (ndC (l ++ [((zx, zy), zo)])) from by rw [ndC_app]; exact HO3.out)
  obtain ⟨l1, hl1⟩ : ∃ l1, l1 = l ++ [((zx, zy), zo)] := ⟨_, rfl⟩
  rw [← hl1] at HN3 HLast HCE
  have HL1 := Lib.hid (show l1.length = kn + 1 from by rw [hl1, List.length_append, ← HKn.out]; rfl)
  have w0 : IntKind.i64.wrap (((kn + 1 : Nat) : Int) - 1) = (kn : Int) := by rw [i64_in _ (by omega)]; omega
  have w0' : IntKind.i64.wrap ((kn : Int) + 1 - 1) = (kn : Int) := by rw [i64_in _ (by omega)]; omega
  clear x0 x1 x2 hl1
  go_wp2_with fail
  go_loopw [8, 9] (fun v i wr => ∃ (k ke : Nat) (A' : Option Addr) (c' : Nat) (out : List Edg), i = .int .i64 (k : Int) ∧ k ≤ kn ∧ v = .slice A' ke c' ∧ out.length = ke ∧ ke ≤ k ∧ out ++ (eds pl (l1.drop k)).filter (fun e => decide (¬ smE e)) = F ∧ wr.ownsRow w.heap.size 43 8 (.slice A' ke c') ke (egC out) ∧ wr.ownsRow w.heap.size 60 3 (.slice (some ⟨g3, 0, none⟩) (kn + 1) c3) (kn + 1) (ndC l1) ∧ Below w.heap.size w wr) (fun _ i _ => kn - (intOf i).toNat)
  case atStart => exact ⟨0, 0, none, 0, [], rfl, Nat.zero_le _, rfl, rfl, Nat.le_refl _, by rw [List.drop_zero, List.nil_append]; exact HCE.out.symm, World.ownsRow_nil _ _ _ _, HN3.out, HB3.out⟩
  case round =>
    obtain ⟨k, ke, A', c', out, rfl, hk, rfl, hke, hke2, hfl, ho, hn, hb⟩ := hrel
    have HB := Lib.hid hb
    have HO := Lib.hid ho
    have HN := Lib.hid hn
    by_cases hgo : k < kn
    · obtain ⟨a0, a1, _⟩ := node_at hn HL1.out (show k < kn + 1 by omega)
      obtain ⟨b0, b1, b2⟩ := node_at hn HL1.out (show k + 1 < kn + 1 by omega)
      rw [nq_drop l1 k (by rw [HL1.out]; omega), nq_drop l1 (k + 1) (by rw [HL1.out]; omega)] at hfl
      have hlast := HLast.out (k + 1) (by omega)
      have w1_ : IntKind.i64.wrap ((k : Int) + 1) = (k : Int) + 1 := i64_in _ (by omega)
      have w2_ : IntKind.i64.wrap ((k : Int) + 2) = (k : Int) + 2 := i64_in _ (by omega)
      have g1 : (0 : Int) ≤ (k : Int) + 1 := by omega
      have g2 : (k : Int) + 1 < ((kn + 1 : Nat) : Int) := by omega
      have g3_ : (k : Int) + 1 < (kn : Int) + 1 := by omega
      obtain ⟨na, hna⟩ : ∃ n, n = nq l1 k := ⟨_, rfl⟩
      obtain ⟨nb, hnb⟩ : ∃ n, n = nq l1 (k + 1) := ⟨_, rfl⟩
      rw [← hna] at a0 a1 hfl
      rw [← hnb] at b0 b1 b2 hfl hlast
      obtain ⟨⟨ax, ay⟩, ao⟩ := na
      obtain ⟨⟨bx, by_⟩, bo⟩ := nb
      dsimp only at a0 a1 b0 b1 b2 hlast
      have HA1 := Lib.hid ((Below.refl wr.heap.size wr).alloc (Nat.le_refl _) (.cells #[.int .i64 pl, .bool false, .int .i64 ax, .int .i64 ay, .int .i64 0, .int .i64 0, .int .i64 0, .int .i64 0] 43))
      have HX1 := Lib.hid (Ebx.new wr (pl, false, (ax, ay), (0, 0), (0, 0)))
      have e0 := (HA1.out.cell (cell_lt2 b0)).trans b0
      have e1 := (HA1.out.cell (cell_lt2 b1)).trans b1
      have e2 := (HA1.out.cell (cell_lt2 b2)).trans b2
      have HNb := Lib.hid hnb
      clear hna hnb ho hn hb
      go_upto_region 7 with fail
      obtain ⟨b10, hb10⟩ : ∃ b, b = wr.heap.size := ⟨_, rfl⟩
      obtain ⟨W1, hW1⟩ : ∃ W, W = wr.alloc (.cells #[.int .i64 pl, .bool false, .int .i64 ax, .int .i64 ay, .int .i64 0, .int .i64 0, .int .i64 0, .int .i64 0] 43) := ⟨_, rfl⟩
      have HX1 : Hid (Ebx W1 b10 (pl, false, (ax, ay), (0, 0), (0, 0))) := by rw [hW1, hb10]; exact HX1
      rw [← hW1] at HA1 e0 e1 e2 ⊢
      rw [← hb10]
      have hg10 : g3 < b10 := by rw [hb10]; exact cell_lt2 b0
      have HB1w := Lib.hid (HB.out.trans (HA1.out.mono HB.out.size))
      have HO1w := Lib.hid (own_bel HO.out HA1.out)
      have HN1w := Lib.hid (own_bel HN.out HA1.out)
      have hne : ¬ g3 = b10 := by omega
      have hne2 : ¬ b10 = g3 := by omega
      have HKe := Lib.hid (And.intro hke hke2)
      have hwb : w.heap.size ≤ b10 := by rw [hb10]; exact HB.out.size
      have HWb := Lib.hid hwb
      have f1 := HX1.out.fr 1
      have f4 := HX1.out.fr 4
      have f5 := HX1.out.fr 5
      have f6 := HX1.out.fr 6
      have f7 := HX1.out.fr 7
      obtain ⟨y0, y1, y2, y3, y4, y5, y6, y7⟩ := HX1.out.cells
      dsimp only at y0 y1 y2 y3 y4 y5 y6 y7
      have hgw : wr.heap.size ≤ b10 := by rw [hb10]; exact Nat.le_refl _
      clear hW1 hb10 a0 a1 b0 b1 b2 hke hke2 hwb
      have HOn := Lib.hid (show ∀ W, Onl b10 W1 W → W.ownsRow w.heap.size 43 8 (.slice A' ke c') ke (egC out) ∧ W.ownsRow w.heap.size 60 3 (.slice (some ⟨g3, 0, none⟩) (kn + 1) c3) (kn + 1) (ndC l1) ∧ Below w.heap.size w W from fun W ho => ⟨own_box HO.out HA1.out ho hgw, own_box HN.out HA1.out ho hgw, ⟨ho.os.trans HB1w.out.os, ho.tape.trans HB1w.out.tape, ho.output.trans HB1w.out.output, Nat.le_trans HB1w.out.size ho.size, fun q hq => (ho.block q (Nat.lt_of_lt_of_le hq HB1w.out.size) (by have := HWb.out; omega)).trans (HB1w.out.block q hq)⟩⟩)
      cases bo with
      | true =>
        go_upto_region 14 with fail
        have HX := Lib.hid (HX1.out.line bx by_)
        obtain ⟨q1, q2, q3⟩ := HOn.out ((W1.setCell ⟨b10, 6, none⟩ (.int .i64 bx)).setCell ⟨b10, 7, none⟩ (.int .i64 by_)) ((Onl.set b10 _ _ _).trans (Onl.set b10 _ _ _))
        obtain ⟨W4, hW4⟩ : ∃ W, W = (W1.setCell ⟨b10, 6, none⟩ (.int .i64 bx)).setCell ⟨b10, 7, none⟩ (.int .i64 by_) := ⟨_, rfl⟩
        rw [← hW4] at HX q1 q2 q3 ⊢
        have HOw := Lib.hid q1
        have HNw := Lib.hid q2
        have HBw := Lib.hid q3
        have hnx : eds pl (((ax, ay), ao) :: ((bx, by_), true) :: l1.drop (k + 1 + 1)) = (pl, false, (ax, ay), (0, 0), (bx, by_)) :: eds pl (l1.drop (k + 1)) := by
          rw [eds_line pl _ _ _ rfl]
          have := nq_drop l1 (k + 1) (by rw [HL1.out]; omega)
          rw [this, ← HNb.out]
        clear hW4 q1 q2 q3 y0 y1 y2 y3 y4 y5 y6 y7 f1 f4 f5 f6 f7 e0 e1 e2
        obtain ⟨y0, y1, y2, y3, y4, y5, y6, y7⟩ := HX.out.cells
        dsimp only at y0 y1 y2 y3 y4 y5 y6 y7
        have CS := Lib.hid (same_any pl false ax ay 0 0 bx by_ W4)
        by_cases hs : smE (pl, false, (ax, ay), (0, 0), (bx, by_))
        · have HFl := Lib.hid (show out ++ (eds pl (l1.drop (k + 1))).filter (fun e => decide (¬ smE e)) = F from by rw [hnx, fil_no hs] at hfl; exact hfl)
          rw [decide_eq_true hs] at CS
          clear hs hfl
          go_wp2_with (go_at_call 31; (with_reducible refine CS.out.mono ?_); rintro e w5 ⟨rfl, hb⟩; have HB5 := Lib.hid hb; clear hb)
          exact ⟨⟨k + 1, ke, A', c', out, by simp, by omega, rfl, HKe.out.1, by have := HKe.out.2; omega, HFl.out, own_bel HOw.out HB5.out, own_bel HNw.out HB5.out, HBw.out.trans (HB5.out.mono HBw.out.size)⟩, by simp [intOf]; omega⟩
        · have HFl := Lib.hid (show (out ++ [(pl, false, (ax, ay), (0, 0), (bx, by_))]) ++ (eds pl (l1.drop (k + 1))).filter (fun e => decide (¬ smE e)) = F from by rw [hnx, fil_yes hs] at hfl; rw [List.append_assoc]; exact hfl)
          rw [decide_eq_false hs] at CS
          clear hs hfl
          go_upto_region 15 with (go_at_call 31; (with_reducible refine CS.out.mono ?_); rintro e w5 ⟨rfl, hb⟩; have HB5 := Lib.hid hb; clear hb)
          clear y0 y1 y2 y3 y4 y5 y6 y7
          obtain ⟨y0, y1, y2, y3, y4, y5, y6, y7⟩ := (HX.out.bel HB5.out).cells
          dsimp only at y0 y1 y2 y3 y4 y5 y6 y7
          have HO6 := Lib.hid (own_bel (own_bel HOw.out HB5.out) ((Below.refl w5.heap.size w5).alloc (Nat.le_refl _) (.cells #[.int .i64 pl, .bool false, .int .i64 ax, .int .i64 ay, .int .i64 0, .int .i64 0, .int .i64 bx, .int .i64 by_] 43)))
          have HN6 := Lib.hid (own_bel (own_bel HNw.out HB5.out) ((Below.refl w5.heap.size w5).alloc (Nat.le_refl _) (.cells #[.int .i64 pl, .bool false, .int .i64 ax, .int .i64 ay, .int .i64 0, .int .i64 0, .int .i64 bx, .int .i64 by_] 43)))
          have HB6 := Lib.hid ((HBw.out.trans (HB5.out.mono HBw.out.size)).trans (((Below.refl w5.heap.size w5).alloc (Nat.le_refl _) (.cells #[.int .i64 pl, .bool false, .int .i64 ax, .int .i64 ay, .int .i64 0, .int .i64 0, .int .i64 bx, .int .i64 by_] 43)).mono (Nat.le_trans HBw.out.size HB5.out.size)))
          have hke6 : ke ≤ 20000 := by have := HKe.out.2; omega
          go_wp2_with (at_builtin; go_must (refine wpList_append_own _ rfl (.tmp 67) (.tmp 69) 25 rfl w.heap.size 43 i1 _ 8 64 Try.underlying25 H43.out.1 H43.out.2.1 H43.out.2.2.1 H43.out.2.2.2 rfl (by decide) (.slice A' ke c') ke (egC out) rfl HO6.out ⟨w5.heap.size, 0, none⟩ 1 1 [.int .i64 pl, .bool false, .int .i64 ax, .int .i64 ay, .int .i64 0, .int .i64 0, .int .i64 bx, .int .i64 by_] rfl rfl (cells_new _ _ _) (edC_one (pl, false, (ax, ay), (0, 0), (bx, by_))) (by unfold maxLen; omega) (by omega) HB6.out.size ?_); intro v' w7 hown' hg' _; obtain ⟨A7, c7, rfl⟩ := own_form hown'; have HO7 := Lib.hid hown'; have HN7 := Lib.hid (own_grown HN6.out HO6.out hg' (by decide)); have HB7 := Lib.hid (below_grown HB6.out HO6.out hg'); clear hown' hg')
          exact ⟨⟨k + 1, ke + 1, A7, c7, out ++ [(pl, false, (ax, ay), (0, 0), (bx, by_))], by simp, by omega, rfl, by rw [List.length_append, HKe.out.1]; rfl, by have := HKe.out.2; omega, HFl.out, by rw [egC_app]; exact HO7.out, HN7.out, HB7.out⟩, by simp [intOf]; omega⟩
      | false =>
        have hk2n : k + 1 < kn := hlast rfl
        obtain ⟨d0, d1, _⟩ := node_at HN.out HL1.out (show k + 2 < kn + 1 by omega)
        have hdd := nq_drop l1 (k + 2) (by rw [HL1.out]; omega)
        obtain ⟨nd, hnd⟩ : ∃ n, n = nq l1 (k + 2) := ⟨_, rfl⟩
        rw [← hnd] at d0 d1 hdd
        obtain ⟨⟨dx, dy⟩, do_⟩ := nd
        dsimp only at d0 d1
        have i0_ := (HA1.out.cell (cell_lt2 d0)).trans d0
        have i1_ := (HA1.out.cell (cell_lt2 d1)).trans d1
        have g4 : (0 : Int) ≤ (k : Int) + 2 := by omega
        have g5 : (k : Int) + 2 < (kn : Int) + 1 := by omega
        clear hnd d0 d1
        go_upto_region 14 with fail
        have HX := Lib.hid (HX1.out.quad bx by_ dx dy)
        obtain ⟨q1, q2, q3⟩ := HOn.out (((((W1.setCell ⟨b10, 1, none⟩ (.bool true)).setCell ⟨b10, 4, none⟩ (.int .i64 bx)).setCell ⟨b10, 5, none⟩ (.int .i64 by_)).setCell ⟨b10, 6, none⟩ (.int .i64 dx)).setCell ⟨b10, 7, none⟩ (.int .i64 dy)) (((((Onl.set b10 _ _ _).trans (Onl.set b10 _ _ _)).trans (Onl.set b10 _ _ _)).trans (Onl.set b10 _ _ _)).trans (Onl.set b10 _ _ _))
        obtain ⟨W4, hW4⟩ : ∃ W, W = ((((W1.setCell ⟨b10, 1, none⟩ (.bool true)).setCell ⟨b10, 4, none⟩ (.int .i64 bx)).setCell ⟨b10, 5, none⟩ (.int .i64 by_)).setCell ⟨b10, 6, none⟩ (.int .i64 dx)).setCell ⟨b10, 7, none⟩ (.int .i64 dy) := ⟨_, rfl⟩
        rw [← hW4] at HX q1 q2 q3 ⊢
        have HOw := Lib.hid q1
        have HNw := Lib.hid q2
        have HBw := Lib.hid q3
        have hnx : eds pl (((ax, ay), ao) :: ((bx, by_), false) :: l1.drop (k + 1 + 1)) = (pl, true, (ax, ay), (bx, by_), (dx, dy)) :: eds pl (l1.drop (k + 2)) := by
          rw [show l1.drop (k + 1 + 1) = l1.drop (k + 2) from rfl, hdd, eds_quad pl _ _ _ _ (fun h => by cases h)]
        clear hW4 hdd q1 q2 q3 y0 y1 y2 y3 y4 y5 y6 y7 f1 f4 f5 f6 f7 e0 e1 e2 i0_ i1_
        obtain ⟨y0, y1, y2, y3, y4, y5, y6, y7⟩ := HX.out.cells
        dsimp only at y0 y1 y2 y3 y4 y5 y6 y7
        have CS := Lib.hid (same_any pl true ax ay bx by_ dx dy W4)
        by_cases hs : smE (pl, true, (ax, ay), (bx, by_), (dx, dy))
        · have HFl := Lib.hid (show out ++ (eds pl (l1.drop (k + 2))).filter (fun e => decide (¬ smE e)) = F from by rw [hnx, fil_no hs] at hfl; exact hfl)
          rw [decide_eq_true hs] at CS
          clear hs hfl
          go_wp2_with (go_at_call 31; (with_reducible refine CS.out.mono ?_); rintro e w5 ⟨rfl, hb⟩; have HB5 := Lib.hid hb; clear hb)
          exact ⟨⟨k + 2, ke, A', c', out, by simp, by omega, rfl, HKe.out.1, by have := HKe.out.2; omega, HFl.out, own_bel HOw.out HB5.out, own_bel HNw.out HB5.out, HBw.out.trans (HB5.out.mono HBw.out.size)⟩, by simp [intOf]; omega⟩
        · have HFl := Lib.hid (show (out ++ [(pl, true, (ax, ay), (bx, by_), (dx, dy))]) ++ (eds pl (l1.drop (k + 2))).filter (fun e => decide (¬ smE e)) = F from by rw [hnx, fil_yes hs] at hfl; rw [List.append_assoc]; exact hfl)
          rw [decide_eq_false hs] at CS
          clear hs hfl
          go_upto_region 15 with (go_at_call 31; (with_reducible refine CS.out.mono ?_); rintro e w5 ⟨rfl, hb⟩; have HB5 := Lib.hid hb; clear hb)
          clear y0 y1 y2 y3 y4 y5 y6 y7
          obtain ⟨y0, y1, y2, y3, y4, y5, y6, y7⟩ := (HX.out.bel HB5.out).cells
          dsimp only at y0 y1 y2 y3 y4 y5 y6 y7
          have HO6 := Lib.hid (own_bel (own_bel HOw.out HB5.out) ((Below.refl w5.heap.size w5).alloc (Nat.le_refl _) (.cells #[.int .i64 pl, .bool true, .int .i64 ax, .int .i64 ay, .int .i64 bx, .int .i64 by_, .int .i64 dx, .int .i64 dy] 43)))
          have HN6 := Lib.hid (own_bel (own_bel HNw.out HB5.out) ((Below.refl w5.heap.size w5).alloc (Nat.le_refl _) (.cells #[.int .i64 pl, .bool true, .int .i64 ax, .int .i64 ay, .int .i64 bx, .int .i64 by_, .int .i64 dx, .int .i64 dy] 43)))
          have HB6 := Lib.hid ((HBw.out.trans (HB5.out.mono HBw.out.size)).trans (((Below.refl w5.heap.size w5).alloc (Nat.le_refl _) (.cells #[.int .i64 pl, .bool true, .int .i64 ax, .int .i64 ay, .int .i64 bx, .int .i64 by_, .int .i64 dx, .int .i64 dy] 43)).mono (Nat.le_trans HBw.out.size HB5.out.size)))
          have hke6 : ke ≤ 20000 := by have := HKe.out.2; omega
          go_wp2_with (at_builtin; go_must (refine wpList_append_own _ rfl (.tmp 67) (.tmp 69) 25 rfl w.heap.size 43 i1 _ 8 64 Try.underlying25 H43.out.1 H43.out.2.1 H43.out.2.2.1 H43.out.2.2.2 rfl (by decide) (.slice A' ke c') ke (egC out) rfl HO6.out ⟨w5.heap.size, 0, none⟩ 1 1 [.int .i64 pl, .bool true, .int .i64 ax, .int .i64 ay, .int .i64 bx, .int .i64 by_, .int .i64 dx, .int .i64 dy] rfl rfl (cells_new _ _ _) (edC_one (pl, true, (ax, ay), (bx, by_), (dx, dy))) (by unfold maxLen; omega) (by omega) HB6.out.size ?_); intro v' w7 hown' hg' _; obtain ⟨A7, c7, rfl⟩ := own_form hown'; have HO7 := Lib.hid hown'; have HN7 := Lib.hid (own_grown HN6.out HO6.out hg' (by decide)); have HB7 := Lib.hid (below_grown HB6.out HO6.out hg'); clear hown' hg')
          exact ⟨⟨k + 2, ke + 1, A7, c7, out ++ [(pl, true, (ax, ay), (bx, by_), (dx, dy))], by simp, by omega, rfl, by rw [List.length_append, HKe.out.1]; rfl, by have := HKe.out.2; omega, HFl.out, by rw [egC_app]; exact HO7.out, HN7.out, HB7.out⟩, by simp [intOf]; omega⟩
    · obtain rfl : k = kn := by omega
      have HX := Lib.hid (show out = F from by
        rw [nq_drop l1 k (by rw [HL1.out]; omega), List.drop_of_length_le (by rw [HL1.out]; exact Nat.le_refl _), eds_one] at hfl
        rw [← hfl]; exact (List.append_nil _).symm)
      have HKe := Lib.hid hke
      clear hfl ho hn hb
      go_wp2_with fail
      go_ret
      have h := HO.out
      rw [HX.out] at h
      have hk9 := HKe.out
      rw [HX.out] at hk9
      subst hk9
      exact ⟨A', c', rfl, h, HB.out⟩
end Go.Proofs.Ytnnanlilnlimaaa
