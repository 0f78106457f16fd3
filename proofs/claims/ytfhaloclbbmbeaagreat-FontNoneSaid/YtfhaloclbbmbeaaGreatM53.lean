/- Proved here: the edges along a way (the program's along). Condition: stops that lie in memory in a row of their own · whether contours may be, in the program. Condition: at most 1000 contours that lie in memory, of at most 5000 points each. -/
import Derived.Test.YtfhaloclbbmbeaaGreatM52
import Derived.Test.YtfhaloclbbmbeaaGreatM50
namespace Go.Proofs.YtfhaloclbbmbeaaGreat
open Go.RowKit
def Sbx (W : World) (b : Nat) (x : Nod) : Prop := W.heap[b]? = some (.cells #[.int .i64 x.1.1, .int .i64 x.1.2, .bool x.2] 269 (0, 0))
theorem Sbx.new (W : World) (x : Nod) : Sbx (W.alloc (.cells #[.int .i64 x.1.1, .int .i64 x.1.2, .bool x.2] 269)) W.heap.size x := heap_alloc_new W _
theorem Sbx.bel {W W' : World} {b : Nat} {x : Nod} (h : Sbx W b x) (hb : Below W.heap.size W W') : Sbx W' b x := (hb.block b (heap_lt h)).trans h
theorem Sbx.cells {W : World} {b : Nat} {x : Nod} (h : Sbx W b x) : W.cell? ⟨b, 0, none⟩ = some (.int .i64 x.1.1) ∧ W.cell? ⟨b, 1, none⟩ = some (.int .i64 x.1.2) ∧ W.cell? ⟨b, 2, none⟩ = some (.bool x.2) :=
  ⟨cell_of_row W b 0 _ 269 (0, 0) h, cell_of_row W b 1 _ 269 (0, 0) h, cell_of_row W b 2 _ 269 (0, 0) h⟩
theorem two_s (w : World) (p q : Nod) : Sbx ((w.alloc (.cells #[.int .i64 p.1.1, .int .i64 p.1.2, .bool p.2] 269)).alloc (.cells #[.int .i64 q.1.1, .int .i64 q.1.2, .bool q.2] 269)).drew w.heap.size p ∧ Sbx ((w.alloc (.cells #[.int .i64 p.1.1, .int .i64 p.1.2, .bool p.2] 269)).alloc (.cells #[.int .i64 q.1.1, .int .i64 q.1.2, .bool q.2] 269)).drew (w.heap.size + 1) q ∧ Below w.heap.size w ((w.alloc (.cells #[.int .i64 p.1.1, .int .i64 p.1.2, .bool p.2] 269)).alloc (.cells #[.int .i64 q.1.1, .int .i64 q.1.2, .bool q.2] 269)).drew := by
  refine ⟨((Sbx.new w p).bel ((Below.refl _ _).alloc (Nat.le_refl _) _)).bel (Below.drew (Below.refl _ _)), ?_, Below.drew (((Below.refl _ _).alloc (Nat.le_refl _) _).alloc (by simp) _)⟩
  have h := (Sbx.new (w.alloc (.cells #[.int .i64 p.1.1, .int .i64 p.1.2, .bool p.2] 269)) q).bel (Below.drew (Below.refl _ _))
  rw [size_a] at h
  exact h
theorem stop_at {W : World} {base g n c : Nat} {l : List Nod} (h : W.ownsRow base 269 3 (.slice (some ⟨g, 0, none⟩) n c) n (ndC l)) (hl : l.length = n) {i : Nat} (hi : i < n) :
    W.cell? ⟨g, i * 3, none⟩ = some (.int .i64 (nq l i).1.1) ∧ W.cell? ⟨g, i * 3 + 1, none⟩ = some (.int .i64 (nq l i).1.2) ∧ W.cell? ⟨g, i * 3 + 2, none⟩ = some (.bool (nq l i).2) := by
  obtain ⟨h1, h2, h3⟩ := ndC_get l i (by omega)
  have hc := h.cells (g := g) rfl
  refine ⟨?_, ?_, ?_⟩
  · have := hc _ _ h1; rw [add_z] at this; exact this
  · have := hc _ _ h2; rw [add_z] at this; exact this
  · have := hc _ _ h3; rw [add_z] at this; exact this
theorem ring_len (l : List Nod) : (ring l).length = l.length + 2 := by unfold ring; simp
theorem ring_at {l : List Nod} {i : Nat} (hi : i < l.length + 2) : nq (ring l) i = nq l (i % l.length) := by
  unfold ring nq
  simp only [List.getD_eq_getElem?_getD]
  rcases Nat.lt_or_ge i l.length with h | h
  · rw [List.getElem?_append_left h, Nat.mod_eq_of_lt h]
  · rw [List.getElem?_append_right h]
    obtain hh | hh : i = l.length ∨ i = l.length + 1 := by omega
    · subst hh
      rw [Nat.sub_self, Nat.mod_self]
      rfl
    · subst hh
      rw [show l.length + 1 - l.length = 1 by omega, Nat.add_mod_left]
      rfl
namespace N16
theorem ring_step (pl : Int) {l : List Nod} {k : Nat} (hk : k < l.length) :
    alR pl ((ring l).drop k) = (if (nq l k).2 = true then [mkE pl (nq l k) (nq l ((k + 1) % l.length)) (nq l ((k + 2) % l.length))] else []) ++ alR pl ((ring l).drop (k + 1)) := by
  have hl := ring_len l
  rw [nq_drop (ring l) k (by omega), nq_drop (ring l) (k + 1) (by omega), nq_drop (ring l) (k + 1 + 1) (by omega), alR_more, ring_at (by omega), ring_at (by omega), ring_at (by omega), Nat.mod_eq_of_lt hk]
theorem ring_end (pl : Int) (l : List Nod) : alR pl ((ring l).drop l.length) = [] := by
  unfold ring
  rw [List.drop_left, alR_two]
end N16
theorem bel_onl {w W W' : World} {b : Nat} (h : Below w.heap.size w W) (ho : Onl b W W') (hb : w.heap.size ≤ b) : Below w.heap.size w W' :=
  ⟨ho.os.trans h.os, ho.tape.trans h.tape, ho.output.trans h.output, Nat.le_trans h.size ho.size, fun q hq => (ho.block q (Nat.lt_of_lt_of_le hq h.size) (by omega)).trans (h.block q hq)⟩
structure AlS (w W : World) (v : Value) (n : Nat) (l : List Edg) : Prop where
  own : W.ownsRow w.heap.size 129 8 v n (egC l)
  bel : Below w.heap.size w W
theorem AlS.next {w W W' : World} {v : Value} {n : Nat} {l : List Edg} (h : AlS w W v n l) (hb : Below W.heap.size W W') : AlS w W' v n l := ⟨own_bel h.own hb, h.bel.trans (hb.mono h.bel.size)⟩
theorem AlS.push {w W W' : World} {v v' : Value} {n : Nat} {l : List Edg} {e : Edg} (h : AlS w W v n l) (h1 : W'.ownsRow w.heap.size 129 8 v' (n + 1) (egC l ++ edC e)) (h2 : W.grownBy W' v.ownBlock) : AlS w W' v' (n + 1) (l ++ [e]) :=
  ⟨by rw [egC_app]; show W'.ownsRow _ _ _ _ _ (egC l ++ (edC e ++ [])); rw [List.append_nil]; exact h1, below_grown h.bel h.own h2⟩
theorem AlS.box {w W W1 W' : World} {v : Value} {n b : Nat} {l : List Edg} (h : AlS w W v n l) (hb : Below W.heap.size W W1) (ho : Onl b W1 W') (hw : W.heap.size ≤ b) : AlS w W' v n l :=
  ⟨own_box h.own hb ho hw, bel_onl (h.bel.trans (hb.mono h.bel.size)) ho (Nat.le_trans h.bel.size hw)⟩
theorem Ebx.curve {W : World} {b : Nat} {k ax ay cx cy : Int} (h : Ebx W b (k, false, (ax, ay), (0, 0), (cx, cy))) (x y u v : Int) : Ebx (((((W.setCell ⟨b, 1, none⟩ (.bool true)).setCell ⟨b, 4, none⟩ (.int .i64 x)).setCell ⟨b, 5, none⟩ (.int .i64 y)).setCell ⟨b, 6, none⟩ (.int .i64 u)).setCell ⟨b, 7, none⟩ (.int .i64 v)) b (k, true, (ax, ay), (x, y), (u, v)) := by
  unfold Ebx edC at h ⊢
  simp [World.setCell, Array.getElem?_modify, h]
namespace N16
set_option maxHeartbeats 8000000 in
set_option maxRecDepth 100000 in
theorem along_any (A : Option Addr) (n c base : Nat) (l : List Nod) (pl : Int) (w : World) (h : w.ownsRow base 269 3 (.slice A n c) n (ndC l)) (hl : l.length = n) (h0 : 0 < n) (hn : n ≤ 10000) :
    Calls Tryz.prog 125 #[.slice A n c, .int .i64 pl] w fun e w' => ∃ A' k' c', e = .returned (.slice A' k' c') ∧ k' = ((alR pl (ring l)).filter fun e => decide (¬ smE e)).length ∧ AlS w w' (.slice A' k' c') k' ((alR pl (ring l)).filter fun e => decide (¬ smE e)) := by
  obtain ⟨g, rfl, hnc⟩ := own_some h (by omega)
  have HC := Lib.hid (show ∀ W, Below w.heap.size w W → ∀ i, i < n → W.cell? ⟨g, i * 3, none⟩ = some (.int .i64 (nq l i).1.1) ∧ W.cell? ⟨g, i * 3 + 1, none⟩ = some (.int .i64 (nq l i).1.2) ∧ W.cell? ⟨g, i * 3 + 2, none⟩ = some (.bool (nq l i).2) from fun W hb i hi => stop_at (own_bel h hb) hl hi)
  have HL := Lib.hid hl
  obtain ⟨F, hF⟩ : ∃ F, F = (alR pl (ring l)).filter fun e => decide (¬ smE e) := ⟨_, rfl⟩
  have HF := Lib.hid hF
  rw [← hF]
  obtain ⟨i1, hi1, hy0, hy1, hy2⟩ := info_parts Tryz.info43z
  have H43 := Lib.hid (And.intro hi1 (And.intro hy0 (And.intro hy1 hy2)))
  clear h hl hF hi1 hy0 hy1 hy2
  go_enter Tryz.func125, Tryz.ntmps125
  go_wp2_with fail
  go_loopw [5, 13] (fun v i wr => ∃ (k ke : Nat) (A' : Option Addr) (c' : Nat) (out : List Edg), i = .int .i64 (k : Int) ∧ k ≤ n ∧ v = .slice A' ke c' ∧ out.length = ke ∧ ke ≤ k ∧ out ++ (alR pl ((ring l).drop k)).filter (fun e => decide (¬ smE e)) = F ∧ AlS w wr (.slice A' ke c') ke out) (fun _ i _ => n - (intOf i).toNat)
  case atStart => exact ⟨0, 0, none, 0, [], rfl, Nat.zero_le _, rfl, rfl, Nat.le_refl _, by rw [List.drop_zero, List.nil_append]; exact HF.out.symm, World.ownsRow_nil _ _ _ _, Below.refl _ _⟩
  case round =>
    obtain ⟨k, ke, A', c', out, rfl, hk, rfl, hke, hke2, hfl, hS⟩ := hrel
    by_cases hgo : k < n
    · obtain ⟨a0, a1, a2⟩ := HC.out _ hS.bel k hgo
      have hst := ring_step pl (l := l) (k := k) (by rw [HL.out]; exact hgo)
      rw [HL.out] at hst
      rw [hst] at hfl
      obtain ⟨j1, hj1⟩ : ∃ j, j = (k + 1) % n := ⟨_, rfl⟩
      obtain ⟨j2, hj2⟩ : ∃ j, j = (k + 2) % n := ⟨_, rfl⟩
      have hj1m : j1 < n := by rw [hj1]; exact Nat.mod_lt _ h0
      have hj2m : j2 < n := by rw [hj2]; exact Nat.mod_lt _ h0
      rw [← hj1, ← hj2] at hfl
      have w3 : ((k : Int) + 1).tmod (n : Int) = (j1 : Int) := by
        rw [Int.tmod_eq_emod_of_nonneg (by omega), hj1]
        exact (Int.natCast_emod _ _).symm
      have w4 : ((k : Int) + 2).tmod (n : Int) = (j2 : Int) := by
        rw [Int.tmod_eq_emod_of_nonneg (by omega), hj2]
        exact (Int.natCast_emod _ _).symm
      have w5 : IntKind.i64.wrap (j1 : Int) = (j1 : Int) := i64_in _ (by omega)
      have w6 : IntKind.i64.wrap (j2 : Int) = (j2 : Int) := i64_in _ (by omega)
      have w7 : IntKind.i64.wrap ((k : Int) + 1) = (k : Int) + 1 := i64_in _ (by omega)
      have w8 : IntKind.i64.wrap ((k : Int) + 2) = (k : Int) + 2 := i64_in _ (by omega)
      have w9 : ((n : Int) == 0) = false := by simp; omega
      have w10 : ¬ n = 0 := by omega
      have g1 : (0 : Int) ≤ (j1 : Int) := by omega
      have g2 : (j1 : Int) < (n : Int) := by omega
      have g3 : (0 : Int) ≤ (j2 : Int) := by omega
      have g4 : (j2 : Int) < (n : Int) := by omega
      obtain ⟨na, hna⟩ : ∃ x, x = nq l k := ⟨_, rfl⟩
      obtain ⟨nb, hnb⟩ : ∃ x, x = nq l j1 := ⟨_, rfl⟩
      obtain ⟨nd, hnd⟩ : ∃ x, x = nq l j2 := ⟨_, rfl⟩
      rw [← hna] at a0 a1 a2 hfl
      rw [← hnb, ← hnd] at hfl
      have HNb := Lib.hid hnb
      have HNd := Lib.hid hnd
      obtain ⟨⟨ax, ay⟩, ao⟩ := na
      dsimp only at a0 a1 a2
      have HS1 := Lib.hid (hS.next ((Below.refl wr.heap.size wr).alloc (Nat.le_refl _) (.cells #[.int .i64 ax, .int .i64 ay, .bool ao] 269)))
      have HX1 := Lib.hid (Sbx.new wr ((ax, ay), ao))
      have HKe := Lib.hid (And.intro hke hke2)
      clear hst hj1 hj2 hna hnb hnd hS hke hke2
      go_upto_region 5 with fail
      obtain ⟨b7, hb7⟩ : ∃ b, b = wr.heap.size := ⟨_, rfl⟩
      obtain ⟨W1, hW1⟩ : ∃ W, W = wr.alloc (.cells #[.int .i64 ax, .int .i64 ay, .bool ao] 269) := ⟨_, rfl⟩
      have HX1 : Hid (Sbx W1 b7 ((ax, ay), ao)) := by rw [hW1, hb7]; exact HX1
      rw [← hW1] at HS1 ⊢
      rw [← hb7]
      clear hW1 hb7 a0 a1 a2
      obtain ⟨y0, y1, y2⟩ := HX1.out.cells
      dsimp only at y0 y1 y2
      cases ao with
      | false =>
        have HFl := Lib.hid (show out ++ (alR pl ((ring l).drop (k + 1))).filter (fun e => decide (¬ smE e)) = F from hfl)
        clear hfl
        go_wp2_with fail
        exact ⟨⟨k + 1, ke, A', c', out, by simp, by omega, rfl, HKe.out.1, by have := HKe.out.2; omega, HFl.out, HS1.out⟩, by simp [intOf]; omega⟩
      | true =>
        have hfl2 : out ++ (mkE pl ((ax, ay), true) nb nd :: alR pl ((ring l).drop (k + 1))).filter (fun e => decide (¬ smE e)) = F := hfl
        have HFl := Lib.hid hfl2
        obtain ⟨c0, c1, c2⟩ := HC.out _ HS1.out.bel j1 hj1m
        obtain ⟨d0, d1, d2⟩ := HC.out _ HS1.out.bel j2 hj2m
        rw [← HNb.out] at c0 c1 c2
        rw [← HNd.out] at d0 d1 d2
        obtain ⟨⟨bx, by_⟩, bo⟩ := nb
        obtain ⟨⟨dx, dy⟩, do_⟩ := nd
        dsimp only at c0 c1 c2 d0 d1 d2
        have hZ : ∀ o1 o2, Below W1.heap.size W1 ((W1.alloc o1).alloc o2).drew := fun o1 o2 => Below.drew (((Below.refl _ _).alloc (Nat.le_refl _) o1).alloc (by simp) o2)
        have hY : ∀ o1, Below W1.heap.size W1 (W1.alloc o1).drew := fun o1 => Below.drew ((Below.refl _ _).alloc (Nat.le_refl _) o1)
        have c0' := fun o1 o2 => ((hZ o1 o2).cell (cell_lt2 c0)).trans c0
        have c1' := fun o1 o2 => ((hZ o1 o2).cell (cell_lt2 c1)).trans c1
        have c2' := fun o1 o2 => ((hZ o1 o2).cell (cell_lt2 c2)).trans c2
        have d0' := fun o1 o2 => ((hZ o1 o2).cell (cell_lt2 d0)).trans d0
        have d1' := fun o1 o2 => ((hZ o1 o2).cell (cell_lt2 d1)).trans d1
        have d2' := fun o1 o2 => ((hZ o1 o2).cell (cell_lt2 d2)).trans d2
        have c0'' := fun o1 => ((hY o1).cell (cell_lt2 c0)).trans c0
        have c1'' := fun o1 => ((hY o1).cell (cell_lt2 c1)).trans c1
        have c2'' := fun o1 => ((hY o1).cell (cell_lt2 c2)).trans c2
        have d0'' := fun o1 => ((hY o1).cell (cell_lt2 d0)).trans d0
        have d1'' := fun o1 => ((hY o1).cell (cell_lt2 d1)).trans d1
        have d2'' := fun o1 => ((hY o1).cell (cell_lt2 d2)).trans d2
        clear hfl hfl2 hZ hY
        go_upto_region 6 with fail
        go_cut [8, 9] from 14 to 60 (fun v8 v9 wx => ∃ b8 b9, v8 = .pointer (some ⟨b8, 0, none⟩) ∧ v9 = .pointer (some ⟨b9, 0, none⟩) ∧ Sbx wx b8 ((bx, by_), bo) ∧ Sbx wx b9 ((dx, dy), do_) ∧ Below W1.heap.size W1 wx)
        case first =>
          go_region
          · go_wp2_with fail
            go_meet
            exact ⟨_, _, rfl, rfl, (two_s W1 ((bx, by_), bo) ((dx, dy), do_)).1, (two_s W1 ((bx, by_), bo) ((dx, dy), do_)).2.1, (two_s W1 ((bx, by_), bo) ((dx, dy), do_)).2.2⟩
          · go_wp2_with fail
            go_meet
            exact ⟨_, _, rfl, rfl, (two_s W1 ((dx, dy), do_) ((bx, by_), bo)).2.1, (two_s W1 ((dx, dy), do_) ((bx, by_), bo)).1, (two_s W1 ((dx, dy), do_) ((bx, by_), bo)).2.2⟩
        case rest =>
          obtain ⟨b8, b9, rfl, rfl, hP8, hP9, hbw⟩ := hcut
          have hX := HX1.out.bel hbw
          have HSw := Lib.hid (HS1.out.next hbw)
          clear y0 y1 y2 c0 c1 c2 d0 d1 d2
          obtain ⟨y0, y1, y2⟩ := hX.cells
          obtain ⟨c0, c1, c2⟩ := hP8.cells
          obtain ⟨d0, d1, d2⟩ := hP9.cells
          dsimp only at y0 y1 y2 c0 c1 c2 d0 d1 d2
          have hA := (Below.refl wc.heap.size wc).alloc (Nat.le_refl _) (.cells #[.int .i64 pl, .bool false, .int .i64 ax, .int .i64 ay, .int .i64 0, .int .i64 0, .int .i64 bx, .int .i64 by_] 129)
          have HA := Lib.hid hA
          have HE := Lib.hid (Ebx.new wc (pl, false, (ax, ay), (0, 0), (bx, by_)))
          have HP8 := Lib.hid (hP8.bel hA)
          have HP9 := Lib.hid (hP9.bel hA)
          have hne8 : b8 < wc.heap.size := heap_lt hP8
          have hne9 : b9 < wc.heap.size := heap_lt hP9
          clear hX hP8 hP9 hbw hA c0' c1' c2' d0' d1' d2' c0'' c1'' c2'' d0'' d1'' d2''
          go_upto_region 8 with fail
          obtain ⟨b, hb⟩ : ∃ b, b = wc.heap.size := ⟨_, rfl⟩
          obtain ⟨W3, hW3⟩ : ∃ W, W = wc.alloc (.cells #[.int .i64 pl, .bool false, .int .i64 ax, .int .i64 ay, .int .i64 0, .int .i64 0, .int .i64 bx, .int .i64 by_] 129) := ⟨_, rfl⟩
          have HE : Hid (Ebx W3 b (pl, false, (ax, ay), (0, 0), (bx, by_))) := by rw [hW3, hb]; exact HE
          rw [← hW3] at HA HP8 HP9 ⊢
          rw [← hb]
          have hgb : wc.heap.size ≤ b := by omega
          have hb8 : ¬ b8 = b := by omega
          have hb9 : ¬ b9 = b := by omega
          have hb8' : ¬ b = b8 := by omega
          have hb9' : ¬ b = b9 := by omega
          clear hW3 hb y0 y1 y2 c0 c1 c2 d0 d1 d2 hne8 hne9
          obtain ⟨c0, c1, c2⟩ := HP8.out.cells
          obtain ⟨d0, d1, d2⟩ := HP9.out.cells
          obtain ⟨y0, y1, y2, y3, y4, y5, y6, y7⟩ := HE.out.cells
          have f1 := HE.out.fr 1
          have f4 := HE.out.fr 4
          have f5 := HE.out.fr 5
          have f6 := HE.out.fr 6
          have f7 := HE.out.fr 7
          dsimp only at y0 y1 y2 y3 y4 y5 y6 y7 c0 c1 c2 d0 d1 d2
          go_upto_if 45 with fail
          go_cut [13] from 14 to 60 (fun v13 wx => v13 = .int .i64 (k : Int) ∧ AlS w wx (.slice A' ke c') ke out ∧ Ebx wx b (mkE pl ((ax, ay), true) ((bx, by_), bo) ((dx, dy), do_)))
          case first =>
            cases bo with
            | true =>
              go_wp2_with fail
              go_meet
              exact ⟨rfl, HSw.out.next HA.out, HE.out⟩
            | false =>
              go_wp2_with fail
              go_region
              all_goals
                go_wp2_with fail
                go_meet
                exact ⟨rfl, (HSw.out.box HA.out (((((Onl.set b _ _ _).trans (Onl.set b _ _ _)).trans (Onl.set b _ _ _)).trans (Onl.set b _ _ _)).trans (Onl.set b _ _ _)) hgb).next (Below.drew (Below.refl _ _)), (HE.out.curve bx by_ dx dy).bel (Below.drew (Below.refl _ _))⟩
          case rest =>
            obtain ⟨rfl, hS, hE⟩ := hcut
            have HS := Lib.hid hS
            have HFl := HFl
            obtain ⟨E, hEE⟩ : ∃ E, E = mkE pl ((ax, ay), true) ((bx, by_), bo) ((dx, dy), do_) := ⟨_, rfl⟩
            rw [← hEE] at hE HFl
            obtain ⟨ek, eq, ⟨px, py⟩, ⟨qx, qy⟩, ⟨rx, ry⟩⟩ := E
            have HE := Lib.hid hE
            clear y0 y1 y2 y3 y4 y5 y6 y7 f1 f4 f5 f6 f7 c0 c1 c2 d0 d1 d2 hEE hS
            obtain ⟨y0, y1, y2, y3, y4, y5, y6, y7⟩ := hE.cells
            dsimp only at y0 y1 y2 y3 y4 y5 y6 y7
            clear hE
            have CS := Lib.hid (dot_any ek eq px py qx qy rx ry wc)
            by_cases hs : smE (ek, eq, (px, py), (qx, qy), (rx, ry))
            · have HFn := Lib.hid (show out ++ (alR pl ((ring l).drop (k + 1))).filter (fun e => decide (¬ smE e)) = F from by have h := HFl.out; rw [fil_no hs] at h; exact h)
              rw [decide_eq_true hs] at CS
              clear hs
              go_wp2_with (go_at_call 193; (with_reducible refine CS.out.mono ?_); rintro e w5 ⟨rfl, hb⟩; have HB5 := Lib.hid hb; clear hb)
              exact ⟨⟨k + 1, ke, A', c', out, by simp, by omega, rfl, HKe.out.1, by have := HKe.out.2; omega, HFn.out, HS.out.next HB5.out⟩, by simp [intOf]; omega⟩
            · have HFn := Lib.hid (show (out ++ [(ek, eq, (px, py), (qx, qy), (rx, ry))]) ++ (alR pl ((ring l).drop (k + 1))).filter (fun e => decide (¬ smE e)) = F from by have h := HFl.out; rw [fil_yes hs] at h; rw [List.append_assoc]; exact h)
              rw [decide_eq_false hs] at CS
              clear hs
              go_upto_region 11 with (go_at_call 193; (with_reducible refine CS.out.mono ?_); rintro e w5 ⟨rfl, hb⟩; have HB5 := Lib.hid hb; clear hb)
              clear y0 y1 y2 y3 y4 y5 y6 y7
              obtain ⟨y0, y1, y2, y3, y4, y5, y6, y7⟩ := (HE.out.bel HB5.out).cells
              dsimp only at y0 y1 y2 y3 y4 y5 y6 y7
              have HS6 := Lib.hid ((HS.out.next HB5.out).next ((Below.refl w5.heap.size w5).alloc (Nat.le_refl _) (.cells #[.int .i64 ek, .bool eq, .int .i64 px, .int .i64 py, .int .i64 qx, .int .i64 qy, .int .i64 rx, .int .i64 ry] 129)))
              have hke6 : ke ≤ 20000 := by have := HKe.out.2; omega
              go_wp2_with (at_builtin; go_must (refine wpList_append_own _ rfl (.tmp 56) (.tmp 58) 52 rfl w.heap.size 129 i1 _ 8 64 Tryz.underlying52 H43.out.1 H43.out.2.1 H43.out.2.2.1 H43.out.2.2.2 rfl (by decide) (.slice A' ke c') ke (egC out) rfl HS6.out.own ⟨w5.heap.size, 0, none⟩ 1 1 [.int .i64 ek, .bool eq, .int .i64 px, .int .i64 py, .int .i64 qx, .int .i64 qy, .int .i64 rx, .int .i64 ry] rfl rfl (cells_new _ _ _) (edC_one (ek, eq, (px, py), (qx, qy), (rx, ry))) (by unfold maxLen; omega) (by omega) HS6.out.bel.size ?_); intro v' w7 hown' hg' _; have HS7 := Lib.hid (HS6.out.push (e := (ek, eq, (px, py), (qx, qy), (rx, ry))) hown' hg'); obtain ⟨A7, c7, rfl⟩ := own_form hown'; clear hown' hg')
              exact ⟨⟨k + 1, ke + 1, A7, c7, out ++ [(ek, eq, (px, py), (qx, qy), (rx, ry))], by simp, by omega, rfl, by rw [List.length_append, HKe.out.1]; rfl, by have := HKe.out.2; omega, HFn.out, HS7.out⟩, by simp [intOf]; omega⟩
    · obtain rfl : k = n := by omega
      have HX := Lib.hid (show out = F from by
        have e := ring_end pl l
        rw [HL.out] at e
        rw [e] at hfl
        rw [← hfl]; exact (List.append_nil _).symm)
      have HKe := Lib.hid hke
      have HS := Lib.hid hS
      clear hfl hS
      go_wp2_with fail
      go_ret
      exact ⟨A', ke, c', rfl, by rw [← HX.out]; exact HKe.out.symm, by rw [← HX.out]; exact HS.out⟩
end N16
end Go.Proofs.YtfhaloclbbmbeaaGreat
namespace Go.Proofs.YtfhaloclbbmbeaaGreat
open Go.RowKit
namespace N16
set_option maxHeartbeats 4000000 in
theorem may_any (A : Option Addr) (m c : Nat) (LL : List (List Pt)) (w : World) (hP : Ctl w A m LL) (hm : m ≤ 1000) (hl : ∀ i, i < m → (ct LL i).length ≤ 5000) :
    Calls Tryz.prog 124 #[.slice A m c] w fun e w' => e = .returned (.bool (decide (MayG LL))) ∧ Below w.heap.size w w' := by
  have hlen := hP.len
  by_cases h256 : 256 < m
  · rw [decide_eq_false (show ¬ MayG LL from fun h => by have := h.1; omega)]
    clear hlen hP hl
    go_enter Tryz.func124, Tryz.ntmps124
    go_wp2_with fail
    go_ret
    exact ⟨rfl, Below.refl _ _⟩
  · have HY := Lib.hid (show (∀ i, i < m → okC LL i) → decide (MayG LL) = true from fun h => decide_eq_true ⟨by omega, by rw [hlen]; exact h⟩)
    have HN := Lib.hid (show ∀ k, k < m → ¬ okC LL k → decide (MayG LL) = false from fun k hk h => decide_eq_false fun h2 => h (h2.2 k (by omega)))
    have HI := Lib.hid hP
    have HL := Lib.hid hl
    have CU := Lib.hid (fun x W => unit_any x W)
    clear hlen hP hl
    go_enter Tryz.func124, Tryz.ntmps124
    go_wp2_with fail
    go_loopw [3, 13] (fun v i wr => ∃ k : Nat, i = .int .i64 (k : Int) ∧ k ≤ m ∧ v = .int .i64 (tot LL k : Int) ∧ tot LL k ≤ 4096 ∧ (∀ i, i < k → okC LL i) ∧ Below w.heap.size w wr) (fun _ i _ => m - (intOf i).toNat)
    case atStart => exact ⟨0, rfl, Nat.zero_le _, rfl, by simp [tot], fun i hi => by omega, Below.refl _ _⟩
    case round =>
      obtain ⟨k, rfl, hk, rfl, ht, hok, hb⟩ := hrel
      have HB := Lib.hid hb
      have HOK := Lib.hid hok
      by_cases hgo : k < m
      · obtain ⟨a, B, c0, rfl, hc, hpt⟩ := HI.out.at_ hb hgo
        have HSU := Lib.hid (show okC LL k → ∀ i, i < k + 1 → okC LL i from all_succ hok)
        have HNK := Lib.hid (HN.out k hgo)
        have hn5 := HL.out k hgo
        have HO := Lib.hid (show okC LL k ↔ (1 ≤ (ct LL k).length ∧ tot LL k + (ct LL k).length ≤ 4096) ∧ ∀ j, j < (ct LL k).length → okP (ct LL k) j from Iff.rfl)
        have HT := Lib.hid (show tot LL (k + 1) = tot LL k + (ct LL k).length from rfl)
        obtain ⟨L, hL⟩ : ∃ L, L = ct LL k := ⟨_, rfl⟩
        rw [← hL] at hc hpt hn5 HO HT
        obtain ⟨n, hn⟩ : ∃ n, n = L.length := ⟨_, rfl⟩
        rw [← hn] at hc hpt hn5 HO HT
        obtain ⟨t, ht2⟩ : ∃ t, t = tot LL k := ⟨_, rfl⟩
        rw [← ht2] at ht HO HT ⊢
        have HPt := Lib.hid hpt
        have e1 : IntKind.i64.wrap ((t : Int) + (n : Int)) = ((t + n : Nat) : Int) := by rw [i64_in _ (by omega)]; omega
        obtain ⟨u, hu⟩ : ∃ u, u = t + n := ⟨_, rfl⟩
        rw [← hu] at e1 HO HT
        clear hb hok hpt hL hn ht2 hu ht
        by_cases hn0 : n = 0
        · have e2 : ((n : Int) == 0) = true := by simp [hn0]
          have HX := Lib.hid (HNK.out fun h => by have := HO.out.1 h; omega)
          clear hn0
          go_wp2_with fail
          go_ret
          exact ⟨by rw [HX.out]; rfl, HB.out⟩
        · have e2 : ((n : Int) == 0) = false := by simp [hn0]
          by_cases hu4 : 4096 < u
          · have HX := Lib.hid (HNK.out fun h => by have := HO.out.1 h; omega)
            clear hn0
            go_wp2_with fail
            go_ret
            exact ⟨by rw [HX.out]; rfl, HB.out⟩
          · have hn1 := Lib.hid (show 1 ≤ n ∧ u ≤ 4096 by omega)
            clear hn0
            go_wp2_with fail
            go_loopw [30] (fun v wi => ∃ j : Nat, v = .int .i64 (j : Int) ∧ j ≤ n ∧ (∀ i, i < j → okP L i) ∧ Below wr.heap.size wr wi) (fun v _ => n - (intOf v).toNat)
            case atStart => exact ⟨0, rfl, Nat.zero_le _, fun i hi => by omega, Below.refl _ _⟩
            case round =>
              obtain ⟨j, rfl, hj, hokj, hbi⟩ := hrel
              have HBi := Lib.hid (HB.out.trans (hbi.mono HB.out.size))
              have HBj := Lib.hid hbi
              have HOKj := Lib.hid hokj
              by_cases hgj : j < n
              · obtain ⟨b, rfl, d0, d1, d2⟩ := HPt.out.at_ hbi hgj
                have HSj := Lib.hid (show okP L j → ∀ i, i < j + 1 → okP L i from all_succ hokj)
                have HPj := Lib.hid (show okP L j ↔ okU (px L j) ∧ okU (py L j) from Iff.rfl)
                have HNj := Lib.hid (show ¬ okP L j → decide (MayG LL) = false from fun h => HNK.out fun h2 => h ((HO.out.1 h2).2 j hgj))
                obtain ⟨x, hx⟩ : ∃ x, x = px L j := ⟨_, rfl⟩
                obtain ⟨y, hy⟩ : ∃ y, y = py L j := ⟨_, rfl⟩
                obtain ⟨o, ho⟩ : ∃ o, o = po L j := ⟨_, rfl⟩
                rw [← hx] at d0 HPj
                rw [← hy] at d1 HPj
                rw [← ho] at d2
                clear hbi hokj hx hy ho
                by_cases hx1 : okU x
                · have CX := Lib.hid (fun W => CU.out x W)
                  rw [decide_eq_true hx1] at CX
                  by_cases hy1 : okU y
                  · have CY := Lib.hid (fun W => CU.out y W)
                    rw [decide_eq_true hy1] at CY
                    have HX := Lib.hid (HSj.out (HPj.out.2 ⟨hx1, hy1⟩))
                    clear hx1 hy1
                    go_wp2_with (first
                      | (go_at_call 192; (with_reducible refine (CX.out _).mono ?_); rintro e w1 ⟨rfl, rfl⟩)
                      | (go_at_call 192; (with_reducible refine (CY.out _).mono ?_); rintro e w1 ⟨rfl, rfl⟩))
                    exact ⟨⟨j + 1, by simp, by omega, HX.out, HBj.out.alloc HBj.out.size _⟩, by simp [intOf]; omega⟩
                  · have CY := Lib.hid (fun W => CU.out y W)
                    rw [decide_eq_false hy1] at CY
                    have HX := Lib.hid (HNj.out fun h => hy1 (HPj.out.1 h).2)
                    clear hx1 hy1
                    go_wp2_with (first
                      | (go_at_call 192; (with_reducible refine (CX.out _).mono ?_); rintro e w1 ⟨rfl, rfl⟩)
                      | (go_at_call 192; (with_reducible refine (CY.out _).mono ?_); rintro e w1 ⟨rfl, rfl⟩))
                    go_ret
                    exact ⟨by rw [HX.out]; rfl, HBi.out.alloc HBi.out.size _⟩
                · have CX := Lib.hid (fun W => CU.out x W)
                  rw [decide_eq_false hx1] at CX
                  have HX := Lib.hid (HNj.out fun h => hx1 (HPj.out.1 h).1)
                  clear hx1
                  go_wp2_with (go_at_call 192; (with_reducible refine (CX.out _).mono ?_); rintro e w1 ⟨rfl, rfl⟩)
                  go_ret
                  exact ⟨by rw [HX.out]; rfl, HBi.out.alloc HBi.out.size _⟩
              · obtain rfl : j = n := by omega
                have HX := Lib.hid (HSU.out (HO.out.2 ⟨hn1.out, hokj⟩))
                clear hbi hokj
                go_wp2_with fail
                exact ⟨⟨k + 1, by simp, by omega, by rw [HT.out], by rw [HT.out]; exact hn1.out.2, HX.out, HBi.out⟩, by simp [intOf]; omega⟩
      · obtain rfl : k = m := by omega
        have HX := Lib.hid (HY.out hok)
        clear hb hok
        go_wp2_with fail
        go_ret
        exact ⟨by rw [HX.out]; rfl, HB.out⟩
end N16
end Go.Proofs.YtfhaloclbbmbeaaGreat
