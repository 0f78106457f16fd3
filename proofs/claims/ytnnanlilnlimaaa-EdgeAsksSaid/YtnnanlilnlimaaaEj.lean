/- Proved here: the way of a contour (the document's way). Condition: points that lie in memory, and may be; px from 1 up to 128. -/
import Derived.Test.YtnnanlilnlimaaaEi
namespace Go.Proofs.Ytnnanlilnlimaaa
open Go.RowKit

theorem own_base {w : World} {b1 b2 e size n : Nat} {v : Value} {xs : List Value} (h : w.ownsRow b1 e size v n xs) (hb : b2 ≤ b1) : w.ownsRow b2 e size v n xs := by
  refine ⟨h.1, ?_⟩
  rcases h.2 with h1 | ⟨g, cap, cur, h1, h3, h4⟩
  · exact .inl h1
  · exact .inr ⟨g, cap, cur, h1, Nat.le_trans hb h3, h4⟩
theorem Ppt.new (W : World) (p : Pt) : (W.alloc (.cells #[.int .i64 p.1, .int .i64 p.2.1, .bool p.2.2] 40)).heap[W.heap.size]? = some (.cells #[.int .i64 p.1, .int .i64 p.2.1, .bool p.2.2] 40 (0, 0)) := heap_alloc_new W _
def Ppt (W : World) (b : Nat) (p : Pt) : Prop := W.heap[b]? = some (.cells #[.int .i64 p.1, .int .i64 p.2.1, .bool p.2.2] 40 (0, 0))
theorem Ppt.cells {W : World} {b : Nat} {p : Pt} (h : Ppt W b p) : W.cell? ⟨b, 0, none⟩ = some (.int .i64 p.1) ∧ W.cell? ⟨b, 1, none⟩ = some (.int .i64 p.2.1) ∧ W.cell? ⟨b, 2, none⟩ = some (.bool p.2.2) :=
  ⟨cell_of_row W b 0 _ 40 (0, 0) h, cell_of_row W b 1 _ 40 (0, 0) h, cell_of_row W b 2 _ 40 (0, 0) h⟩
theorem Ppt.bel {W W' : World} {b : Nat} {p : Pt} (h : Ppt W b p) (hb : Below W.heap.size W W') : Ppt W' b p := (hb.block b (heap_lt h)).trans h
theorem Ppt.grown {W W' : World} {b : Nat} {p : Pt} (h : Ppt W b p) {base n : Nat} {v : Value} {xs : List Value} (ho : W.ownsRow base 60 3 v n xs) (hg : W.grownBy W' v.ownBlock) : Ppt W' b p := (hg.block b (heap_lt h) (own_not ho h (by decide))).trans h
theorem wyR_snoc (px : Int) (L : List Pt) (k : Nat) (h : k < L.length) : wyR px (lstD (0, 0, false) L) (L.take (k + 1)) = wyR px (lstD (0, 0, false) L) (L.take k) ++ ((if (pq L k).2.2 = false ∧ (prv L k).2.2 = false then [mdN px (pq L k) (prv L k)] else []) ++ [ndN px (pq L k)]) := by
  have e : L.take (k + 1) = L.take k ++ [pq L k] := by
    rw [List.take_add_one, List.getElem?_eq_getElem h]
    simp [pq, h]
  rw [e, wyR_app]
  rfl
theorem beg_lt (px : Int) (c : List Pt) (h : 1 ≤ c.length) : beg c < (way0 px c).length := by
  have h1 := (wyR_len px (lstD (0, 0, false) c) c).1
  unfold beg way0
  by_cases hc : ∃ p ∈ c, p.2.2 = true
  · obtain ⟨X, y, Z, rfl, hy, hX⟩ := first_on c hc
    rw [bgR_on px y Z hy _ 0 X hX, wyR_app, List.length_append, Nat.zero_add]
    have := (wyR_len px (lstD (lstD (0, 0, false) (X ++ y :: Z)) X) (y :: Z)).1
    simp at this
    omega
  · rw [bgR_off _ _ _ fun p hp => by
      cases h : p.2.2
      · rfl
      · exact absurd ⟨p, hp, h⟩ hc]
    omega
set_option maxHeartbeats 8000000 in
set_option maxRecDepth 100000 in
theorem way_any (A : Option Addr) (m c : Nat) (px : Int) (L : List Pt) (w : World) (hL : Ptl w A m L) (h1 : 1 ≤ m) (hm : m ≤ 5000) (hp : 1 ≤ px ∧ px ≤ 128) (hu : ∀ i, i < m → okU (pq L i).1 ∧ okU (pq L i).2.1) :
    Calls Try.prog 30 #[.slice A m c, .int .i64 px] w fun e w' => ∃ A' c', e = .returned (.slice A' (way px L).length c') ∧ w'.ownsRow w.heap.size 60 3 (.slice A' (way px L).length c') (way px L).length (ndC (way px L)) ∧ Below w.heap.size w w' := by
  have hlen := hL.len
  have HLen := Lib.hid hlen
  have HL := Lib.hid hL
  have HU := Lib.hid hu
  have HBl := Lib.hid (beg_lt px L (by omega))
  have HW0 := Lib.hid (show (way0 px L).length ≤ 10000 from by have := (wyR_len px (lstD (0, 0, false) L) L).2; unfold way0; omega)
  have CB := Lib.hid (fun B kn cn W (hb : Below w.heap.size w W) => begin_any A B m c kn cn L W (hL.bel hb) (by omega))
  obtain ⟨i0, hi0, hz0, hz1, hz2⟩ := info_parts Try.info51z
  have H51 := Lib.hid (And.intro hi0 (And.intro hz0 (And.intro hz1 hz2)))
  have hp1 := hp.1
  have hp2 := hp.2
  obtain ⟨q0, hq0⟩ : ∃ q, q = lstD (0, 0, false) L := ⟨_, rfl⟩
  have HQ0 := Lib.hid hq0
  clear hL hu hi0 hz0 hz1 hz2 hlen hq0 hp
  go_enter Try.func30, Try.ntmps30
  go_wp2_with fail
  go_loopw [5, 7] (fun v i wr => ∃ (k kn : Nat) (A' : Option Addr) (c' : Nat) (l : List Nod), i = .int .i64 (k : Int) ∧ k ≤ m ∧ v = .slice A' kn c' ∧ l = wyR px q0 (L.take k) ∧ l.length = kn ∧ kn ≤ 2 * k ∧ wr.ownsRow w.heap.size 60 3 (.slice A' kn c') kn (ndC l) ∧ Below w.heap.size w wr) (fun _ i _ => m - (intOf i).toNat)
  case atStart => exact ⟨0, 0, none, 0, [], rfl, Nat.zero_le _, rfl, rfl, rfl, Nat.le_refl _, World.ownsRow_nil _ _ _ _, Below.refl _ _⟩
  case round =>
    obtain ⟨k, kn, A', c', l, rfl, hk, rfl, hl, hkn, hk2, ho, hb⟩ := hrel
    have HB := Lib.hid hb
    have HO := Lib.hid ho
    by_cases hgo : k < m
    · obtain ⟨ad, hA, c0, c1, c2⟩ := HL.out.at_ hb hgo
      subst hA
      have hlen := HLen.out
      have hpv := prv_eq L k (by omega)
      rw [hlen] at hpv
      have hsn := wyR_snoc px L k (by omega)
      obtain ⟨j, hj⟩ : ∃ j, j = (k + m - 1) % m := ⟨_, rfl⟩
      have hjm : j < m := by rw [hj]; exact Nat.mod_lt _ (by omega)
      rw [← hj] at hpv
      obtain ⟨ad2, hA, d0, d1, d2⟩ := HL.out.at_ hb hjm
      injection hA with hA
      subst hA
      have w1 : IntKind.i64.wrap ((k : Int) + (m : Int)) = (k : Int) + (m : Int) := i64_in _ (by omega)
      have w2 : IntKind.i64.wrap ((k : Int) + (m : Int) - 1) = (k : Int) + (m : Int) - 1 := i64_in _ (by omega)
      have w3 : ((k : Int) + (m : Int) - 1).tmod (m : Int) = (j : Int) := by
        rw [Int.tmod_eq_emod_of_nonneg (by omega), hj]
        have : ((k : Int) + (m : Int) - 1) = ((k + m - 1 : Nat) : Int) := by omega
        rw [this]
        exact (Int.natCast_emod _ _).symm
      have w4 : IntKind.i64.wrap (j : Int) = (j : Int) := i64_in _ (by omega)
      have w5 : ((m : Int) == 0) = false := by simp; omega
      have g1 : (0 : Int) ≤ (j : Int) := by omega
      have g2 : (j : Int) < (m : Int) := by omega
      rw [hpv, ← HQ0.out, ← hl] at hsn
      have ep : ∀ i, Go.Proofs.Ytnnanlilnlimaaa.px L i = (pq L i).1 ∧ py L i = (pq L i).2.1 ∧ po L i = (pq L i).2.2 := fun i => ⟨rfl, rfl, rfl⟩
      rw [(ep k).1] at c0
      rw [(ep k).2.1] at c1
      rw [(ep k).2.2] at c2
      rw [(ep j).1] at d0
      rw [(ep j).2.1] at d1
      rw [(ep j).2.2] at d2
      have u1 := HU.out k hgo
      have u2 := HU.out j hjm
      obtain ⟨p, hp⟩ : ∃ p, p = pq L k := ⟨_, rfl⟩
      obtain ⟨q, hq⟩ : ∃ p, p = pq L j := ⟨_, rfl⟩
      rw [← hp] at c0 c1 c2 u1 hsn
      rw [← hq] at d0 d1 d2 u2 hsn
      obtain ⟨x, y, o⟩ := p
      obtain ⟨qx, qy, qo⟩ := q
      dsimp only at c0 c1 c2 d0 d1 d2 u1 u2
      obtain ⟨⟨u11, u12⟩, u13, u14⟩ := u1
      obtain ⟨⟨u21, u22⟩, u23, u24⟩ := u2
      have m1 := mul_px (s := x + qx) (B := 65534) hp1 hp2 (by omega) (by omega) (by decide)
      have m2 := mul_px (s := y + qy) (B := 65534) hp1 hp2 (by omega) (by omega) (by decide)
      have m3 := mul_px (s := x) (B := 32767) hp1 hp2 u11 u12 (by decide)
      have m4 := mul_px (s := y) (B := 32767) hp1 hp2 u13 u14 (by decide)
      have a3 : 2 * px * x = 2 * (px * x) := Int.mul_assoc ..
      have a4 : 2 * px * y = 2 * (px * y) := Int.mul_assoc ..
      have v1 : IntKind.i64.wrap (x + qx) = x + qx := i64_in _ (by omega)
      have v2 : IntKind.i64.wrap (y + qy) = y + qy := i64_in _ (by omega)
      have v3 : IntKind.i64.wrap (px * (x + qx)) = px * (x + qx) := i64_in _ (by omega)
      have v4 : IntKind.i64.wrap (px * (y + qy)) = px * (y + qy) := i64_in _ (by omega)
      have v5 : IntKind.i64.wrap (2 * px) = 2 * px := i64_in _ (by omega)
      have v6 : IntKind.i64.wrap (2 * px * x) = 2 * px * x := i64_in _ (by omega)
      have v7 : IntKind.i64.wrap (2 * px * y) = 2 * px * y := i64_in _ (by omega)
      have hA1 : Below wr.heap.size wr (wr.alloc (.cells #[.int .i64 x, .int .i64 y, .bool o] 40)) := (Below.refl _ _).alloc (Nat.le_refl _) _
      have hA2 : Below wr.heap.size wr ((wr.alloc (.cells #[.int .i64 x, .int .i64 y, .bool o] 40)).alloc (.cells #[.int .i64 qx, .int .i64 qy, .bool qo] 40)) := hA1.alloc (by simp) _
      have HA2 := Lib.hid hA2
      have e0 := (hA1.cell (cell_lt2 d0)).trans d0
      have e1 := (hA1.cell (cell_lt2 d1)).trans d1
      have e2 := (hA1.cell (cell_lt2 d2)).trans d2
      have HP2 := Lib.hid (show Ppt ((wr.alloc (.cells #[.int .i64 x, .int .i64 y, .bool o] 40)).alloc (.cells #[.int .i64 qx, .int .i64 qy, .bool qo] 40)) wr.heap.size (x, y, o) from Ppt.bel (Ppt.new wr (x, y, o)) ((Below.refl _ _).alloc (Nat.le_refl _) _))
      have HQ2 := Lib.hid (show Ppt ((wr.alloc (.cells #[.int .i64 x, .int .i64 y, .bool o] 40)).alloc (.cells #[.int .i64 qx, .int .i64 qy, .bool qo] 40)) (wr.heap.size + 1) (qx, qy, qo) from by
        have := Ppt.new (wr.alloc (.cells #[.int .i64 x, .int .i64 y, .bool o] 40)) (qx, qy, qo)
        unfold Ppt
        simpa using this)
      have HSn := Lib.hid hsn
      clear hpv hsn hj hp hq hl ho hb ep a3 a4 m1 m2 m3 m4 hA1 hA2 hlen
      go_upto_region 8 with fail
      obtain ⟨b8, hb8⟩ : ∃ b, b = wr.heap.size := ⟨_, rfl⟩
      obtain ⟨b9, hb9⟩ : ∃ b, b = wr.heap.size + 1 := ⟨_, rfl⟩
      obtain ⟨W2, hW2⟩ : ∃ W, W = (wr.alloc (.cells #[.int .i64 x, .int .i64 y, .bool o] 40)).alloc (.cells #[.int .i64 qx, .int .i64 qy, .bool qo] 40) := ⟨_, rfl⟩
      rw [← hW2] at HA2 HP2 HQ2 ⊢
      rw [← hb9] at HQ2 ⊢
      rw [← hb8] at HP2 ⊢
      have HO2 := Lib.hid (own_bel HO.out HA2.out)
      have HB2 := Lib.hid (HB.out.trans (HA2.out.mono HB.out.size))
      clear hW2 hb8 hb9 c0 c1 c2 d0 d1 d2 e0 e1 e2
      obtain ⟨c0, c1, c2⟩ := HP2.out.cells
      obtain ⟨d0, d1, d2⟩ := HQ2.out.cells
      dsimp only at c0 c1 c2 d0 d1 d2
      cases o with
      | true =>
        have HO3 := Lib.hid (own_bel HO2.out ((Below.refl W2.heap.size W2).alloc (Nat.le_refl _) (.cells #[.int .i64 (2 * px * x), .int .i64 (2 * px * y), .bool true] 60)))
        have HB3 := Lib.hid (HB2.out.trans (((Below.refl W2.heap.size W2).alloc (Nat.le_refl _) (.cells #[.int .i64 (2 * px * x), .int .i64 (2 * px * y), .bool true] 60)).mono HB2.out.size))
        go_wp2_with (at_builtin; go_must (refine wpList_append_own _ rfl (.tmp 57) (.tmp 72) 57 rfl w.heap.size 60 i0 _ 3 24 Try.underlying57 H51.out.1 H51.out.2.1 H51.out.2.2.1 H51.out.2.2.2 rfl (by decide) (.slice A' kn c') kn (ndC l) rfl HO3.out ⟨W2.heap.size, 0, none⟩ 1 1 [.int .i64 (2 * px * x), .int .i64 (2 * px * y), .bool true] rfl rfl (cells_new _ _ _) (by intro u hu; simp at hu; rcases hu with rfl | rfl | rfl <;> rfl) (by unfold maxLen; omega) (by omega) HB3.out.size ?_); intro v' w7 hown' hg' _; obtain ⟨A7, c7, rfl⟩ := own_form hown'; have HO7 := Lib.hid hown'; have HB7 := Lib.hid (below_grown HB3.out HO3.out hg'); clear hown' hg')
        exact ⟨⟨k + 1, kn + 1, A7, c7, l ++ [ndN px (x, y, true)], by simp, by omega, rfl, by rw [HSn.out]; simp, by simp; omega, by omega, by rw [ndC_app]; exact HO7.out, HB7.out⟩, by simp [intOf]; omega⟩
      | false =>
        cases qo with
        | true =>
          have HO3 := Lib.hid (own_bel HO2.out ((Below.refl W2.heap.size W2).alloc (Nat.le_refl _) (.cells #[.int .i64 (2 * px * x), .int .i64 (2 * px * y), .bool false] 60)))
          have HB3 := Lib.hid (HB2.out.trans (((Below.refl W2.heap.size W2).alloc (Nat.le_refl _) (.cells #[.int .i64 (2 * px * x), .int .i64 (2 * px * y), .bool false] 60)).mono HB2.out.size))
          go_wp2_with (at_builtin; go_must (refine wpList_append_own _ rfl (.tmp 57) (.tmp 72) 57 rfl w.heap.size 60 i0 _ 3 24 Try.underlying57 H51.out.1 H51.out.2.1 H51.out.2.2.1 H51.out.2.2.2 rfl (by decide) (.slice A' kn c') kn (ndC l) rfl HO3.out ⟨W2.heap.size, 0, none⟩ 1 1 [.int .i64 (2 * px * x), .int .i64 (2 * px * y), .bool false] rfl rfl (cells_new _ _ _) (by intro u hu; simp at hu; rcases hu with rfl | rfl | rfl <;> rfl) (by unfold maxLen; omega) (by omega) HB3.out.size ?_); intro v' w7 hown' hg' _; obtain ⟨A7, c7, rfl⟩ := own_form hown'; have HO7 := Lib.hid hown'; have HB7 := Lib.hid (below_grown HB3.out HO3.out hg'); clear hown' hg')
          exact ⟨⟨k + 1, kn + 1, A7, c7, l ++ [ndN px (x, y, false)], by simp, by omega, rfl, by rw [HSn.out]; simp, by simp; omega, by omega, by rw [ndC_app]; exact HO7.out, HB7.out⟩, by simp [intOf]; omega⟩
        | false =>
          have HO3 := Lib.hid (own_bel HO2.out ((Below.refl W2.heap.size W2).alloc (Nat.le_refl _) (.cells #[.int .i64 (px * (x + qx)), .int .i64 (px * (y + qy)), .bool true] 60)))
          have HB3 := Lib.hid (HB2.out.trans (((Below.refl W2.heap.size W2).alloc (Nat.le_refl _) (.cells #[.int .i64 (px * (x + qx)), .int .i64 (px * (y + qy)), .bool true] 60)).mono HB2.out.size))
          have HP3 := Lib.hid (HP2.out.bel ((Below.refl W2.heap.size W2).alloc (Nat.le_refl _) (.cells #[.int .i64 (px * (x + qx)), .int .i64 (px * (y + qy)), .bool true] 60)))
          go_upto_region 10 with (at_builtin; go_must (refine wpList_append_own _ rfl (.tmp 38) (.tmp 55) 57 rfl w.heap.size 60 i0 _ 3 24 Try.underlying57 H51.out.1 H51.out.2.1 H51.out.2.2.1 H51.out.2.2.2 rfl (by decide) (.slice A' kn c') kn (ndC l) rfl HO3.out ⟨W2.heap.size, 0, none⟩ 1 1 [.int .i64 (px * (x + qx)), .int .i64 (px * (y + qy)), .bool true] rfl rfl (cells_new _ _ _) (by intro u hu; simp at hu; rcases hu with rfl | rfl | rfl <;> rfl) (by unfold maxLen; omega) (by omega) HB3.out.size ?_); intro v' w7 hown' hg' _; obtain ⟨A7, c7, rfl⟩ := own_form hown'; have HO7 := Lib.hid hown'; have HB7 := Lib.hid (below_grown HB3.out HO3.out hg'); have HP7 := Lib.hid (HP3.out.grown HO3.out hg'); clear hown' hg')
          clear c0 c1 c2 d0 d1 d2
          obtain ⟨c0, c1, c2⟩ := HP7.out.cells
          dsimp only at c0 c1 c2
          have HO8 := Lib.hid (show (w7.alloc (.cells #[.int .i64 (2 * px * x), .int .i64 (2 * px * y), .bool false] 60)).ownsRow w.heap.size 60 3 (.slice A7 (kn + 1) c7) (kn + 1) (ndC (l ++ [mdN px (x, y, false) (qx, qy, false)])) from by rw [ndC_app]; exact own_bel HO7.out ((Below.refl w7.heap.size w7).alloc (Nat.le_refl _) (.cells #[.int .i64 (2 * px * x), .int .i64 (2 * px * y), .bool false] 60)))
          have HB8 := Lib.hid (HB7.out.trans (((Below.refl w7.heap.size w7).alloc (Nat.le_refl _) (.cells #[.int .i64 (2 * px * x), .int .i64 (2 * px * y), .bool false] 60)).mono HB7.out.size))
          go_wp2_with (at_builtin; go_must (refine wpList_append_own _ rfl (.tmp 57) (.tmp 72) 57 rfl w.heap.size 60 i0 _ 3 24 Try.underlying57 H51.out.1 H51.out.2.1 H51.out.2.2.1 H51.out.2.2.2 rfl (by decide) (.slice A7 (kn + 1) c7) (kn + 1) (ndC (l ++ [mdN px (x, y, false) (qx, qy, false)])) rfl HO8.out ⟨w7.heap.size, 0, none⟩ 1 1 [.int .i64 (2 * px * x), .int .i64 (2 * px * y), .bool false] rfl rfl (cells_new _ _ _) (by intro u hu; simp at hu; rcases hu with rfl | rfl | rfl <;> rfl) (by unfold maxLen; omega) (by omega) HB8.out.size ?_); intro v' w9 hown' hg' _; obtain ⟨A9, c9, rfl⟩ := own_form hown'; have HO9 := Lib.hid hown'; have HB9 := Lib.hid (below_grown HB8.out HO8.out hg'); clear hown' hg')
          exact ⟨⟨k + 1, kn + 1 + 1, A9, c9, (l ++ [mdN px (x, y, false) (qx, qy, false)]) ++ [ndN px (x, y, false)], by simp, by omega, rfl, by rw [HSn.out]; simp, by simp; omega, by omega, by rw [ndC_app (l ++ _)]; exact HO9.out, HB9.out⟩, by simp [intOf]; omega⟩
    · obtain rfl : k = m := by omega
      have hw0 : l = way0 px L := by rw [hl, HQ0.out, List.take_of_length_le (by rw [HLen.out]; exact Nat.le_refl _)]; rfl
      have HW := Lib.hid hw0
      have CT := Lib.hid (fun W (hb : Below wr.heap.size wr W) (hx : beg L < kn) => turned_any A' kn c' (beg L) w.heap.size l W (own_bel ho hb) hkn hx (by omega))
      have hbk : beg L < kn := by rw [← hkn, hw0]; exact HBl.out
      have CT := Lib.hid (fun W (hb : Below wr.heap.size wr W) => CT.out W hb hbk)
      have CB := Lib.hid (fun B kn cn W (hb : Below wr.heap.size wr W) => CB.out B kn cn W (HB.out.trans (hb.mono HB.out.size)))
      have HWy := Lib.hid (show l.drop (beg L) ++ l.take (beg L) = way px L ∧ kn = (way px L).length from by
        refine ⟨by rw [hw0]; rfl, ?_⟩
        unfold way
        rw [← hw0, List.length_append, List.length_drop, List.length_take]
        omega)
      clear hl ho hb hw0 hbk
      go_wp2_with (first
        | (go_at_call 35; (with_reducible refine (CB.out _ _ _ _ (Below.refl _ _)).mono ?_); rintro e w1 ⟨rfl, hb⟩; have HB1 := Lib.hid hb; clear hb)
        | (go_at_call 34; (with_reducible refine (CT.out _ HB1.out).mono ?_); rintro e w2 ⟨A9, c9, rfl, ho9, hb⟩; have HB3 := Lib.hid hb; have HO9 := Lib.hid ho9; clear hb ho9))
      go_ret
      have ho := HO9.out
      rw [HWy.out.1] at ho
      have hk9 := HWy.out.2
      subst hk9
      exact ⟨A9, c9, rfl, own_base ho (Nat.le_trans HB.out.size HB1.out.size), (HB.out.trans (HB1.out.mono HB.out.size)).trans (HB3.out.mono (Nat.le_trans HB.out.size HB1.out.size))⟩
end Go.Proofs.Ytnnanlilnlimaaa
