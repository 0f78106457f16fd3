/- Proved here: what tellPoints answers. Condition: contours that may be, one at least, that lie in memory. -/
import Derived.Test.YtfhaloclbbmbeaaGreatM44
namespace Go.Proofs.YtfhaloclbbmbeaaGreat
open Go.RowKit
def tpE (LL : List (List Pt)) (m : Nat) : Int := if okSt 0 0 (preP LL m) then 0 else 2
def tpB (LL : List (List Pt)) (m : Nat) : List UInt8 := if okSt 0 0 (preP LL m) then encF 0 0 (preP LL m) ++ encX 0 (preP LL m) ++ encY 0 (preP LL m) else []
namespace N13
set_option maxHeartbeats 8000000 in
set_option maxRecDepth 100000 in
theorem tellPoints_any (A : Option Addr) (m c : Nat) (LL : List (List Pt)) (w : World) (hP : Ctl w A m LL) (hm0 : 0 < m) (hM : MayG LL) :
    Calls Tryz.prog 232 #[.slice A m c] w fun e w' => e = .returned (.tuple #[.string ⟨(tpB LL m).toArray⟩, .int .i64 (tpE LL m)]) ∧ Below w.heap.size w w' := by
  have hlen := hP.len
  obtain ⟨hm, hall⟩ := hM
  rw [hlen] at hm hall
  have HI := Lib.hid hP
  have HA := Lib.hid hall
  have htot : ∀ k, k ≤ m → tot LL k ≤ 4096 := fun k hk => by
    cases k with
    | zero => exact Nat.zero_le _
    | succ k => exact (hall k (by omega)).1.2
  have HT := Lib.hid htot
  have HL := Lib.hid (show ∀ k, k < m → (ct LL k).length ≤ 4096 from fun k hk => by
    have := (hall k hk).1.2
    simp only [tot] at this
    omega)
  have h1 : 0 < tot LL m := by
    have h2 := (hall 0 hm0).1.1
    have h3 := tot_le LL m 1 hm0
    simp only [tot] at h3
    omega
  have HE := Lib.hid (show ∀ k j, k < m → ¬ okSt 0 0 (upP LL k j) → tpB LL m = [] ∧ tpE LL m = 2 from fun k j hk h => by
    obtain ⟨Q, hQ⟩ := upP_app (LL := LL) (j := j) hk
    have hn : ¬ okSt 0 0 (preP LL m) := fun h2 => h (okSt_app Q _ 0 0 (by rw [← hQ]; exact h2))
    exact ⟨by unfold tpB; rw [if_neg hn], by unfold tpE; rw [if_neg hn]⟩)
  have HY := Lib.hid (show okSt 0 0 (preP LL m) → tpB LL m = encF 0 0 (preP LL m) ++ encX 0 (preP LL m) ++ encY 0 (preP LL m) ∧ tpE LL m = 0 from fun h => ⟨by unfold tpB; rw [if_pos h], by unfold tpE; rw [if_pos h]⟩)
  have S := Lib.hid (TpS.new w)
  obtain ⟨i5, h5a, h5b, h5c, h5d⟩ := info_parts Tryz.info5
  have H5 := Lib.hid (And.intro h5a (And.intro h5b (And.intro h5c h5d)))
  have CS := Lib.hid (fun d W => step_any d W)
  clear hP hlen hall htot h5a h5b h5c h5d
  go_enter Tryz.func232, Tryz.ntmps232
  go_upto_region 4 with fail
  obtain ⟨b1, hb1⟩ : ∃ b, b = w.heap.size := ⟨_, rfl⟩
  obtain ⟨b2, hb2⟩ : ∃ b, b = w.heap.size + 1 := ⟨_, rfl⟩
  obtain ⟨g, hg⟩ : ∃ b, b = w.heap.size + 2 := ⟨_, rfl⟩
  have hg1 : w.heap.size + 1 + 1 = g := by omega
  obtain ⟨W0, hW0⟩ : ∃ W, W = ((w.alloc (.cells #[.pointer none, .slice none 0 0] 173)).alloc (.cells #[.pointer none, .slice none 0 0] 173)).alloc (.cells #[.int .i64 0, .int .i64 0, .bool false] 75) := ⟨_, rfl⟩
  have S : Hid (TpS w W0 b1 b2 g (.slice none 0 0) [] [] [] none none 0 0 false) := by rw [hb1, hb2, hg, hW0]; exact S
  rw [← hW0]
  try rw [hg1]
  try rw [← hg]
  rw [← hb2, ← hb1]
  clear hb1 hb2 hg hg1 hW0
  go_wp2_with fail
  go_loopw [4, 17] (fun v i wr => ∃ (k : Nat) (A' : Option Addr) (c' : Nat) (r1 r2 : Option Nat) (ao : Bool), i = .int .i64 (k : Int) ∧ k ≤ m ∧ v = .slice A' (tot LL k) c' ∧ okSt 0 0 (preP LL k) ∧ (okU (lX 0 (preP LL k)) ∧ okU (lY 0 (preP LL k))) ∧ TpS w wr b1 b2 g (.slice A' (tot LL k) c') (encF 0 0 (preP LL k)) (encX 0 (preP LL k)) (encY 0 (preP LL k)) r1 r2 (lX 0 (preP LL k)) (lY 0 (preP LL k)) ao) (fun _ i _ => m - (intOf i).toNat)
  case atStart => exact ⟨0, none, 0, none, none, false, rfl, Nat.zero_le _, rfl, trivial, ⟨⟨by show (-32767 : Int) ≤ 0; decide, by show (0 : Int) ≤ 32767; decide⟩, by show (-32767 : Int) ≤ 0; decide, by show (0 : Int) ≤ 32767; decide⟩, S.out⟩
  case round =>
    obtain ⟨k, A1, c1, r1, r2, ao, rfl, hk, rfl, hok, hun, hS⟩ := hrel
    by_cases hgo : k < m
    · obtain ⟨a', B, c2, rfl, ha2, hc, hpt⟩ := HI.out.get k hgo
      rw [← hS.bel.cell (by rw [block_of_add]; exact ha2)] at hc
      have HPt := Lib.hid hpt
      have hn5 := HL.out k hgo
      have ht1 := HT.out (k + 1) hgo
      have htk : tot LL (k + 1) = tot LL k + (ct LL k).length := rfl
      have HUZ := Lib.hid (upP_zero LL k)
      have HUA := Lib.hid (upP_all LL k)
      have HUS := Lib.hid (fun j (h : j < (ct LL k).length) => upP_succ (LL := LL) h)
      have HUL := Lib.hid (fun j (h : j ≤ (ct LL k).length) => upP_len (LL := LL) h)
      have HEK := Lib.hid (fun j => HE.out k j hgo)
      have HAK := Lib.hid (show ∀ j, j < (ct LL k).length → okU (px (ct LL k) j) ∧ okU (py (ct LL k) j) from fun j hj => (HA.out k hgo).2 j hj)
      obtain ⟨L, hL⟩ : ∃ L, L = ct LL k := ⟨_, rfl⟩
      rw [← hL] at hc HPt hn5 HUA HUS HUL HAK htk
      obtain ⟨n, hn⟩ : ∃ n, n = L.length := ⟨_, rfl⟩
      rw [← hn] at hc HPt hn5 HUA HUS HUL HAK htk
      rw [← HUZ.out] at hS hok hun
      have HTK := Lib.hid htk
      obtain ⟨T, hT⟩ : ∃ T, T = tot LL k := ⟨_, rfl⟩
      rw [← hT] at hS HUL HTK ⊢
      have hTn : T + n ≤ 4096 := by omega
      have HOK := Lib.hid (And.intro hok hun)
      have HS := Lib.hid hS
      clear hS hpt hL hn ha2 hok hun htk ht1 hT
      go_wp2_with fail
      clear hc
      go_loopw [4, 23] (fun v u wi => ∃ (j : Nat) (A' : Option Addr) (c' : Nat) (r1 r2 : Option Nat) (ao : Bool), u = .int .i64 (j : Int) ∧ j ≤ n ∧ v = .slice A' (T + j) c' ∧ (okSt 0 0 (upP LL k j) ∧ (okU (lX 0 (upP LL k j)) ∧ okU (lY 0 (upP LL k j)))) ∧ TpS w wi b1 b2 g (.slice A' (T + j) c') (encF 0 0 (upP LL k j)) (encX 0 (upP LL k j)) (encY 0 (upP LL k j)) r1 r2 (lX 0 (upP LL k j)) (lY 0 (upP LL k j)) ao) (fun _ u _ => n - (intOf u).toNat)
      case atStart => exact ⟨0, A1, c1, r1, r2, ao, rfl, Nat.zero_le _, rfl, HOK.out, HS.out⟩
      case round =>
        obtain ⟨j, A3, c3, r3, r4, ao2, rfl, hj, rfl, hok, hS⟩ := hrel
        by_cases hgj : j < n
        · obtain ⟨q, rfl, d0, d1, d2⟩ := HPt.out.at_ hS.bel hgj
          have HU := HUS.out j hgj
          have hul := HUL.out j hj
          obtain ⟨u1, u2⟩ := HAK.out j hgj
          obtain ⟨hok1, u3, u4⟩ := hok
          have HEJ := Lib.hid (HEK.out (j + 1))
          obtain ⟨x, hx⟩ : ∃ x, x = px L j := ⟨_, rfl⟩
          obtain ⟨y, hy⟩ : ∃ y, y = py L j := ⟨_, rfl⟩
          obtain ⟨o, ho⟩ : ∃ o, o = po L j := ⟨_, rfl⟩
          rw [← hx] at d0 HU u1
          rw [← hy] at d1 HU u2
          rw [← ho] at d2 HU
          rw [HU] at HEJ
          have HU := Lib.hid HU
          obtain ⟨P, hP⟩ : ∃ P, P = upP LL k j := ⟨_, rfl⟩
          rw [← hP] at hS hul hok1 u3 u4 HU HEJ
          obtain ⟨ax, hax⟩ : ∃ z, z = lX 0 P := ⟨_, rfl⟩
          obtain ⟨ay, hay⟩ : ∃ z, z = lY 0 P := ⟨_, rfl⟩
          have q1 := encF_snoc (x, y, o) P 0 0
          have q2 := encX_snoc (x, y, o) P 0
          have q3 := encY_snoc (x, y, o) P 0
          have q4 := okSt_snoc (x, y, o) P 0 0
          have q5 := lX_snoc (x, y, o) P 0
          have q6 := lY_snoc (x, y, o) P 0
          have q7 := encF_len P 0 0
          have q8 := encX_len P 0
          have q9 := encY_len P 0
          rw [← hax] at hS u3 q1 q2 q4
          rw [← hay] at hS u4 q1 q3 q4
          simp only at q1 q2 q3 q4 q5 q6
          obtain ⟨l0, hl0⟩ : ∃ l, l = encF 0 0 P := ⟨_, rfl⟩
          obtain ⟨l1, hl1⟩ : ∃ l, l = encX 0 P := ⟨_, rfl⟩
          obtain ⟨l2, hl2⟩ : ∃ l, l = encY 0 P := ⟨_, rfl⟩
          rw [← hl0] at hS q1 q7
          rw [← hl1] at hS q2 q8
          rw [← hl2] at hS q3 q9
          obtain ⟨v1, v2⟩ := u1
          obtain ⟨v3, v4⟩ := u2
          obtain ⟨v5, v6⟩ := u3
          obtain ⟨v7, v8⟩ := u4
          have e1 : IntKind.i64.wrap (x - ax) = x - ax := i64_in _ (by omega)
          have e2 : IntKind.i64.wrap (y - ay) = y - ay := i64_in _ (by omega)
          obtain ⟨dx, hdx⟩ : ∃ z, z = x - ax := ⟨_, rfl⟩
          obtain ⟨dy, hdy⟩ : ∃ z, z = y - ay := ⟨_, rfl⟩
          rw [← hdx] at q1 q2 q4
          rw [← hdy] at q1 q3 q4
          have hdx2 : -100000 ≤ dx ∧ dx ≤ 100000 := by omega
          have hdy2 : -100000 ≤ dy ∧ dy ≤ 100000 := by omega
          have e1w : wrap64 (x - ax) = dx := by rw [hdx]; unfold wrap64; omega
          have e2w : wrap64 (y - ay) = dy := by rw [hdy]; unfold wrap64; omega
          clear e1 e2
          have C3 := Lib.hid (show ∀ W, Calls Tryz.prog 272 #[.int .i64 dx, .int .u8 2, .int .u8 16] W fun e w' => e = .returned (.int .u8 (stF dx 2 16 : Int)) ∧ W = w' from fun W => bits_any dx 2 16 W (.inl ⟨rfl, rfl⟩))
          have C4 := Lib.hid (show ∀ W, Calls Tryz.prog 272 #[.int .i64 dy, .int .u8 4, .int .u8 32] W fun e w' => e = .returned (.int .u8 (stF dy 4 32 : Int)) ∧ W = w' from fun W => bits_any dy 4 32 W (.inr ⟨rfl, rfl⟩))
          have e3 := or_flags dx dy
          have e4 := or_one dx dy
          have hfl := flg_lt dx dy o
          obtain ⟨s1, hs1⟩ : ∃ z, z = stF dx 2 16 := ⟨_, rfl⟩
          obtain ⟨s2, hs2⟩ : ∃ z, z = stF dy 4 32 := ⟨_, rfl⟩
          have hfd : flg dx dy o = s1 + s2 + (if o then 1 else 0) := by rw [hs1, hs2]; rfl
          rw [← hs1] at C3 e3 e4
          rw [← hs2] at C4 e3 e4
          obtain ⟨s3, hs3⟩ : ∃ z, z = s1 + s2 := ⟨_, rfl⟩
          rw [← hs3] at e3 e4 hfd
          obtain ⟨D1, hD1⟩ : ∃ D : ByteArray, D = ⟨(stB dx).toArray⟩ := ⟨_, rfl⟩
          obtain ⟨D2, hD2⟩ : ∃ D : ByteArray, D = ⟨(stB dy).toArray⟩ := ⟨_, rfl⟩
          have C5 := Lib.hid (show ∀ W, Calls Tryz.prog 273 #[.int .i64 dx] W fun e w' => e = .returned (.string D1) ∧ Below W.heap.size W w' from fun W => by rw [hD1]; exact tstep_any dx W hdx2)
          have C6 := Lib.hid (show ∀ W, Calls Tryz.prog 273 #[.int .i64 dy] W fun e w' => e = .returned (.string D2) ∧ Below W.heap.size W w' from fun W => by rw [hD2]; exact tstep_any dy W hdy2)
          have HD1 := Lib.hid (show D1.data.toList = stB dx by rw [hD1])
          have HD2 := Lib.hid (show D2.data.toList = stB dy by rw [hD2])
          have z1 : D1.size ≤ 2 := by rw [hD1]; show (stB dx).toArray.size ≤ 2; rw [List.size_toArray]; exact stB_len dx
          have z2 : D2.size ≤ 2 := by rw [hD2]; show (stB dy).toArray.size ≤ 2; rw [List.size_toArray]; exact stB_len dy
          have HZ := Lib.hid (show l1.length + D1.size ≤ 100000000 ∧ l2.length + D2.size ≤ 100000000 by omega)
          have HQ1 := Lib.hid (And.intro q1 (And.intro q2 (And.intro q3 (And.intro q5 q6))))
          have HUN := Lib.hid (show (okU x ∧ okU y) from ⟨⟨v1, v2⟩, v3, v4⟩)
          have CX := Lib.hid (fun W => CS.out dx W)
          have CY := Lib.hid (fun W => CS.out dy W)
          have HOK1 := Lib.hid hok1
          have hll : l0.length = T + j := by rw [q7]; exact hul
          have HLL := Lib.hid hll
          have HBx := Lib.hid (hS.box3 x y o)
          clear hS hul hok1 hx hy ho hP hax hay q1 q2 q3 q5 q6 q7 q8 q9 hl0 hl1 hl2 v1 v2 v3 v4 v5 v6 v7 v8 hdx hdy hdx2 hdy2 hs1 hs2 hs3 hD1 hD2 z1 z2 hll
          go_upto_region 10 with fail
          obtain ⟨b3, hb3⟩ : ∃ b, b = wr.heap.size := ⟨_, rfl⟩
          obtain ⟨W1, hW1⟩ : ∃ W, W = wr.alloc (.cells #[.int .i64 x, .int .i64 y, .bool o] 75) := ⟨_, rfl⟩
          rw [← hW1] at HBx ⊢
          rw [← hb3] at HBx ⊢
          clear hb3 hW1 d0 d1 d2
          obtain ⟨p0, p1, _⟩ := HBx.out.pz.cells
          obtain ⟨g0, g1, _⟩ := HBx.out.s.box.cells
          go_quiet (fail)
          all_goals
            clear p0 p1 g0 g1
            obtain ⟨W2, hW2⟩ : ∃ W, W = W1.drewN nq := ⟨_, rfl⟩
            have HB2 : Hid (TqS w W2 b1 b2 g b3 (.slice A3 (T + j) c3) l0 l1 l2 r3 r4 ax ay ao2 x y o) := by rw [hW2]; exact Lib.hid (HBx.out.next (below_drewN (Below.refl _ _) _))
            rw [← hW2]
            clear hW2 HBx
            by_cases hsx : okS dx
            · rw [decide_eq_true hsx] at CX
              by_cases hsy : okS dy
              · rw [decide_eq_true hsy] at CY
                have HNK := Lib.hid (q4.2 ⟨HOK1.out, hsx, hsy⟩)
                clear q4 hsx hsy HEJ
                obtain ⟨p0, p1, p2⟩ := HB2.out.pz.cells
                cases o
                · have hfd : flg dx dy false = s3 := by simpa using hfd
                  rw [hfd] at HQ1 hfl
                  go_upto_region 16 with (first
                    | (go_at_call 271; (with_reducible refine (CX.out _).mono ?_); rintro e w3 ⟨rfl, rfl⟩)
                    | (go_at_call 271; (with_reducible refine (CY.out _).mono ?_); rintro e w3 ⟨rfl, rfl⟩)
                    | (go_at_call 272; (with_reducible refine (C3.out _).mono ?_); rintro e w3 ⟨rfl, rfl⟩)
                    | (go_at_call 272; (with_reducible refine (C4.out _).mono ?_); rintro e w3 ⟨rfl, rfl⟩))
                  have HB3 := Lib.hid (HB2.out.next ((Below.refl _ W2).alloc (Nat.le_refl _) (.cells #[.int .u8 (s3 : Int)] 5)))
                  have HR3 := Lib.hid (show (W2.alloc (.cells #[.int .u8 (s3 : Int)] 5)).ownsRow w.heap.size 5 1 (.slice A3 (T + j) c3) (T + j) (Lib.byteCells l0) by have h := HB3.out.s.row; rw [HLL.out] at h; exact h)
                  have HBs := Lib.hid HB3.out.s.bel.size
                  go_upto_region 17 with (at_builtin; go_must (refine wpList_own_at _ rfl (.tmp 54) (.tmp 56) 166 rfl w.heap.size 5 i5 _ 1 1 Tryz.underlying166 H5.out.1 H5.out.2.1 H5.out.2.2.1 H5.out.2.2.2 rfl (by decide) (.slice A3 (T + j) c3) (T + j) (Lib.byteCells l0) rfl HR3.out ⟨W2.heap.size, 0, none⟩ 1 1 [.int .u8 (s3 : Int)] rfl rfl (cells_new _ _ _) (by intro u hu; simp at hu; subst hu; rfl) (by unfold maxLen; omega) (by omega) HBs.out (by decide) ?_); intro v' w5 hown' hg' hat')
                  obtain ⟨A5, c5, rfl⟩ := own_form hown'
                  have HB5 := Lib.hid (HB3.out.app (f := s3) (by omega) (by rw [HLL.out]; exact hown') hg' hat')
                  clear hown' hg' hat' HB3 HR3 HBs p0 p1 p2
                  go_upto_region 18 with (first
                    | (go_at_call 273; (with_reducible refine (C5.out _).mono ?_); rintro e w6 ⟨rfl, hb⟩; have HB6 := Lib.hid (HB5.out.next hb); clear hb)
                    | (go_at_call 97; (with_reducible refine (wsr_any _ _ _ _ _ _ HB6.out.s.w1 HZ.out.1 HB6.out.s.bel.size).mono ?_); rintro e w7 ⟨rfl, h1, h2, h3⟩; obtain ⟨r5, hq⟩ := HB6.out.put1 h1 h2 h3; have HB7 := Lib.hid hq; clear h1 h2 h3 hq))
                  go_upto_region 19 with (first
                    | (go_at_call 273; (with_reducible refine (C6.out _).mono ?_); rintro e w8 ⟨rfl, hb⟩; have HB8 := Lib.hid (HB7.out.next hb); clear hb)
                    | (go_at_call 97; (with_reducible refine (wsr_any _ _ _ _ _ _ HB8.out.s.w2 HZ.out.2 HB8.out.s.bel.size).mono ?_); rintro e w9 ⟨rfl, h1, h2, h3⟩; obtain ⟨r6, hq⟩ := HB8.out.put2 h1 h2 h3; have HB9 := Lib.hid hq; clear h1 h2 h3 hq))
                  obtain ⟨p0, p1, p2⟩ := HB9.out.pz.cells
                  obtain ⟨g0, g1, g2⟩ := HB9.out.s.box.cells
                  obtain ⟨f0, f1, f2⟩ := HB9.out.s.box.frs
                  go_wp2_with fail
                  exact ⟨⟨j + 1, A5, c5, r5, r6, false, by simp, by omega, rfl, ⟨by rw [HU.out]; exact HNK.out, by rw [HU.out, HQ1.out.2.2.2.1]; exact HUN.out.1, by rw [HU.out, HQ1.out.2.2.2.2]; exact HUN.out.2⟩, by rw [HU.out, HQ1.out.1, HQ1.out.2.1, HQ1.out.2.2.1, HQ1.out.2.2.2.1, HQ1.out.2.2.2.2, ← HD1.out, ← HD2.out]; exact HB9.out.set⟩, by simp [intOf]; omega⟩
                · have hfd : flg dx dy true = (s3 + 1) := by simpa using hfd
                  rw [hfd] at HQ1 hfl
                  go_upto_region 16 with (first
                    | (go_at_call 271; (with_reducible refine (CX.out _).mono ?_); rintro e w3 ⟨rfl, rfl⟩)
                    | (go_at_call 271; (with_reducible refine (CY.out _).mono ?_); rintro e w3 ⟨rfl, rfl⟩)
                    | (go_at_call 272; (with_reducible refine (C3.out _).mono ?_); rintro e w3 ⟨rfl, rfl⟩)
                    | (go_at_call 272; (with_reducible refine (C4.out _).mono ?_); rintro e w3 ⟨rfl, rfl⟩))
                  have HB3 := Lib.hid (HB2.out.next ((Below.refl _ W2).alloc (Nat.le_refl _) (.cells #[.int .u8 (((s3 + 1) : Nat) : Int)] 5)))
                  have HR3 := Lib.hid (show (W2.alloc (.cells #[.int .u8 (((s3 + 1) : Nat) : Int)] 5)).ownsRow w.heap.size 5 1 (.slice A3 (T + j) c3) (T + j) (Lib.byteCells l0) by have h := HB3.out.s.row; rw [HLL.out] at h; exact h)
                  have HBs := Lib.hid HB3.out.s.bel.size
                  go_upto_region 17 with (at_builtin; go_must (refine wpList_own_at _ rfl (.tmp 54) (.tmp 56) 166 rfl w.heap.size 5 i5 _ 1 1 Tryz.underlying166 H5.out.1 H5.out.2.1 H5.out.2.2.1 H5.out.2.2.2 rfl (by decide) (.slice A3 (T + j) c3) (T + j) (Lib.byteCells l0) rfl HR3.out ⟨W2.heap.size, 0, none⟩ 1 1 [.int .u8 (((s3 + 1) : Nat) : Int)] rfl rfl (cells_new _ _ _) (by intro u hu; simp at hu; subst hu; rfl) (by unfold maxLen; omega) (by omega) HBs.out (by decide) ?_); intro v' w5 hown' hg' hat')
                  obtain ⟨A5, c5, rfl⟩ := own_form hown'
                  have HB5 := Lib.hid (HB3.out.app (f := (s3 + 1)) (by omega) (by rw [HLL.out]; exact hown') hg' hat')
                  clear hown' hg' hat' HB3 HR3 HBs p0 p1 p2
                  go_upto_region 18 with (first
                    | (go_at_call 273; (with_reducible refine (C5.out _).mono ?_); rintro e w6 ⟨rfl, hb⟩; have HB6 := Lib.hid (HB5.out.next hb); clear hb)
                    | (go_at_call 97; (with_reducible refine (wsr_any _ _ _ _ _ _ HB6.out.s.w1 HZ.out.1 HB6.out.s.bel.size).mono ?_); rintro e w7 ⟨rfl, h1, h2, h3⟩; obtain ⟨r5, hq⟩ := HB6.out.put1 h1 h2 h3; have HB7 := Lib.hid hq; clear h1 h2 h3 hq))
                  go_upto_region 19 with (first
                    | (go_at_call 273; (with_reducible refine (C6.out _).mono ?_); rintro e w8 ⟨rfl, hb⟩; have HB8 := Lib.hid (HB7.out.next hb); clear hb)
                    | (go_at_call 97; (with_reducible refine (wsr_any _ _ _ _ _ _ HB8.out.s.w2 HZ.out.2 HB8.out.s.bel.size).mono ?_); rintro e w9 ⟨rfl, h1, h2, h3⟩; obtain ⟨r6, hq⟩ := HB8.out.put2 h1 h2 h3; have HB9 := Lib.hid hq; clear h1 h2 h3 hq))
                  obtain ⟨p0, p1, p2⟩ := HB9.out.pz.cells
                  obtain ⟨g0, g1, g2⟩ := HB9.out.s.box.cells
                  obtain ⟨f0, f1, f2⟩ := HB9.out.s.box.frs
                  go_wp2_with fail
                  exact ⟨⟨j + 1, A5, c5, r5, r6, true, by simp, by omega, rfl, ⟨by rw [HU.out]; exact HNK.out, by rw [HU.out, HQ1.out.2.2.2.1]; exact HUN.out.1, by rw [HU.out, HQ1.out.2.2.2.2]; exact HUN.out.2⟩, by rw [HU.out, HQ1.out.1, HQ1.out.2.1, HQ1.out.2.2.1, HQ1.out.2.2.2.1, HQ1.out.2.2.2.2, ← HD1.out, ← HD2.out]; exact HB9.out.set⟩, by simp [intOf]; omega⟩
              · rw [decide_eq_false hsy] at CY
                have HX := Lib.hid (HEJ.out (fun h => hsy (q4.1 h).2.2))
                clear q4 hsx hsy HEJ
                go_wp2_with (first
                  | (go_at_call 271; (with_reducible refine (CX.out _).mono ?_); rintro e w3 ⟨rfl, rfl⟩)
                  | (go_at_call 271; (with_reducible refine (CY.out _).mono ?_); rintro e w3 ⟨rfl, rfl⟩))
                go_ret2
                exact ⟨by rw [HX.out.1, HX.out.2]; rfl, HB2.out.s.bel⟩
            · rw [decide_eq_false hsx] at CX
              have HX := Lib.hid (HEJ.out (fun h => hsx (q4.1 h).2.1))
              clear q4 hsx HEJ
              go_wp2_with (go_at_call 271; (with_reducible refine (CX.out _).mono ?_); rintro e w3 ⟨rfl, rfl⟩)
              go_ret2
              exact ⟨by rw [HX.out.1, HX.out.2]; rfl, HB2.out.s.bel⟩
        · obtain rfl : j = n := by omega
          rw [HUA.out] at hS hok
          rw [← HTK.out] at hS ⊢
          clear HPt
          go_wp2_with fail
          exact ⟨⟨k + 1, A3, c3, r3, r4, ao2, by simp, by omega, rfl, hok.1, hok.2, hS⟩, by simp [intOf]; omega⟩
    · obtain rfl : k = m := by omega
      have HTT := HY.out hok
      have q7 := encF_len (preP LL k) 0 0
      have q8 := encX_len (preP LL k) 0
      have q9 := encY_len (preP LL k) 0
      rw [preP_len] at q7 q8 q9
      have ht := HT.out k (Nat.le_refl _)
      obtain ⟨l0, hl0⟩ : ∃ l, l = encF 0 0 (preP LL k) := ⟨_, rfl⟩
      obtain ⟨l1, hl1⟩ : ∃ l, l = encX 0 (preP LL k) := ⟨_, rfl⟩
      obtain ⟨l2, hl2⟩ : ∃ l, l = encY 0 (preP LL k) := ⟨_, rfl⟩
      rw [← hl0, ← hl1, ← hl2] at hS HTT
      have HTT := Lib.hid HTT
      rw [← hl0] at q7
      rw [← hl1] at q8
      rw [← hl2] at q9
      obtain ⟨T, hT⟩ : ∃ T, T = tot LL k := ⟨_, rfl⟩
      rw [← hT] at hS q7 q8 q9 ht h1 ⊢
      obtain ⟨D0, hD0⟩ : ∃ D : ByteArray, D = ⟨l0.toArray⟩ := ⟨_, rfl⟩
      obtain ⟨D1, hD1⟩ : ∃ D : ByteArray, D = ⟨l1.toArray⟩ := ⟨_, rfl⟩
      obtain ⟨D2, hD2⟩ : ∃ D : ByteArray, D = ⟨l2.toArray⟩ := ⟨_, rfl⟩
      have z0 : D0.size = T := by rw [hD0]; show l0.toArray.size = T; rw [List.size_toArray]; exact q7
      have z1 : D1.size ≤ 2 * T := by rw [hD1]; show l1.toArray.size ≤ 2 * T; rw [List.size_toArray]; exact q8
      have z2 : D2.size ≤ 2 * T := by rw [hD2]; show l2.toArray.size ≤ 2 * T; rw [List.size_toArray]; exact q9
      have y1 : ¬ 9223372036854775807 < D0.size + D1.size := by omega
      have y2 : ¬ 9223372036854775807 < D0.size + D1.size + D2.size := by omega
      have HR := Lib.hid (show ∀ W : World, W.ownsRow w.heap.size 5 1 (.slice A1 T c1) l0.length (Lib.byteCells l0) → (convert 166 9 (.slice A1 T c1)).run Tryz.prog W = .ok (.string D0) W from fun W h => by rw [hD0]; exact row_conv h (by omega))
      have HD := Lib.hid (show D0 ++ D1 ++ D2 = ⟨(l0 ++ l1 ++ l2).toArray⟩ by rw [hD0, hD1, hD2, app_txt, app_txt])
      have C1 := Lib.hid (show ∀ W r, Bw w.heap.size b1 l1 r W → w.heap.size ≤ W.heap.size → Calls Tryz.prog 100 #[.pointer (some ⟨b1, 0, none⟩)] W fun e w' => e = .returned (.string D1) ∧ Below w.heap.size W w' ∧ Kr b1 r W w' from fun W r h h2 => by rw [hD1]; exact strr_any _ _ _ _ _ h h2)
      have C2 := Lib.hid (show ∀ W r, Bw w.heap.size b2 l2 r W → w.heap.size ≤ W.heap.size → Calls Tryz.prog 100 #[.pointer (some ⟨b2, 0, none⟩)] W fun e w' => e = .returned (.string D2) ∧ Below w.heap.size W w' ∧ Kr b2 r W w' from fun W r h h2 => by rw [hD2]; exact strr_any _ _ _ _ _ h h2)
      have H := Lib.hid hS
      have hcv := HR.out _ hS.row
      clear hS hok hun q7 q8 q9 hl0 hl1 hl2 hT hD0 hD1 hD2 z0 z1 z2 ht
      go_upto_region 22 with fail
      go_region_held3 (fun w' => (convert 166 9 (.slice A1 T c1)).run Tryz.prog w' = .ok (.string D0) w')
        (first | exact HR.out _ H.out.row | exact HR.out _ (H.out.next (Below.drew (Below.refl _ _))).row | go_keep)
        (first
          | (go_at_call 100; (first
              | (with_reducible refine (C1.out _ _ H.out.w1 H.out.bel.size).mono ?_)
              | (have H := Lib.hid (H.out.next (Below.drew (Below.refl _ _))); with_reducible refine (C1.out _ _ H.out.w1 H.out.bel.size).mono ?_)); rintro e w6 ⟨rfl, hb, hkr⟩; have H := Lib.hid (H.out.two hb hkr); clear hb hkr)
          | (go_at_call 100; (first
              | (with_reducible refine (C2.out _ _ H.out.w2 H.out.bel.size).mono ?_)
              | (have H := Lib.hid (H.out.next (Below.drew (Below.refl _ _))); with_reducible refine (C2.out _ _ H.out.w2 H.out.bel.size).mono ?_)); rintro e w7 ⟨rfl, hb, hkr⟩; have H := Lib.hid (H.out.one hb hkr); clear hb hkr))
      all_goals
        go_wp2_with fail
        go_ret2
        exact ⟨by rw [HTT.out.1, HTT.out.2, ← HD.out]; rfl, H.out.bel⟩
end N13
end Go.Proofs.YtfhaloclbbmbeaaGreat
