/- Proved here: are edges closed (the program's Closed). Condition: edges that lie in memory. -/
import Derived.Test.YtnnanlilnlimaaaEf
import Derived.Test.YtnnanlilnlimaaaFb
namespace Go.Proofs.Ytnnanlilnlimaaa
open Go.RowKit

theorem cloB_new (f g : Edg) (r : List Edg) (h : g.1 ≠ f.1) : cloB f (g :: r) = cloB g (g :: r) := by
  cases r with
  | nil => rw [cloB_last, cloB_last, if_neg h, if_pos rfl]
  | cons d r => rw [cloB_next, cloB_next, if_neg h, if_pos rfl]
set_option maxHeartbeats 8000000 in
set_option maxRecDepth 100000 in
theorem pclosed_any (A : Option Addr) (m c : Nat) (L : List Edg) (w : World) (hL : Edl w A m L) (hm : m ≤ 100000) :
    Calls Try.prog 12 #[.slice A m c] w fun e w' => e = .returned (.bool (closed L)) ∧ Below w.heap.size w w' := by
  have hlen := hL.len
  have HL := Lib.hid hL
  have HLen := Lib.hid hlen
  have H0 := Lib.hid (show cloB (eg L 0) (L.drop 0) = closed L from by
    match L with
    | [] => rfl
    | e :: r => rfl)
  clear hlen hL
  go_enter Try.func12, Try.ntmps12
  go_wp2_with fail
  go_loopw [3, 9] (fun f i wr => ∃ k fi : Nat, i = .int .i64 (k : Int) ∧ f = .int .i64 (fi : Int) ∧ k ≤ m ∧ fi ≤ k ∧ (k < m → (eg L fi).1 = (eg L k).1) ∧ cloB (eg L fi) (L.drop k) = closed L ∧ Below w.heap.size w wr) (fun _ i _ => m - (intOf i).toNat)
  case atStart => exact ⟨0, 0, rfl, rfl, Nat.zero_le _, Nat.le_refl _, fun _ => rfl, H0.out, Below.refl _ _⟩
  case round =>
    obtain ⟨k, fi, rfl, rfl, hk, hfi, hsame, hcl, hb⟩ := hrel
    have HB := Lib.hid hb
    by_cases hgo : k < m
    · obtain ⟨ad, hA, c0, c1, c2, c3, c4, c5, c6, c7⟩ := HL.out.at_ hb hgo
      subst hA
      have hsm := hsame hgo
      have hfm : fi < m := by omega
      rw [drop_eg L k (by rw [HLen.out]; exact hgo)] at hcl
      obtain ⟨e, he⟩ : ∃ e, e = eg L k := ⟨_, rfl⟩
      obtain ⟨f, hf⟩ : ∃ f, f = eg L fi := ⟨_, rfl⟩
      have HE := Lib.hid he
      have HF := Lib.hid hf
      rw [← he] at c0 c1 c2 c3 c4 c5 c6 c7 hcl hsm
      rw [← hf] at hcl hsm
      obtain ⟨ek, eq, ⟨ax, ay⟩, ⟨bx, by_⟩, ⟨cx, cy⟩⟩ := e
      obtain ⟨fk, fq, ⟨px, py⟩, ⟨qx, qy⟩, ⟨rx, ry⟩⟩ := f
      dsimp only at c0 c1 c2 c3 c4 c5 c6 c7 hsm
      subst hsm
      have HCl := Lib.hid hcl
      have hA1 : Below wr.heap.size wr (wr.alloc (.cells #[.int .i64 fk, .bool eq, .int .i64 ax, .int .i64 ay, .int .i64 bx, .int .i64 by_, .int .i64 cx, .int .i64 cy] 43)) := (Below.refl _ _).alloc (Nat.le_refl _) _
      have HX1 := Lib.hid (Ebx.new wr (fk, eq, (ax, ay), (bx, by_), (cx, cy)))
      have HA1 := Lib.hid hA1
      clear he hf hcl hb hsame hA1
      go_upto_region 5 with fail
      obtain ⟨b8, hb8⟩ : ∃ b, b = wr.heap.size := ⟨_, rfl⟩
      obtain ⟨W1, hW1⟩ : ∃ W, W = wr.alloc (.cells #[.int .i64 fk, .bool eq, .int .i64 ax, .int .i64 ay, .int .i64 bx, .int .i64 by_, .int .i64 cx, .int .i64 cy] 43) := ⟨_, rfl⟩
      have HX1 : Hid (Ebx W1 b8 (fk, eq, (ax, ay), (bx, by_), (cx, cy))) := by rw [hW1, hb8]; exact HX1
      rw [← hW1] at HA1 ⊢
      rw [← hb8]
      have HB1 := Lib.hid (HB.out.trans (HA1.out.mono HB.out.size))
      clear hW1 hb8 c0 c1 c2 c3 c4 c5 c6 c7
      obtain ⟨y0, y1, y2, y3, y4, y5, y6, y7⟩ := HX1.out.cells
      dsimp only at y0 y1 y2 y3 y4 y5 y6 y7
      obtain ⟨ad2, hA, d0, d1, d2, d3, d4, d5, d6, d7⟩ := HL.out.at_ HB1.out hfm
      injection hA with hA
      subst hA
      rw [← HF.out] at d0 d1 d2 d3 d4 d5 d6 d7
      dsimp only at d0 d1 d2 d3 d4 d5 d6 d7
      have g0 : (0 : Int) ≤ (fi : Int) := by omega
      have g1 : (fi : Int) < (m : Int) := by omega
      have w2 : IntKind.i64.wrap ((k : Int) + 1) = (k : Int) + 1 := i64_in _ (by omega)
      by_cases hl : k + 1 = m
      · have e1 : ((k : Int) + 1 == (m : Int)) = true := by simp; omega
        have hd : L.drop (k + 1) = [] := List.drop_eq_nil_of_le (by rw [HLen.out]; omega)
        have hq := HCl.out
        rw [hd, cloB_last, if_pos rfl] at hq
        by_cases hx : cx = px
        · by_cases hy : cy = py
          · subst hx
            subst hy
            have HX := Lib.hid (show cloB (eg L (k + 1)) (L.drop (k + 1)) = closed L from by rw [hd, ← hq]; exact (decide_eq_true rfl).symm)
            clear hd hq hl
            go_wp2_with fail
            go_quiet (fail)
            all_goals
              go_wp2_with fail
              go_quiet (fail)
            all_goals
              go_wp2_with fail
              exact ⟨⟨k + 1, k + 1, by simp, by simp, by omega, by omega, fun _ => rfl, HX.out, by first | exact below_drewN HB1.out _ | exact below_drewN (below_drewN HB1.out _) _ | exact below_drewN (below_drewN (below_drewN HB1.out _) _) _ | exact HB1.out⟩, by simp [intOf]; omega⟩
          · have HX := Lib.hid (show closed L = false from by rw [← hq]; exact decide_eq_false (fun h => hy (congrArg Prod.snd h)))
            subst hx
            clear hd hq hl
            go_wp2_with fail
            go_quiet (fail)
            all_goals
              go_wp2_with fail
              go_quiet (fail)
            all_goals
              go_wp2_with fail
              go_ret
              exact ⟨by rw [HX.out]; rfl, by first | exact below_drewN HB1.out _ | exact below_drewN (below_drewN HB1.out _) _ | exact below_drewN (below_drewN (below_drewN HB1.out _) _) _ | exact HB1.out⟩
        · have HX := Lib.hid (show closed L = false from by rw [← hq]; exact decide_eq_false (fun h => hx (congrArg Prod.fst h)))
          clear hd hq hl
          go_wp2_with fail
          go_quiet (fail)
          all_goals
            go_wp2_with fail
            go_quiet (fail)
          all_goals
            go_wp2_with fail
            go_ret
            exact ⟨by rw [HX.out]; rfl, by first | exact below_drewN HB1.out _ | exact below_drewN (below_drewN HB1.out _) _ | exact below_drewN (below_drewN (below_drewN HB1.out _) _) _ | exact HB1.out⟩
      · have hk1 : k + 1 < m := by omega
        have e1 : ((k : Int) + 1 == (m : Int)) = false := by simp; omega
        have g4 : (0 : Int) ≤ (k : Int) + 1 := by omega
        have g5 : (k : Int) + 1 < (m : Int) := by omega
        obtain ⟨i0, i2, i3⟩ := HL.out.next HB1.out hk1
        obtain ⟨ad3, hA3, j0, j1, j2, j3, j4, j5, j6, j7⟩ := HL.out.at_ HB1.out hk1
        injection hA3 with hA3
        subst hA3
        have hd := drop_eg L (k + 1) (by rw [HLen.out]; exact hk1)
        have hq := HCl.out
        rw [hd, cloB_next, if_pos rfl] at hq
        obtain ⟨g, hg⟩ : ∃ g, g = eg L (k + 1) := ⟨_, rfl⟩
        have HG := Lib.hid hg
        rw [← hg] at i0 i2 i3 j0 j1 j2 j3 j4 j5 j6 j7 hq hd
        have HD := Lib.hid hd
        obtain ⟨nk, nq, ⟨nx, ny⟩, ⟨ox, oy⟩, ⟨ux, uy⟩⟩ := g
        dsimp only at i0 i2 i3 j0 j1 j2 j3 j4 j5 j6 j7 hq
        clear hg hd
        by_cases hn : nk = fk
        · have n2 : (nk != fk) = false := by simp [hn]
          have HNk := Lib.hid hn
          rw [if_pos hn] at hq
          have HQ := Lib.hid hq
          by_cases hx : cx = nx
          · by_cases hy : cy = ny
            · subst hx
              subst hy
              have HX := Lib.hid (show cloB (eg L fi) (L.drop (k + 1)) = closed L from by rw [decide_eq_true rfl, Bool.true_and] at hq; rw [← HF.out, HD.out]; exact hq)
              have HS := Lib.hid (show k + 1 < m → (eg L (fi)).1 = (eg L (k + 1)).1 from fun _ => by rw [← HF.out, ← HG.out]; exact HNk.out.symm)
              clear hq hl hn
              go_wp2_with fail
              go_quiet (fail)
              all_goals
                go_wp2_with fail
                go_quiet (fail)
              all_goals
                go_wp2_with fail
                exact ⟨⟨k + 1, fi, by simp, by simp, by omega, by omega, HS.out, HX.out, by first | exact below_drewN HB1.out _ | exact below_drewN (below_drewN HB1.out _) _ | exact below_drewN (below_drewN (below_drewN HB1.out _) _) _ | exact HB1.out⟩, by simp [intOf]; omega⟩
            · have HX := Lib.hid (show closed L = false from by rw [← hq, decide_eq_false (fun h => hy (congrArg Prod.snd h)), Bool.false_and])
              subst hx
              clear hq hl hn
              go_wp2_with fail
              go_quiet (fail)
              all_goals
                go_wp2_with fail
                go_quiet (fail)
              all_goals
                go_wp2_with fail
                go_ret
                exact ⟨by rw [HX.out]; rfl, by first | exact below_drewN HB1.out _ | exact below_drewN (below_drewN HB1.out _) _ | exact below_drewN (below_drewN (below_drewN HB1.out _) _) _ | exact HB1.out⟩
          · have HX := Lib.hid (show closed L = false from by rw [← hq, decide_eq_false (fun h => hx (congrArg Prod.fst h)), Bool.false_and])
            clear hq hl hn
            go_wp2_with fail
            go_quiet (fail)
            all_goals
              go_wp2_with fail
              go_quiet (fail)
            all_goals
              go_wp2_with fail
              go_ret
              exact ⟨by rw [HX.out]; rfl, by first | exact below_drewN HB1.out _ | exact below_drewN (below_drewN HB1.out _) _ | exact below_drewN (below_drewN (below_drewN HB1.out _) _) _ | exact HB1.out⟩
        · have n2 : (nk != fk) = true := by simp [hn]
          rw [if_neg hn] at hq
          have HNk := Lib.hid hn
          by_cases hx : cx = px
          · by_cases hy : cy = py
            · subst hx
              subst hy
              have HX := Lib.hid (show cloB (eg L (k + 1)) (L.drop (k + 1)) = closed L from by rw [decide_eq_true rfl, Bool.true_and] at hq; rw [← HG.out, HD.out, ← cloB_new (fk, fq, (cx, cy), (qx, qy), (rx, ry)) (nk, nq, (nx, ny), (ox, oy), (ux, uy)) _ (fun h => HNk.out h)]; exact hq)
              clear hq hl hn
              go_wp2_with fail
              go_quiet (fail)
              all_goals
                go_wp2_with fail
                go_quiet (fail)
              all_goals
                go_wp2_with fail
                exact ⟨⟨k + 1, k + 1, by simp, by simp, by omega, by omega, fun _ => rfl, HX.out, by first | exact below_drewN HB1.out _ | exact below_drewN (below_drewN HB1.out _) _ | exact below_drewN (below_drewN (below_drewN HB1.out _) _) _ | exact HB1.out⟩, by simp [intOf]; omega⟩
            · have HX := Lib.hid (show closed L = false from by rw [← hq, decide_eq_false (fun h => hy (congrArg Prod.snd h)), Bool.false_and])
              subst hx
              clear hq hl hn
              go_wp2_with fail
              go_quiet (fail)
              all_goals
                go_wp2_with fail
                go_quiet (fail)
              all_goals
                go_wp2_with fail
                go_ret
                exact ⟨by rw [HX.out]; rfl, by first | exact below_drewN HB1.out _ | exact below_drewN (below_drewN HB1.out _) _ | exact below_drewN (below_drewN (below_drewN HB1.out _) _) _ | exact HB1.out⟩
          · have HX := Lib.hid (show closed L = false from by rw [← hq, decide_eq_false (fun h => hx (congrArg Prod.fst h)), Bool.false_and])
            clear hq hl hn
            go_wp2_with fail
            go_quiet (fail)
            all_goals
              go_wp2_with fail
              go_quiet (fail)
            all_goals
              go_wp2_with fail
              go_ret
              exact ⟨by rw [HX.out]; rfl, by first | exact below_drewN HB1.out _ | exact below_drewN (below_drewN HB1.out _) _ | exact below_drewN (below_drewN (below_drewN HB1.out _) _) _ | exact HB1.out⟩
    · obtain rfl : k = m := by omega
      have HX := Lib.hid (show closed L = true from by rw [← hcl, List.drop_of_length_le (by rw [HLen.out]; exact Nat.le_refl _)]; rfl)
      clear hcl hb hsame
      go_wp2_with fail
      go_ret
      exact ⟨by rw [HX.out]; rfl, HB.out⟩
end Go.Proofs.Ytnnanlilnlimaaa
