/- Proved here: are edges closed (the document's Closed). Condition: edges that lie in memory. -/
import Derived.Test.YtnnanlilnlimaaaEe
namespace Go.Proofs.Ytnnanlilnlimaaa
open Go.RowKit

/-- Do the edges go on? (As a bool.) -/
def cloB : Edg → List Edg → Bool
  | _, [] => true
  | f, [e] => decide (e.2.2.2.2 = (if e.1 = f.1 then f else e).2.2.1)
  | f, e :: g :: r => (if g.1 = e.1 then decide (e.2.2.2.2 = g.2.2.1) else decide (e.2.2.2.2 = (if e.1 = f.1 then f else e).2.2.1)) && cloB (if e.1 = f.1 then f else e) (g :: r)
theorem cloB_iff : ∀ (f : Edg) (L : List Edg), cloB f L = true ↔ cloR f L
  | _, [] => ⟨fun _ => trivial, fun _ => rfl⟩
  | f, [e] => decide_eq_true_iff
  | f, e :: g :: r => by
    show ((if g.1 = e.1 then decide (e.2.2.2.2 = g.2.2.1) else decide (e.2.2.2.2 = (if e.1 = f.1 then f else e).2.2.1)) && cloB (if e.1 = f.1 then f else e) (g :: r)) = true ↔ _
    rw [Bool.and_eq_true, cloB_iff _ (g :: r), cloR_cons]
    by_cases h : g.1 = e.1
    · rw [if_pos h, if_pos h, decide_eq_true_iff]
    · rw [if_neg h, if_neg h, decide_eq_true_iff]
def closed (L : List Edg) : Bool := match L with
  | [] => true
  | e :: r => cloB e (e :: r)
theorem closed_iff (L : List Edg) : closed L = true ↔ Clo L := by
  match L with
  | [] => exact ⟨fun _ _ _ h => by simp at h, fun _ => rfl⟩
  | e :: r => exact ⟨fun h e' r' he => by injection he with h1 h2; subst h1 h2; exact (cloB_iff _ _).1 h, fun h => (cloB_iff _ _).2 (h e r rfl)⟩
theorem drop_eg (L : List Edg) (k : Nat) (h : k < L.length) : L.drop k = eg L k :: L.drop (k + 1) := by
  rw [List.drop_eq_getElem_cons h]
  congr 1
  simp [eg, h]
/-- One step. -/
theorem cloB_last (f e : Edg) : cloB f [e] = decide (e.2.2.2.2 = (if e.1 = f.1 then f else e).2.2.1) := rfl
theorem cloB_next (f e g : Edg) (r : List Edg) : cloB f (e :: g :: r) = ((if g.1 = e.1 then decide (e.2.2.2.2 = g.2.2.1) else decide (e.2.2.2.2 = (if e.1 = f.1 then f else e).2.2.1)) && cloB (if e.1 = f.1 then f else e) (g :: r)) := rfl
theorem Edl.next {w : World} {a : Addr} {m : Nat} {L : List Edg} (h : Edl w (some a) m L) {W : World} (hb : Below w.heap.size w W) {k : Nat} (hk : k + 1 < m) :
    W.cell? { block := a.block, off := a.off + (k + 1) * 8 } = some (.int .i64 (eg L (k + 1)).1) ∧ W.cell? { block := a.block, off := a.off + (k + 1) * 8 + 2 } = some (.int .i64 (eg L (k + 1)).2.2.1.1) ∧ W.cell? { block := a.block, off := a.off + (k + 1) * 8 + 3 } = some (.int .i64 (eg L (k + 1)).2.2.1.2) := by
  obtain ⟨ad, h1, h2, h3⟩ := (h.bel hb).get (k + 1) hk
  injection h1 with h1
  subst h1
  have ha : ∀ n, n ≠ 0 → (a.add n) = ⟨a.block, a.off + n, none⟩ := fun n hn => by unfold Addr.add; rw [if_neg hn]
  refine ⟨?_, ?_, ?_⟩
  · have := h3 0 _ rfl; rw [Nat.add_zero, ha _ (by omega)] at this; exact this
  · have := h3 2 _ rfl; rw [ha _ (by omega), ← Nat.add_assoc] at this; exact this
  · have := h3 3 _ rfl; rw [ha _ (by omega), ← Nat.add_assoc] at this; exact this
set_option maxHeartbeats 8000000 in
set_option maxRecDepth 100000 in
theorem closed_any (A : Option Addr) (m c : Nat) (L : List Edg) (w : World) (hL : Edl w A m L) (hm : m ≤ 100000) :
    Calls Try.prog 15 #[.slice A m c] w fun e w' => e = .returned (.bool (closed L)) ∧ Below w.heap.size w w' := by
  have hlen := hL.len
  have HL := Lib.hid hL
  have HLen := Lib.hid hlen
  have H0 := Lib.hid (show cloB (eg L 0) (L.drop 0) = closed L from by
    match L with
    | [] => rfl
    | e :: r => rfl)
  clear hlen hL
  go_enter Try.func15, Try.ntmps15
  go_wp2_with fail
  go_loopw [3, 4] (fun f i wr => ∃ k fi : Nat, i = .int .i64 (k : Int) ∧ f = .int .i64 (fi : Int) ∧ k ≤ m ∧ (fi < m ∨ m = 0) ∧ cloB (eg L fi) (L.drop k) = closed L ∧ Below w.heap.size w wr) (fun _ i _ => m - (intOf i).toNat)
  case atStart => exact ⟨0, 0, rfl, rfl, Nat.zero_le _, by omega, H0.out, Below.refl _ _⟩
  case round =>
    obtain ⟨k, fi, rfl, rfl, hk, hfi, hcl, hb⟩ := hrel
    have HB := Lib.hid hb
    by_cases hgo : k < m
    · obtain ⟨ad, hA, c0, c1, c2, c3, c4, c5, c6, c7⟩ := HL.out.at_ hb hgo
      subst hA
      obtain ⟨ad2, hA, d0, d1, d2, d3, d4, d5, d6, d7⟩ := HL.out.at_ hb (show fi < m by omega)
      injection hA with hA
      subst hA
      rw [drop_eg L k (by rw [HLen.out]; exact hgo)] at hcl
      have hfm : fi < m := by omega
      obtain ⟨e, he⟩ : ∃ e, e = eg L k := ⟨_, rfl⟩
      obtain ⟨f, hf⟩ : ∃ f, f = eg L fi := ⟨_, rfl⟩
      have HE := Lib.hid he
      have HF := Lib.hid hf
      rw [← he] at c0 c1 c2 c3 c4 c5 c6 c7 hcl
      rw [← hf] at d0 d1 d2 d3 d4 d5 d6 d7 hcl
      have HCl := Lib.hid hcl
      obtain ⟨ek, eq, ⟨ax, ay⟩, ⟨bx, by_⟩, ⟨cx, cy⟩⟩ := e
      obtain ⟨fk, fq, ⟨px, py⟩, ⟨qx, qy⟩, ⟨rx, ry⟩⟩ := f
      dsimp only at c0 c1 c2 c3 c4 c5 c6 c7 d0 d1 d2 d3 d4 d5 d6 d7
      have g0 : (0 : Int) ≤ (k : Int) := by omega
      have g1 : (k : Int) < (m : Int) := by omega
      have g2 : (0 : Int) ≤ (fi : Int) := by omega
      have g3 : (fi : Int) < (m : Int) := by omega
      have w1 : IntKind.i64.wrap ((m : Int) - 1) = (m : Int) - 1 := i64_in _ (by omega)
      have w2 : IntKind.i64.wrap ((k : Int) + 1) = (k : Int) + 1 := i64_in _ (by omega)
      clear he hf hcl hb hfi
      by_cases hc : ek = fk
      · subst hc
        have n1 : (ek != ek) = false := by simp
        by_cases hl : k + 1 = m
        · have e1 : ((k : Int) == (m : Int) - 1) = true := by simp; omega
          have hd : L.drop (k + 1) = [] := List.drop_eq_nil_of_le (by rw [HLen.out]; omega)
          have hq := HCl.out
          rw [hd, cloB_last, if_pos rfl] at hq
          by_cases hx : cx = px
          · by_cases hy : cy = py
            · subst hx
              subst hy
              have HX := Lib.hid (show cloB (eg L fi) (L.drop (k + 1)) = closed L from by rw [hd, ← hq]; exact (decide_eq_true rfl).symm)
              clear hd hq hl
              go_wp2_with fail
              go_quiet (fail)
              all_goals
                go_wp2_with fail
                go_quiet (fail)
              all_goals
                go_wp2_with fail
                go_quiet (fail)
              all_goals
                go_wp2_with fail
                exact ⟨⟨k + 1, fi, by simp, by simp, by omega, by omega, HX.out, by first | exact below_drewN HB.out _ | exact below_drewN (below_drewN (below_drewN HB.out _) _) _⟩, by simp [intOf]; omega⟩
            · have HX := Lib.hid (show closed L = false from by rw [← hq]; exact decide_eq_false (fun h => hy (congrArg Prod.snd h)))
              subst hx
              clear hd hq hl
              go_wp2_with fail
              go_quiet (fail)
              all_goals
                go_wp2_with fail
                go_quiet (fail)
              all_goals
                go_wp2_with fail
                go_quiet (fail)
              all_goals
                go_wp2_with fail
                go_ret
                exact ⟨by rw [HX.out]; rfl, by first | exact below_drewN (below_drewN (below_drewN HB.out _) _) _ | exact below_drewN HB.out _⟩
          · have HX := Lib.hid (show closed L = false from by rw [← hq]; exact decide_eq_false (fun h => hx (congrArg Prod.fst h)))
            clear hd hq hl
            go_wp2_with fail
            go_quiet (fail)
            all_goals
              go_wp2_with fail
              go_quiet (fail)
            all_goals
              go_wp2_with fail
              go_quiet (fail)
            all_goals
              go_wp2_with fail
              go_ret
              exact ⟨by rw [HX.out]; rfl, by first | exact below_drewN (below_drewN (below_drewN HB.out _) _) _ | exact below_drewN HB.out _⟩
        · have hk1 : k + 1 < m := by omega
          have e1 : ((k : Int) == (m : Int) - 1) = false := by simp; omega
          have g4 : (0 : Int) ≤ (k : Int) + 1 := by omega
          have g5 : (k : Int) + 1 < (m : Int) := by omega
          obtain ⟨i0, i2, i3⟩ := HL.out.next HB.out hk1
          obtain ⟨ad3, hA3, j0, j1, j2, j3, j4, j5, j6, j7⟩ := HL.out.at_ HB.out hk1
          injection hA3 with hA3
          subst hA3
          have hd := drop_eg L (k + 1) (by rw [HLen.out]; exact hk1)
          have hq := HCl.out
          rw [hd, cloB_next, if_pos rfl] at hq
          rw [← hd] at hq
          obtain ⟨g, hg⟩ : ∃ g, g = eg L (k + 1) := ⟨_, rfl⟩
          rw [← hg] at i0 i2 i3 j0 j1 j2 j3 j4 j5 j6 j7 hq
          obtain ⟨nk, nq, ⟨nx, ny⟩, ⟨ox, oy⟩, ⟨ux, uy⟩⟩ := g
          dsimp only at i0 i2 i3 j0 j1 j2 j3 j4 j5 j6 j7 hq
          clear hg hd
          by_cases hn : nk = ek
          · have n2 : (nk != ek) = false := by simp [hn]
            rw [if_pos hn] at hq
            by_cases hx : cx = nx
            · by_cases hy : cy = ny
              · subst hx
                subst hy
                have HX := Lib.hid (show cloB (eg L fi) (L.drop (k + 1)) = closed L from by rw [decide_eq_true rfl, Bool.true_and] at hq; rw [← HF.out]; exact hq)
                clear hq hl hn
                go_wp2_with fail
                go_quiet (fail)
                all_goals
                  go_wp2_with fail
                  go_quiet (fail)
                all_goals
                  go_wp2_with fail
                  go_quiet (fail)
                all_goals
                  go_wp2_with fail
                  exact ⟨⟨k + 1, fi, by simp, by simp, by omega, by omega, HX.out, by first | exact below_drewN HB.out _ | exact below_drewN (below_drewN (below_drewN HB.out _) _) _⟩, by simp [intOf]; omega⟩
              · have HX := Lib.hid (show closed L = false from by rw [← hq, decide_eq_false (fun h => hy (congrArg Prod.snd h)), Bool.false_and])
                subst hx
                clear hq hl hn
                go_wp2_with fail
                go_quiet (fail)
                all_goals
                  go_wp2_with fail
                  go_quiet (fail)
                all_goals
                  go_wp2_with fail
                  go_quiet (fail)
                all_goals
                  go_wp2_with fail
                  go_ret
                  exact ⟨by rw [HX.out]; rfl, by first | exact below_drewN (below_drewN (below_drewN HB.out _) _) _ | exact below_drewN HB.out _⟩
            · have HX := Lib.hid (show closed L = false from by rw [← hq, decide_eq_false (fun h => hx (congrArg Prod.fst h)), Bool.false_and])
              clear hq hl hn
              go_wp2_with fail
              go_quiet (fail)
              all_goals
                go_wp2_with fail
                go_quiet (fail)
              all_goals
                go_wp2_with fail
                go_quiet (fail)
              all_goals
                go_wp2_with fail
                go_ret
                exact ⟨by rw [HX.out]; rfl, by first | exact below_drewN (below_drewN (below_drewN HB.out _) _) _ | exact below_drewN HB.out _⟩
          · have n2 : (nk != ek) = true := by simp [hn]
            rw [if_neg hn] at hq
            by_cases hx : cx = px
            · by_cases hy : cy = py
              · subst hx
                subst hy
                have HX := Lib.hid (show cloB (eg L fi) (L.drop (k + 1)) = closed L from by rw [decide_eq_true rfl, Bool.true_and] at hq; rw [← HF.out]; exact hq)
                clear hq hl hn
                go_wp2_with fail
                go_quiet (fail)
                all_goals
                  go_wp2_with fail
                  go_quiet (fail)
                all_goals
                  go_wp2_with fail
                  go_quiet (fail)
                all_goals
                  go_wp2_with fail
                  exact ⟨⟨k + 1, fi, by simp, by simp, by omega, by omega, HX.out, by first | exact below_drewN HB.out _ | exact below_drewN (below_drewN (below_drewN HB.out _) _) _⟩, by simp [intOf]; omega⟩
              · have HX := Lib.hid (show closed L = false from by rw [← hq, decide_eq_false (fun h => hy (congrArg Prod.snd h)), Bool.false_and])
                subst hx
                clear hq hl hn
                go_wp2_with fail
                go_quiet (fail)
                all_goals
                  go_wp2_with fail
                  go_quiet (fail)
                all_goals
                  go_wp2_with fail
                  go_quiet (fail)
                all_goals
                  go_wp2_with fail
                  go_ret
                  exact ⟨by rw [HX.out]; rfl, by first | exact below_drewN (below_drewN (below_drewN HB.out _) _) _ | exact below_drewN HB.out _⟩
            · have HX := Lib.hid (show closed L = false from by rw [← hq, decide_eq_false (fun h => hx (congrArg Prod.fst h)), Bool.false_and])
              clear hq hl hn
              go_wp2_with fail
              go_quiet (fail)
              all_goals
                go_wp2_with fail
                go_quiet (fail)
              all_goals
                go_wp2_with fail
                go_quiet (fail)
              all_goals
                go_wp2_with fail
                go_ret
                exact ⟨by rw [HX.out]; rfl, by first | exact below_drewN (below_drewN (below_drewN HB.out _) _) _ | exact below_drewN HB.out _⟩
      · have n1 : (ek != fk) = true := by simp [hc]
        have hc0 := hc
        by_cases hl : k + 1 = m
        · have e1 : ((k : Int) == (m : Int) - 1) = true := by simp; omega
          have hd : L.drop (k + 1) = [] := List.drop_eq_nil_of_le (by rw [HLen.out]; omega)
          have hq := HCl.out
          rw [hd, cloB_last, if_neg hc0] at hq
          by_cases hx : cx = ax
          · by_cases hy : cy = ay
            · subst hx
              subst hy
              have HX := Lib.hid (show cloB (eg L k) (L.drop (k + 1)) = closed L from by rw [hd, ← hq]; exact (decide_eq_true rfl).symm)
              clear hd hq hl hc hc0
              go_wp2_with fail
              go_quiet (fail)
              all_goals
                go_wp2_with fail
                go_quiet (fail)
              all_goals
                go_wp2_with fail
                go_quiet (fail)
              all_goals
                go_wp2_with fail
                exact ⟨⟨k + 1, k, by simp, by simp, by omega, by omega, HX.out, by first | exact below_drewN HB.out _ | exact below_drewN (below_drewN (below_drewN HB.out _) _) _⟩, by simp [intOf]; omega⟩
            · have HX := Lib.hid (show closed L = false from by rw [← hq]; exact decide_eq_false (fun h => hy (congrArg Prod.snd h)))
              subst hx
              clear hd hq hl hc hc0
              go_wp2_with fail
              go_quiet (fail)
              all_goals
                go_wp2_with fail
                go_quiet (fail)
              all_goals
                go_wp2_with fail
                go_quiet (fail)
              all_goals
                go_wp2_with fail
                go_ret
                exact ⟨by rw [HX.out]; rfl, by first | exact below_drewN (below_drewN (below_drewN HB.out _) _) _ | exact below_drewN HB.out _⟩
          · have HX := Lib.hid (show closed L = false from by rw [← hq]; exact decide_eq_false (fun h => hx (congrArg Prod.fst h)))
            clear hd hq hl hc hc0
            go_wp2_with fail
            go_quiet (fail)
            all_goals
              go_wp2_with fail
              go_quiet (fail)
            all_goals
              go_wp2_with fail
              go_quiet (fail)
            all_goals
              go_wp2_with fail
              go_ret
              exact ⟨by rw [HX.out]; rfl, by first | exact below_drewN (below_drewN (below_drewN HB.out _) _) _ | exact below_drewN HB.out _⟩
        · have hk1 : k + 1 < m := by omega
          have e1 : ((k : Int) == (m : Int) - 1) = false := by simp; omega
          have g4 : (0 : Int) ≤ (k : Int) + 1 := by omega
          have g5 : (k : Int) + 1 < (m : Int) := by omega
          obtain ⟨i0, i2, i3⟩ := HL.out.next HB.out hk1
          obtain ⟨ad3, hA3, j0, j1, j2, j3, j4, j5, j6, j7⟩ := HL.out.at_ HB.out hk1
          injection hA3 with hA3
          subst hA3
          have hd := drop_eg L (k + 1) (by rw [HLen.out]; exact hk1)
          have hq := HCl.out
          rw [hd, cloB_next, if_neg hc0] at hq
          rw [← hd] at hq
          obtain ⟨g, hg⟩ : ∃ g, g = eg L (k + 1) := ⟨_, rfl⟩
          rw [← hg] at i0 i2 i3 j0 j1 j2 j3 j4 j5 j6 j7 hq
          obtain ⟨nk, nq, ⟨nx, ny⟩, ⟨ox, oy⟩, ⟨ux, uy⟩⟩ := g
          dsimp only at i0 i2 i3 j0 j1 j2 j3 j4 j5 j6 j7 hq
          clear hg hd
          by_cases hn : nk = ek
          · have n2 : (nk != ek) = false := by simp [hn]
            rw [if_pos hn] at hq
            by_cases hx : cx = nx
            · by_cases hy : cy = ny
              · subst hx
                subst hy
                have HX := Lib.hid (show cloB (eg L k) (L.drop (k + 1)) = closed L from by rw [decide_eq_true rfl, Bool.true_and] at hq; rw [← HE.out]; exact hq)
                clear hq hl hn hc hc0
                go_wp2_with fail
                go_quiet (fail)
                all_goals
                  go_wp2_with fail
                  go_quiet (fail)
                all_goals
                  go_wp2_with fail
                  go_quiet (fail)
                all_goals
                  go_wp2_with fail
                  exact ⟨⟨k + 1, k, by simp, by simp, by omega, by omega, HX.out, by first | exact below_drewN HB.out _ | exact below_drewN (below_drewN (below_drewN HB.out _) _) _⟩, by simp [intOf]; omega⟩
              · have HX := Lib.hid (show closed L = false from by rw [← hq, decide_eq_false (fun h => hy (congrArg Prod.snd h)), Bool.false_and])
                subst hx
                clear hq hl hn hc hc0
                go_wp2_with fail
                go_quiet (fail)
                all_goals
                  go_wp2_with fail
                  go_quiet (fail)
                all_goals
                  go_wp2_with fail
                  go_quiet (fail)
                all_goals
                  go_wp2_with fail
                  go_ret
                  exact ⟨by rw [HX.out]; rfl, by first | exact below_drewN (below_drewN (below_drewN HB.out _) _) _ | exact below_drewN HB.out _⟩
            · have HX := Lib.hid (show closed L = false from by rw [← hq, decide_eq_false (fun h => hx (congrArg Prod.fst h)), Bool.false_and])
              clear hq hl hn hc hc0
              go_wp2_with fail
              go_quiet (fail)
              all_goals
                go_wp2_with fail
                go_quiet (fail)
              all_goals
                go_wp2_with fail
                go_quiet (fail)
              all_goals
                go_wp2_with fail
                go_ret
                exact ⟨by rw [HX.out]; rfl, by first | exact below_drewN (below_drewN (below_drewN HB.out _) _) _ | exact below_drewN HB.out _⟩
          · have n2 : (nk != ek) = true := by simp [hn]
            rw [if_neg hn] at hq
            by_cases hx : cx = ax
            · by_cases hy : cy = ay
              · subst hx
                subst hy
                have HX := Lib.hid (show cloB (eg L k) (L.drop (k + 1)) = closed L from by rw [decide_eq_true rfl, Bool.true_and] at hq; rw [← HE.out]; exact hq)
                clear hq hl hn hc hc0
                go_wp2_with fail
                go_quiet (fail)
                all_goals
                  go_wp2_with fail
                  go_quiet (fail)
                all_goals
                  go_wp2_with fail
                  go_quiet (fail)
                all_goals
                  go_wp2_with fail
                  exact ⟨⟨k + 1, k, by simp, by simp, by omega, by omega, HX.out, by first | exact below_drewN HB.out _ | exact below_drewN (below_drewN (below_drewN HB.out _) _) _⟩, by simp [intOf]; omega⟩
              · have HX := Lib.hid (show closed L = false from by rw [← hq, decide_eq_false (fun h => hy (congrArg Prod.snd h)), Bool.false_and])
                subst hx
                clear hq hl hn hc hc0
                go_wp2_with fail
                go_quiet (fail)
                all_goals
                  go_wp2_with fail
                  go_quiet (fail)
                all_goals
                  go_wp2_with fail
                  go_quiet (fail)
                all_goals
                  go_wp2_with fail
                  go_ret
                  exact ⟨by rw [HX.out]; rfl, by first | exact below_drewN (below_drewN (below_drewN HB.out _) _) _ | exact below_drewN HB.out _⟩
            · have HX := Lib.hid (show closed L = false from by rw [← hq, decide_eq_false (fun h => hx (congrArg Prod.fst h)), Bool.false_and])
              clear hq hl hn hc hc0
              go_wp2_with fail
              go_quiet (fail)
              all_goals
                go_wp2_with fail
                go_quiet (fail)
              all_goals
                go_wp2_with fail
                go_quiet (fail)
              all_goals
                go_wp2_with fail
                go_ret
                exact ⟨by rw [HX.out]; rfl, by first | exact below_drewN (below_drewN (below_drewN HB.out _) _) _ | exact below_drewN HB.out _⟩
    · obtain rfl : k = m := by omega
      have HX := Lib.hid (show closed L = true from by rw [← hcl, List.drop_of_length_le (by rw [HLen.out]; exact Nat.le_refl _)]; rfl)
      clear hcl hb
      go_wp2_with fail
      go_ret
      exact ⟨by rw [HX.out]; rfl, HB.out⟩
end Go.Proofs.Ytnnanlilnlimaaa
