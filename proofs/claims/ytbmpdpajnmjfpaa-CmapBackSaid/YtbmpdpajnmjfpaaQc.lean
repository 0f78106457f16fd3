/- Proved here: pairs as runs, in the document. Condition: pairs that may be. -/
import Derived.Test.YtbmpdpajnmjfpaaQb
import Derived.Deep.RegionLaw
import Derived.BigRegion
namespace Go.Proofs.Ytbmpdpajnmjfpaa
open Go.RowKit

/-- A run is appended, at a step of a region that draws its order. -/
theorem step_run0 {ops : Array Oper} {o : Oper} {a : Act} {K : Act → World → Prop} {Q : Exit → Act → World → Prop} {E0 : Prop} {wr : World} (hgd : o.guard = none) (s x : Operand)
    (ho : o.op = .call { callee := .builtin .append, args := #[s, x], argTypes := #[46, 46] }) (w : World) (v : Value) (n : Nat) (R : List (Int × Int × Int)) (e1 e2 e3 : Int) (hs : a.eval s = v)
    (hown : RnS 50 w wr v n R) (hn : n ≤ 1000000) (hx : a.eval x = .slice (some ⟨wr.heap.size, 0, none⟩) 1 1)
    (h : ∀ A c w', RnS 50 w w' (.slice A (n + 1) c) (n + 1) (R ++ [(e1, e2, e3)]) → K (a.put o.dst (.slice A (n + 1) c)) w') :
    if Region.wanted o (yielded ops a.tmps) = true then Oper.wp Try.prog o a (wr.alloc (.cells #[.int .i64 e1, .int .i64 e2, .int .i64 e3] 50)) K Q else E0 := by
  have hw : Region.wanted o (yielded ops a.tmps) = true := by simp [Region.wanted, hgd]
  rw [if_pos hw]
  obtain ⟨i0, hi0, hz0, hz1, hz2⟩ := info_parts Try.info50
  refine wp_append_own _ s x 46 ho w.heap.size 50 i0 _ 3 24 Try.underlying46 hi0 hz0 hz1 hz2 rfl (by decide) v n (runC R) hs (hown.own.alloc _) ⟨wr.heap.size, 0, none⟩ 1 1 [.int .i64 e1, .int .i64 e2, .int .i64 e3] hx rfl (cells_new _ _ _) (by intro u hu; simp at hu; rcases hu with rfl | rfl | rfl <;> rfl) ?_ ?_ ?_ ?_
  · unfold maxLen; omega
  · omega
  · have := hown.bel.size; simp; omega
  · intro v' w' h1 h2 _
    have h3 := (hown.alloc _).push (e := (e1, e2, e3)) h2 h1
    obtain ⟨A, c, rfl⟩ := h3.form
    exact h A c w' h3
theorem step_run {ops : Array Oper} {o : Oper} {a : Act} {K : Act → World → Prop} {Q : Exit → Act → World → Prop} {E0 : Prop} {wr : World} (hgd : o.guard = none) (s x : Operand)
    (ho : o.op = .call { callee := .builtin .append, args := #[s, x], argTypes := #[46, 46] }) (w : World) (v : Value) (n : Nat) (R : List (Int × Int × Int)) (e1 e2 e3 : Int) (hs : a.eval s = v)
    (hown : RnS 50 w wr v n R) (hn : n ≤ 1000000) (hx : a.eval x = .slice (some ⟨wr.heap.size, 0, none⟩) 1 1)
    (h : ∀ A c w', RnS 50 w w' (.slice A (n + 1) c) (n + 1) (R ++ [(e1, e2, e3)]) → K (a.put o.dst (.slice A (n + 1) c)) w') :
    if Region.wanted o (yielded ops a.tmps) = true then Oper.wp Try.prog o a (wr.alloc (.cells #[.int .i64 e1, .int .i64 e2, .int .i64 e3] 50)).drew K Q else E0 :=
  step_run0 (wr := wr.drew) hgd s x ho w v n R e1 e2 e3 hs (hown.drewN 1) hn hx h
set_option maxHeartbeats 4000000 in
set_option maxRecDepth 100000 in
theorem rgroups_any (A : Option Addr) (m c : Nat) (L : List (Int × Int)) (w : World) (hP : Pl w A m L) (hM : MayP L 1024) :
    Calls Try.prog 18 #[.slice A m c] w (RnE 50 (runs L m) w) := by
  have hlen := hP.len
  have hm : m ≤ 4096 := by have := hM.2.1; omega
  have HX := Lib.hid hP
  have HC := Lib.hid (fun i (hi : i < m) => cd_max hM i (by omega))
  obtain ⟨i50, h50a, h50b, h50c, h50d⟩ := info_parts Try.info50
  have H50 := Lib.hid (And.intro h50a (And.intro h50b (And.intro h50c h50d)))
  clear hP hM hlen h50a h50b h50c h50d
  go_enter Try.func18, Try.ntmps18
  go_wp2_with fail
  go_loopw [3, 4] (fun v i wr => ∃ k n : Nat, i = .int .i64 (k : Int) ∧ k ≤ m ∧ n ≤ k ∧ (0 < k → 0 < n) ∧ RnS 50 w wr v n (runs L k)) (fun _ i _ => m - (intOf i).toNat)
  case atStart => exact ⟨0, 0, rfl, Nat.zero_le _, Nat.le_refl _, fun h => absurd h (by omega), RnS.start w⟩
  case round =>
    obtain ⟨k, n, rfl, hk, hn, hpos, hS⟩ := hrel
    obtain ⟨Ao, co, rfl⟩ := hS.form
    have HS := Lib.hid hS
    clear hS
    by_cases hgo : k < m
    · obtain ⟨a, rfl, c0, c1⟩ := HX.out.at_ HS.out.bel hgo
      have HRy := Lib.hid (fun h => show runs L (k + 1) = stT (runs L k) (cd L k) from if_pos h)
      have HRn := Lib.hid (fun h => show runs L (k + 1) = runs L k ++ [(cd L k, cd L k, gy L k)] from if_neg h)
      have HG := Lib.hid (show goesOn L k ↔ (0 < k ∧ cd L k = cd L (k - 1) + 1 ∧ gy L k = gy L (k - 1) + 1) from Iff.rfl)
      obtain ⟨x, hx⟩ : ∃ x, x = cd L k := ⟨_, rfl⟩
      obtain ⟨y, hy⟩ : ∃ y, y = gy L k := ⟨_, rfl⟩
      have HXY := Lib.hid (And.intro hx hy)
      rw [← hx] at c0 HRy HRn HG
      rw [← hy] at c1 HRn HG
      clear hx hy
      rcases Nat.eq_zero_or_pos k with h0 | h0
      · have h0' : ¬ 0 < k := by omega
        have HR := Lib.hid (HRn.out fun h => h0' (HG.out.1 h).1)
        clear h0 HRy HRn HG
        go_upto_region 5 with fail
        go_quiet (fail)
        all_goals
          have HS2 := Lib.hid (HS.out.drewN nq)
          obtain ⟨a', ha', b0', b1'⟩ := HX.out.at_ HS2.out.bel hgo
          injection ha' with ha'
          subst ha'
          rw [← HXY.out.1] at b0'
          rw [← HXY.out.2] at b1'
          obtain ⟨W2, hW2⟩ : ∃ W, W = wr.drewN nq := ⟨_, rfl⟩
          rw [← hW2] at HS2 b0' b1' ⊢
          clear hW2 c0 c1
          go_upto_region 7 with fail
          go_region_law (refine step_run rfl (.tmp 54) (.tmp 71) rfl w (.slice Ao n co) n (runs L k) x x y rfl HS2.out (by omega) rfl ?_; intro A' c' w' hS'; have HS3 := Lib.hid hS'; clear hS')
          all_goals (go_wp2_with fail; exact ⟨⟨k + 1, n + 1, by simp, by omega, by omega, fun _ => by omega, by rw [HR.out]; exact HS3.out⟩, by simp [intOf]; omega⟩)
      · have h0 : 0 < k := h0
        obtain ⟨k1, hk1⟩ : ∃ k1, k = k1 + 1 := ⟨k - 1, by omega⟩
        have hk1m : k1 < m := by omega
        obtain ⟨a', ha', d0, d1⟩ := HX.out.at_ HS.out.bel hk1m
        injection ha' with ha'
        subst ha'
        have HK1 := Lib.hid (HC.out k1 hk1m)
        rw [show k - 1 = k1 by omega] at HG
        obtain ⟨x1, hx1⟩ : ∃ x, x = cd L k1 := ⟨_, rfl⟩
        obtain ⟨y1, hy1⟩ : ∃ y, y = gy L k1 := ⟨_, rfl⟩
        rw [← hx1] at d0 HG HK1
        rw [← hy1] at d1 HG HK1
        have e1 : IntKind.i64.wrap ((k : Int) - 1) = (k1 : Int) := by rw [i64_in _ (by omega)]; omega
        have e2 : IntKind.i64.wrap (x1 + 1) = x1 + 1 := i64_in _ (by have := HK1.out; omega)
        have e3 : IntKind.i64.wrap (y1 + 1) = y1 + 1 := i64_in _ (by have := HK1.out; omega)
        have HK1M := Lib.hid hk1
        clear hx1 hy1 hk1
        by_cases hxe : x = x1 + 1
        · by_cases hye : y = y1 + 1
          · have g1 : (x == x1 + 1) = true := by simp [hxe]
            have g2 : (y == y1 + 1) = true := by simp [hye]
            have HR := Lib.hid (HRy.out (HG.out.2 ⟨h0, hxe, hye⟩))
            clear hxe hye HRy HRn HG
            go_upto_region 5 with fail
            go_quiet (fail)
            all_goals
              have HS2 := Lib.hid (HS.out.drewN nq)
              obtain ⟨q, rfl⟩ : ∃ q, n = q + 1 := ⟨n - 1, by have := hpos h0; omega⟩
              obtain ⟨g, rfl, c2, c3, hgl⟩ := HS2.out.pos
              have ea := add_at g (q * 3)
              have e4 : IntKind.i64.wrap (((q + 1 : Nat) : Int) - 1) = (q : Int) := by rw [i64_in _ (by omega)]; omega
              have HS3 := Lib.hid (HS2.out.set x)
              obtain ⟨a', ha', b0', b1'⟩ := HX.out.at_ HS2.out.bel hgo
              injection ha' with ha'
              subst ha'
              rw [← HXY.out.1] at b0'
              obtain ⟨W2, hW2⟩ : ∃ W, W = wr.drewN nq := ⟨_, rfl⟩
              rw [← hW2] at c2 c3 b0' b1' HS3 ⊢
              clear hW2 d0 d1 c0 c1 g1 g2 e2 e3
              go_wp2_with fail
              exact ⟨⟨k + 1, q + 1, by simp, by omega, by omega, fun _ => by omega, by rw [HR.out]; exact HS3.out⟩, by simp [intOf]; omega⟩
          · have g1 : (x == x1 + 1) = true := by simp [hxe]
            have g2 : (y == y1 + 1) = false := by simp [hye]
            have HR := Lib.hid (HRn.out fun h => hye (HG.out.1 h).2.2)
            clear hxe hye HRy HRn HG
            go_upto_region 5 with fail
            go_quiet (fail)
            all_goals
              have HS2 := Lib.hid (HS.out.drewN nq)
              obtain ⟨a', ha', b0', b1'⟩ := HX.out.at_ HS2.out.bel hgo
              injection ha' with ha'
              subst ha'
              rw [← HXY.out.1] at b0'
              rw [← HXY.out.2] at b1'
              obtain ⟨W2, hW2⟩ : ∃ W, W = wr.drewN nq := ⟨_, rfl⟩
              rw [← hW2] at HS2 b0' b1' ⊢
              clear hW2 d0 d1 c0 c1 g1 g2 e1 e2 e3
              go_upto_region 7 with fail
              go_region_law (refine step_run rfl (.tmp 54) (.tmp 71) rfl w (.slice Ao n co) n (runs L k) x x y rfl HS2.out (by omega) rfl ?_; intro A' c' w' hS'; have HS3 := Lib.hid hS'; clear hS')
              all_goals (go_wp2_with fail; exact ⟨⟨k + 1, n + 1, by simp, by omega, by omega, fun _ => by omega, by rw [HR.out]; exact HS3.out⟩, by simp [intOf]; omega⟩)
        · have g1 : (x == x1 + 1) = false := by simp [hxe]
          have HR := Lib.hid (HRn.out fun h => hxe (HG.out.1 h).2.1)
          clear hxe HRy HRn HG
          go_upto_region 5 with fail
          go_quiet (fail)
          all_goals
            have HS2 := Lib.hid (HS.out.drewN nq)
            obtain ⟨a', ha', b0', b1'⟩ := HX.out.at_ HS2.out.bel hgo
            injection ha' with ha'
            subst ha'
            rw [← HXY.out.1] at b0'
            rw [← HXY.out.2] at b1'
            obtain ⟨W2, hW2⟩ : ∃ W, W = wr.drewN nq := ⟨_, rfl⟩
            rw [← hW2] at HS2 b0' b1' ⊢
            clear hW2 d0 d1 c0 c1 g1 e1 e2 e3
            go_upto_region 7 with fail
            go_region_law (refine step_run rfl (.tmp 54) (.tmp 71) rfl w (.slice Ao n co) n (runs L k) x x y rfl HS2.out (by omega) rfl ?_; intro A' c' w' hS'; have HS3 := Lib.hid hS'; clear hS')
            all_goals (go_wp2_with fail; exact ⟨⟨k + 1, n + 1, by simp, by omega, by omega, fun _ => by omega, by rw [HR.out]; exact HS3.out⟩, by simp [intOf]; omega⟩)
    · obtain rfl : k = m := by omega
      go_wp2_with fail
      go_ret
      exact HS.out.fin
end Go.Proofs.Ytbmpdpajnmjfpaa
