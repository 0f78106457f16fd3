/- Proved here: pairs as runs, in the program. Condition: pairs that may be. -/
import Derived.Test.YtbmpdpajnmjfpaaQa
namespace Go.Proofs.Ytbmpdpajnmjfpaa
open Go.RowKit

/-- Runs are answered. -/
def RnE (T : TypeId) (R : List (Int × Int × Int)) (w : World) (e : Ending) (w' : World) : Prop := ∃ A c, e = .returned (.slice A R.length c) ∧ w'.ownsRow w.heap.size T 3 (.slice A R.length c) R.length (runC R) ∧ Below w.heap.size w w'
theorem RnS.fin {T : TypeId} {w W : World} {v : Value} {n : Nat} {R : List (Int × Int × Int)} (s : RnS T w W v n R) : RnE T R w (.returned v) W := by
  obtain ⟨A, c, rfl⟩ := s.form
  have h := s.len
  subst h
  exact ⟨A, c, rfl, s.own, s.bel⟩
theorem cd_max {L : List (Int × Int)} {g : Int} (h : MayP L g) (i : Nat) (hi : i < L.length) : -1 ≤ ahd L i ∧ 0 ≤ cd L i ∧ cd L i ≤ 1114111 ∧ 1 ≤ gy L i ∧ gy L i ≤ 1023 := by
  have h1 := h.2.2 i hi
  have h0 : -1 ≤ ahd L i := by
    match i, hi with
    | 0, _ => exact Int.le_refl _
    | i + 1, hi =>
      have h2 := (cd_max h i (by omega)).2.1
      show -1 ≤ cd L i
      omega
  obtain ⟨q1, q2, q3, q4⟩ := h1
  have := h.1.2
  omega
set_option maxHeartbeats 4000000 in
set_option maxRecDepth 100000 in
theorem runs_any (A : Option Addr) (m c : Nat) (L : List (Int × Int)) (w : World) (hP : Pl w A m L) (hM : MayP L 1024) :
    Calls Try.prog 16 #[.slice A m c] w (RnE 76 (runs L m) w) := by
  have hlen := hP.len
  have hm : m ≤ 4096 := by have := hM.2.1; omega
  have HX := Lib.hid hP
  have HC := Lib.hid (fun i (hi : i < m) => cd_max hM i (by omega))
  obtain ⟨i76, h76a, h76b, h76c, h76d⟩ := info_parts Try.info76
  have H76 := Lib.hid (And.intro h76a (And.intro h76b (And.intro h76c h76d)))
  clear hP hM hlen h76a h76b h76c h76d
  go_enter Try.func16, Try.ntmps16
  go_wp2_with fail
  go_loopw [3, 8] (fun v i wr => ∃ k n : Nat, i = .int .i64 (k : Int) ∧ k ≤ m ∧ n ≤ k ∧ (0 < k → 0 < n) ∧ RnS 76 w wr v n (runs L k)) (fun _ i _ => m - (intOf i).toNat)
  case atStart => exact ⟨0, 0, rfl, Nat.zero_le _, Nat.le_refl _, fun h => absurd h (by omega), RnS.start w⟩
  case round =>
    obtain ⟨k, n, rfl, hk, hn, hpos, hS⟩ := hrel
    obtain ⟨Ao, co, rfl⟩ := hS.form
    have HS := Lib.hid hS
    clear hS
    by_cases hgo : k < m
    · obtain ⟨a, rfl, c0, c1⟩ := HX.out.at_ HS.out.bel hgo
      have HK := Lib.hid (HC.out k hgo)
      have HRy := Lib.hid (fun h => show runs L (k + 1) = stT (runs L k) (cd L k) from if_pos h)
      have HRn := Lib.hid (fun h => show runs L (k + 1) = runs L k ++ [(cd L k, cd L k, gy L k)] from if_neg h)
      have HG := Lib.hid (show goesOn L k ↔ (0 < k ∧ cd L k = cd L (k - 1) + 1 ∧ gy L k = gy L (k - 1) + 1) from Iff.rfl)
      obtain ⟨x, hx⟩ : ∃ x, x = cd L k := ⟨_, rfl⟩
      obtain ⟨y, hy⟩ : ∃ y, y = gy L k := ⟨_, rfl⟩
      rw [← hx] at c0 HRy HRn HG HK
      rw [← hy] at c1 HRn HG HK
      have HXY := Lib.hid (And.intro hx hy)
      clear hx hy
      rcases Nat.eq_zero_or_pos k with h0 | h0
      · have h0' : ¬ 0 < k := by omega
        have hS1 := HS.out.alloc (.cells #[.int .i64 x, .int .i64 y] 37)
        have hb0 := heap_alloc_new wr (.cells #[.int .i64 x, .int .i64 y] 37)
        obtain ⟨b, hb⟩ : ∃ b, b = wr.heap.size := ⟨_, rfl⟩
        obtain ⟨W1, hW1⟩ : ∃ W, W = wr.alloc (.cells #[.int .i64 x, .int .i64 y] 37) := ⟨_, rfl⟩
        rw [← hW1, ← hb] at hb0
        rw [← hW1] at hS1
        have HE := Lib.hid (And.intro hb hW1)
        have HS1 := Lib.hid hS1
        have HB0 := Lib.hid hb0
        have b0 := cell_of_row W1 b 0 _ 37 (0, 0) hb0
        have b1 := cell_of_row W1 b 1 _ 37 (0, 0) hb0
        have HR := Lib.hid (HRn.out fun h => h0' (HG.out.1 h).1)
        clear hb hW1 hS1 hb0 h0 HRy HRn HG
        go_upto_region 5 with fail
        rw [← HE.out.2, ← HE.out.1]
        go_quiet (fail)
        all_goals
          have HS2 := Lib.hid (HS1.out.drewN nq)
          obtain ⟨W2, hW2⟩ : ∃ W, W = W1.drewN nq := ⟨_, rfl⟩
          have b0' : W2.cell? ⟨b, 0, none⟩ = some (.int .i64 x) := by rw [hW2]; exact b0
          have b1' : W2.cell? ⟨b, 1, none⟩ = some (.int .i64 y) := by rw [hW2]; exact b1
          rw [← hW2] at HS2 ⊢
          clear hW2 b0 b1 c0 c1
          go_wp2_with (at_builtin; go_must (refine wpList_append_own _ rfl (.tmp 47) (.tmp 55) 44 rfl w.heap.size 76 i76 _ 3 24 Try.underlying44 H76.out.1 H76.out.2.1 H76.out.2.2.1 H76.out.2.2.2 rfl (by decide) (.slice Ao n co) n (runC (runs L k)) rfl (HS2.out.own.alloc _) ⟨W2.heap.size, 0, none⟩ 1 1 [.int .i64 x, .int .i64 x, .int .i64 y] rfl rfl (cells_new _ _ _) (by intro u hu; simp at hu; rcases hu with rfl | rfl <;> rfl) (by unfold maxLen; omega) (by omega) (by have := HS2.out.bel.size; simp; omega) ?_); intro v' w5 hown' hg' _; have HS3 := Lib.hid ((HS2.out.alloc _).push (e := (x, x, y)) hg' hown'); clear hg' hown')
          exact ⟨⟨k + 1, n + 1, by simp, by omega, by omega, fun _ => by omega, by rw [HR.out]; exact HS3.out⟩, by simp [intOf]; omega⟩
      · have h0 : 0 < k := h0
        obtain ⟨k1, hk1⟩ : ∃ k1, k = k1 + 1 := ⟨k - 1, by omega⟩
        have hk1m : k1 < m := by omega
        have hS1 := HS.out.alloc (.cells #[.int .i64 x, .int .i64 y] 37)
        have hb0 := heap_alloc_new wr (.cells #[.int .i64 x, .int .i64 y] 37)
        obtain ⟨b, hb⟩ : ∃ b, b = wr.heap.size := ⟨_, rfl⟩
        obtain ⟨W1, hW1⟩ : ∃ W, W = wr.alloc (.cells #[.int .i64 x, .int .i64 y] 37) := ⟨_, rfl⟩
        rw [← hW1, ← hb] at hb0
        rw [← hW1] at hS1
        have HE := Lib.hid (And.intro hb hW1)
        have HS1 := Lib.hid hS1
        have HB0 := Lib.hid hb0
        have b0 := cell_of_row W1 b 0 _ 37 (0, 0) hb0
        have b1 := cell_of_row W1 b 1 _ 37 (0, 0) hb0
        obtain ⟨a', ha', d0, d1⟩ := HX.out.at_ hS1.bel hk1m
        injection ha' with ha'
        subst ha'
        clear hb hW1 hS1 hb0
        have HK1 := Lib.hid (HC.out k1 hk1m)
        rw [show k - 1 = k1 by omega] at HG
        obtain ⟨x1, hx1⟩ : ∃ x, x = cd L k1 := ⟨_, rfl⟩
        obtain ⟨y1, hy1⟩ : ∃ y, y = gy L k1 := ⟨_, rfl⟩
        rw [← hx1] at d0 HG HK1
        rw [← hy1] at d1 HG HK1
        have e1 : IntKind.i64.wrap ((k : Int) - 1) = (k1 : Int) := by rw [i64_in _ (by omega)]; omega
        have e2 : IntKind.i64.wrap (x1 + 1) = x1 + 1 := i64_in _ (by have := HK1.out; omega)
        have e3 : IntKind.i64.wrap (y1 + 1) = y1 + 1 := i64_in _ (by have := HK1.out; omega)
        have HK1M := Lib.hid hk1
        clear hx1 hy1 hk1
        by_cases hxe : x = x1 + 1
        · by_cases hye : y = y1 + 1
          · have g1 : (x == x1 + 1) = true := by simp [hxe]
            have g2 : (y == y1 + 1) = true := by simp [hye]
            have HR := Lib.hid (HRy.out (HG.out.2 ⟨h0, hxe, hye⟩))
            clear hxe hye HRy HRn HG
            go_upto_region 5 with fail
            rw [← HE.out.2, ← HE.out.1]
            go_quiet (fail)
            all_goals
              have HS2 := Lib.hid (HS1.out.drewN nq)
              obtain ⟨q, rfl⟩ : ∃ q, n = q + 1 := ⟨n - 1, by have := hpos h0; omega⟩
              obtain ⟨g, rfl, c2, c3, hgl⟩ := HS2.out.pos
              have ea := add_at g (q * 3)
              have e4 : IntKind.i64.wrap (((q + 1 : Nat) : Int) - 1) = (q : Int) := by rw [i64_in _ (by omega)]; omega
              have HS3 := Lib.hid (HS2.out.set x)
              obtain ⟨W2, hW2⟩ : ∃ W, W = W1.drewN nq := ⟨_, rfl⟩
              have b0' : W2.cell? ⟨b, 0, none⟩ = some (.int .i64 x) := by rw [hW2]; exact b0
              rw [← hW2] at c2 c3 HS3 ⊢
              clear hW2 b0 b1 d0 d1 c0 c1 g1 g2 e2 e3
              go_wp2_with fail
              exact ⟨⟨k + 1, q + 1, by simp, by omega, by omega, fun _ => by omega, by rw [HR.out]; exact HS3.out⟩, by simp [intOf]; omega⟩
          · have g1 : (x == x1 + 1) = true := by simp [hxe]
            have g2 : (y == y1 + 1) = false := by simp [hye]
            have HR := Lib.hid (HRn.out fun h => hye (HG.out.1 h).2.2)
            clear hxe hye HRy HRn HG
            go_upto_region 5 with fail
            rw [← HE.out.2, ← HE.out.1]
            go_quiet (fail)
            all_goals
              have HS2 := Lib.hid (HS1.out.drewN nq)
              obtain ⟨W2, hW2⟩ : ∃ W, W = W1.drewN nq := ⟨_, rfl⟩
              have b0' : W2.cell? ⟨b, 0, none⟩ = some (.int .i64 x) := by rw [hW2]; exact b0
              have b1' : W2.cell? ⟨b, 1, none⟩ = some (.int .i64 y) := by rw [hW2]; exact b1
              rw [← hW2] at HS2 ⊢
              clear hW2 b0 b1 d0 d1 c0 c1 g1 g2 e1 e2 e3
              go_wp2_with (at_builtin; go_must (refine wpList_append_own _ rfl (.tmp 47) (.tmp 55) 44 rfl w.heap.size 76 i76 _ 3 24 Try.underlying44 H76.out.1 H76.out.2.1 H76.out.2.2.1 H76.out.2.2.2 rfl (by decide) (.slice Ao n co) n (runC (runs L k)) rfl (HS2.out.own.alloc _) ⟨W2.heap.size, 0, none⟩ 1 1 [.int .i64 x, .int .i64 x, .int .i64 y] rfl rfl (cells_new _ _ _) (by intro u hu; simp at hu; rcases hu with rfl | rfl <;> rfl) (by unfold maxLen; omega) (by omega) (by have := HS2.out.bel.size; simp; omega) ?_); intro v' w5 hown' hg' _; have HS3 := Lib.hid ((HS2.out.alloc _).push (e := (x, x, y)) hg' hown'); clear hg' hown')
              exact ⟨⟨k + 1, n + 1, by simp, by omega, by omega, fun _ => by omega, by rw [HR.out]; exact HS3.out⟩, by simp [intOf]; omega⟩
        · have g1 : (x == x1 + 1) = false := by simp [hxe]
          have HR := Lib.hid (HRn.out fun h => hxe (HG.out.1 h).2.1)
          clear hxe HRy HRn HG
          go_upto_region 5 with fail
          rw [← HE.out.2, ← HE.out.1]
          go_quiet (fail)
          all_goals
            have HS2 := Lib.hid (HS1.out.drewN nq)
            obtain ⟨W2, hW2⟩ : ∃ W, W = W1.drewN nq := ⟨_, rfl⟩
            have b0' : W2.cell? ⟨b, 0, none⟩ = some (.int .i64 x) := by rw [hW2]; exact b0
            have b1' : W2.cell? ⟨b, 1, none⟩ = some (.int .i64 y) := by rw [hW2]; exact b1
            rw [← hW2] at HS2 ⊢
            clear hW2 b0 b1 d0 d1 c0 c1 g1 e1 e2 e3
            go_wp2_with (at_builtin; go_must (refine wpList_append_own _ rfl (.tmp 47) (.tmp 55) 44 rfl w.heap.size 76 i76 _ 3 24 Try.underlying44 H76.out.1 H76.out.2.1 H76.out.2.2.1 H76.out.2.2.2 rfl (by decide) (.slice Ao n co) n (runC (runs L k)) rfl (HS2.out.own.alloc _) ⟨W2.heap.size, 0, none⟩ 1 1 [.int .i64 x, .int .i64 x, .int .i64 y] rfl rfl (cells_new _ _ _) (by intro u hu; simp at hu; rcases hu with rfl | rfl <;> rfl) (by unfold maxLen; omega) (by omega) (by have := HS2.out.bel.size; simp; omega) ?_); intro v' w5 hown' hg' _; have HS3 := Lib.hid ((HS2.out.alloc _).push (e := (x, x, y)) hg' hown'); clear hg' hown')
            exact ⟨⟨k + 1, n + 1, by simp, by omega, by omega, fun _ => by omega, by rw [HR.out]; exact HS3.out⟩, by simp [intOf]; omega⟩
    · obtain rfl : k = m := by omega
      go_wp2_with fail
      go_ret
      exact HS.out.fin
end Go.Proofs.Ytbmpdpajnmjfpaa
