/- Proved here: what the reference package's Parse answers of any text. Condition: a text that isn't too long to be held. -/
import Derived.Test.YtjjinncecfilpaaDoorUb
import Derived.Test.YtjjinncecfilpaaDoorUc
namespace Go.Proofs.YtjjinncecfilpaaDoor
open Go.RowKit

theorem rbad_of {w W : World} {c : Nat} {v : Int} {l : List UInt8} (h : B0 65 w W) (hc : pcode l = c) (h0 : c ≠ 0) (hv : v = (c : Int)) : RPaE (pcode l) (pnum l) 500 w (.returned (.tuple #[.agg #[.bool false, .slice none 0 0], .int .i64 v])) W :=
  rpar_of (rnothing w W h) (by rw [hc, hv]) (by unfold pnum; rw [if_neg (by rw [hc]; exact h0)]) (by omega)
set_option maxHeartbeats 4000000 in
theorem rparse_long (s : ByteArray) (w : World) (h1 : 400 < s.size) (h2 : s.size ≤ 1000000) : Calls Tryd.prog 56 #[.string s] w (RPaE (pcode s.data.toList) (pnum s.data.toList) 500 w) := by
  have hl : s.data.toList.length = s.size := by simp
  have hc : pcode s.data.toList = 6 := by unfold pcode; rw [if_pos (by omega)]
  obtain ⟨l, hll⟩ : ∃ l, l = s.data.toList := ⟨_, rfl⟩
  rw [← hll] at hc ⊢
  obtain ⟨n, hn⟩ : ∃ n, n = s.size := ⟨_, rfl⟩
  have hsz : s.size = n := hn.symm
  rw [← hn] at h1 h2
  have HC := Lib.hid hc
  clear hn hll hl hc
  have H0 := Lib.hid (B0.start 65 w)
  obtain ⟨f3, f4, f5, f6⟩ := H0.out.facts
  have hd : decide (400 < (n : Int)) = true := decide_eq_true (by omega)
  go_enter Tryd.func56, Tryd.ntmps56
  go_wp2_with fail
  exact bodyPost_ret (ret_bx28_2 rfl rfl rfl H0.out.c) rfl (rbad_of H0.out HC.out (by decide) rfl)
set_option maxHeartbeats 4000000 in
theorem rparse_empty (s : ByteArray) (w : World) (h1 : s.size = 0) : Calls Tryd.prog 56 #[.string s] w (RPaE (pcode s.data.toList) (pnum s.data.toList) 500 w) := by
  have hl : s.data.toList = [] := List.eq_nil_of_length_eq_zero (by simpa using h1)
  have hc : pcode s.data.toList = 4 := by rw [hl]; decide
  have hnil : (s.toList == []) = true := by rw [ByteArray.toList_eq, hl]; rfl
  obtain ⟨l, hll⟩ : ∃ l, l = s.data.toList := ⟨_, rfl⟩
  rw [← hll] at hc ⊢
  have HC := Lib.hid hc
  clear hll hl hc
  have H0 := Lib.hid (B0.start 65 w)
  obtain ⟨f3, f4, f5, f6⟩ := H0.out.facts
  go_enter Tryd.func56, Tryd.ntmps56
  go_wp2_with fail
  exact bodyPost_ret (ret_bx28_2 rfl rfl rfl H0.out.c) rfl (rbad_of H0.out HC.out (by decide) rfl)
set_option maxHeartbeats 4000000 in
theorem rparse_zero (s : ByteArray) (w : World) (h2 : s.size ≤ 400) (h48 : bat s.data.toList 0 = 48) (h1 : 1 < s.size) : Calls Tryd.prog 56 #[.string s] w (RPaE (pcode s.data.toList) (pnum s.data.toList) 500 w) := by
  have hl : s.data.toList.length = s.size := by simp
  have hhead : s.data.toList.head? ≠ some 45 := fun h => by
    cases hs : s.data.toList with
    | nil => rw [hs] at h; simp at h
    | cons a r =>
      rw [hs] at h h48
      simp at h
      rw [h] at h48
      simp [bat] at h48
  have hcut := cut_none _ hhead
  have hng : ¬ Good s.data.toList := fun h => ((good_bat _).1 h).2.1 ⟨h48, by omega⟩
  have hc : pcode s.data.toList = 4 := by
    unfold pcode okN
    rw [if_neg (by omega), hcut.1]
    simp [hng]
  have hi0 : ∀ W, (Instr.index 9 (.string s) (.int .i64 0)).run Tryd.prog W = .ok (.int .u8 48) W := fun W => by
    have h := idx_run s 0 (by omega) 0 rfl W
    rw [h48] at h
    exact h
  have hnil : (s.toList == []) = false := by
    rw [ByteArray.toList_eq]
    cases hs : s.data.toList with
    | nil => rw [hs] at hl; simp at hl; omega
    | cons a r => rfl
  obtain ⟨l, hll⟩ : ∃ l, l = s.data.toList := ⟨_, rfl⟩
  rw [← hll] at hc ⊢
  obtain ⟨n, hn⟩ : ∃ n, n = s.size := ⟨_, rfl⟩
  have hsz : s.size = n := hn.symm
  rw [← hn] at h1 h2
  have HC := Lib.hid hc
  clear hn hll hl hc hcut hng hhead h48
  have H0 := Lib.hid (B0.start 65 w)
  obtain ⟨f3, f4, f5, f6⟩ := H0.out.facts
  have hd : decide (400 < (n : Int)) = false := decide_eq_false (by omega)
  have hd2 : decide (0 < (n : Int)) = true := decide_eq_true (by omega)
  have hd3 : decide (1 < (n : Int)) = true := decide_eq_true (by omega)
  go_enter Tryd.func56, Tryd.ntmps56
  go_wp2_with fail
  exact bodyPost_ret (ret_bx28_2 rfl rfl rfl H0.out.c) rfl (rbad_of H0.out HC.out (by decide) rfl)
set_option maxHeartbeats 4000000 in
theorem rparse_minus (s : ByteArray) (t : List UInt8) (w : World) (h2 : s.size ≤ 400) (hst : s.data.toList = 45 :: t) (hb : t = [] ∨ (0 < t.length ∧ bat t 0 = 48)) : Calls Tryd.prog 56 #[.string s] w (RPaE (pcode s.data.toList) (pnum s.data.toList) 500 w) := by
  have hl : s.data.toList.length = s.size := by simp
  have hcut := cut_minus t
  have hc : pcode s.data.toList = 4 := by
    unfold pcode okN
    rw [if_neg (by omega), hst, hcut.1, hcut.2]
    have : ¬ (Good t ∧ ¬ (true = true ∧ t = [48])) := fun ⟨hg, hn⟩ => by
      rcases hb with h | ⟨h, h48⟩
      · exact hg.1 h
      · have hgb := (good_bat t).1 hg
        have h3 : ¬ 1 < t.length := fun h4 => hgb.2.1 ⟨h48, h4⟩
        apply hn
        refine ⟨rfl, ?_⟩
        rcases t with _ | ⟨a, _ | ⟨c, r⟩⟩
        · simp at h
        · have : a = 48 := UInt8.toNat_inj.1 (by simpa [bat] using h48)
          rw [this]
        · simp at h3
    exact if_neg (fun h => this (of_decide_eq_true h))
  have hs0 : ∀ W, (Instr.index 9 (.string s) (.int .i64 0)).run Tryd.prog W = .ok (.int .u8 45) W := fun W => by
    have h := idx_run s 0 (by rw [hst]; simp) 0 rfl W
    rw [hst] at h
    exact h
  obtain ⟨D, hD⟩ : ∃ D : ByteArray, D = ⟨t.toArray⟩ := ⟨_, rfl⟩
  have hDt : D.data.toList = t := by rw [hD]
  have hsl : ∀ W, (Instr.slice 9 (.string s) (some (.int .i64 1)) none none).run Tryd.prog W = .ok (.string D) W := fun W => by
    rw [hD]
    exact cut_one s t hst W
  have hsz1 : s.size = t.length + 1 := by rw [hst] at hl; simp at hl; omega
  obtain ⟨l, hll⟩ : ∃ l, l = s.data.toList := ⟨_, rfl⟩
  rw [← hll] at hc ⊢
  obtain ⟨n, hn⟩ : ∃ n, n = t.length := ⟨_, rfl⟩
  have hDz : D.size = n := by rw [hD, hn]; show t.toArray.size = _; simp
  rw [← hn] at hsz1
  have HC := Lib.hid hc
  have H0 := Lib.hid (B0.start 65 w)
  obtain ⟨f3, f4, f5, f6⟩ := H0.out.facts
  have hd : decide (400 < (n : Int) + 1) = false := decide_eq_false (by omega)
  have hd2 : decide (0 < (n : Int) + 1) = true := decide_eq_true (by omega)
  rcases hb with h0 | ⟨h0, h48⟩
  · have hnil : (D.toList == []) = true := by rw [ByteArray.toList_eq, hDt, h0]; rfl
    clear hn hll hl hc hcut hD hDt hst
    go_enter Tryd.func56, Tryd.ntmps56
    go_wp2_with fail
    exact bodyPost_ret (ret_bx28_2 rfl rfl rfl H0.out.c) rfl (rbad_of H0.out HC.out (by decide) rfl)
  · have hnil : (D.toList == []) = false := by
      rw [ByteArray.toList_eq, hDt]
      cases t with
      | nil => simp at h0
      | cons a r => rfl
    have hi0 : ∀ W, (Instr.index 9 (.string D) (.int .i64 0)).run Tryd.prog W = .ok (.int .u8 48) W := fun W => by
      have h := idx_run D 0 (by rw [hDt]; exact h0) 0 rfl W
      rw [hDt, h48] at h
      exact h
    clear hn hll hl hc hcut hD hDt hst
    go_enter Tryd.func56, Tryd.ntmps56
    go_wp2_with fail
    all_goals exact bodyPost_ret (ret_bx28_2 rfl rfl rfl H0.out.c) rfl (rbad_of H0.out HC.out (by decide) rfl)
/-- The reference's Parse. -/
theorem rparse_any (s : ByteArray) (w : World) (h2 : s.size ≤ 1000000) : Calls Tryd.prog 56 #[.string s] w (RPaE (pcode s.data.toList) (pnum s.data.toList) 500 w) := by
  have hl : s.data.toList.length = s.size := by simp
  by_cases h4 : 400 < s.size
  · exact rparse_long s w h4 h2
  · by_cases h0 : s.size = 0
    · exact rparse_empty s w h0
    · rcases cut_case s.data.toList with ⟨t, hst, _⟩ | ⟨hh, _⟩
      · rcases Nat.eq_zero_or_pos t.length with h5 | h5
        · exact rparse_minus s t w (by omega) hst (.inl (List.eq_nil_of_length_eq_zero h5))
        · by_cases h6 : bat t 0 = 48
          · exact rparse_minus s t w (by omega) hst (.inr ⟨h5, h6⟩)
          · exact rparse_neg_any s w (by omega) t hst h5 h6
      · by_cases h6 : bat s.data.toList 0 = 48
        · by_cases h7 : 1 < s.size
          · exact rparse_zero s w (by omega) h6 h7
          · exact rparse_pos_one s w (by omega) hh (by omega) h6 h7
        · exact rparse_pos_any s w (by omega) hh (by omega) h6
end Go.Proofs.YtjjinncecfilpaaDoor
