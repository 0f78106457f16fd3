/- Proved here: what proper answers. No condition but a text that isn't too long. -/
import Derived.Test.YthmpkejdficmgaaDoorRd
import Derived.Test.YthmpkejdficmgaaDoorMg
namespace Go.Proofs.YthmpkejdficmgaaDoor
open Go.RowKit

/-- The byte at a place. -/
def bat (l : List UInt8) (k : Nat) : Nat := (l.getD k 0).toNat
theorem bat_lt (l : List UInt8) (k : Nat) : bat l k < 256 := UInt8.toNat_lt _
theorem idx_run (s : ByteArray) (k : Nat) (hk : k < s.data.toList.length) (i : Int) (hi : i = (k : Int)) (W : World) : (Instr.index 9 (.string s) (.int .i64 i)).run Tryd.prog W = .ok (.int .u8 (bat s.data.toList k : Int)) W := by
  subst hi
  have hk2 : k < s.size := by simpa using hk
  have hk' : (0 : Int) ≤ (k : Int) ∧ (k : Int) < (s.size : Int) := by omega
  rw [run_index_string W 9 s .i64 (k : Int) (by kernel_rfl), dif_pos hk']
  congr 1
  unfold bat
  simp only [Int.toNat_natCast]
  rw [List.getD_eq_getElem?_getD, List.getElem?_eq_getElem hk]
  simp only [Option.getD_some, Array.getElem_toList]
  rfl
/-- What proper answers. -/
theorem good_bat (l : List UInt8) : Good l ↔ l.length ≠ 0 ∧ ¬ (bat l 0 = 48 ∧ 1 < l.length) ∧ ∀ k, k < l.length → 48 ≤ bat l k ∧ bat l k ≤ 57 := by
  unfold Good
  constructor
  · rintro ⟨h1, h2, h3⟩
    refine ⟨fun h => h1 (List.eq_nil_of_length_eq_zero h), fun ⟨h4, h5⟩ => ?_, fun k hk => ?_⟩
    · cases l with
      | nil => exact h1 rfl
      | cons a r =>
        have : a = 48 := UInt8.toNat_inj.1 (by simpa [bat] using h4)
        subst this
        have := h2 rfl
        omega
    · have := h3 l[k] (List.getElem_mem hk)
      simpa [bat, hk] using this
  · rintro ⟨h1, h2, h3⟩
    refine ⟨fun h => h1 (by rw [h]; rfl), fun h => ?_, fun c hc => ?_⟩
    · cases l with
      | nil => simp at h
      | cons a r =>
        simp at h
        subst h
        have : ¬ 1 < (48 :: r).length := fun h5 => h2 ⟨by simp [bat], h5⟩
        simp at this ⊢
        exact this
    · obtain ⟨k, hk, rfl⟩ := List.getElem_of_mem hc
      have := h3 k hk
      simpa [bat, hk] using this
set_option maxHeartbeats 2000000 in
theorem proper_any (s : ByteArray) (w : World) (hs : s.data.toList.length ≤ 1000000) : Calls Tryd.prog 59 #[.string s] w fun e w' => e = .returned (.bool (decide (Good s.data.toList))) ∧ w' = w := by
  obtain ⟨l, hl⟩ : ∃ l, l = s.data.toList := ⟨_, rfl⟩
  obtain ⟨n, hn⟩ : ∃ n, n = l.length := ⟨_, rfl⟩
  have hsz : s.size = n := by rw [hn, hl]; simp
  have hidx := fun (k : Nat) (hk : k < n) (W : World) => idx_run s k (by rw [← hl, ← hn]; exact hk) (k : Int) rfl W
  rw [← hl] at hidx ⊢ hs
  rw [← hn] at hs
  have hg := good_bat l
  rw [← hn] at hg
  have hnil : (s.toList == []) = decide (n = 0) := by
    rw [ByteArray.toList_eq, ← hl, hn]
    cases l <;> simp
  have HG := Lib.hid hg
  have HI := Lib.hid hidx
  clear hl hn hg hidx
  rcases Nat.eq_zero_or_pos n with h0 | h0
  · subst h0
    have e1 : decide (Good l) = false := decide_eq_false (fun h => (HG.out.1 h).1 rfl)
    rw [e1]
    go_enter Tryd.func59, Tryd.ntmps59
    go_wp2_with fail
    go_ret
    exact ⟨rfl, rfl⟩
  · have hd : decide (n = 0) = false := decide_eq_false (by omega)
    have hi0 : ∀ W, (Instr.index 9 (.string s) (.int .i64 0)).run Tryd.prog W = .ok (.int .u8 (bat l 0 : Int)) W := fun W => HI.out 0 h0 W
    have hb := bat_lt l 0
    by_cases h48 : bat l 0 = 48
    · have hx : ((bat l 0 : Int) == 48) = true := by simp; omega
      rcases Nat.lt_or_ge 1 n with h1 | h1
      · have hd0 : decide (1 < (n : Int)) = true := decide_eq_true (by omega)
        have e1 : decide (Good l) = false := decide_eq_false (fun h => (HG.out.1 h).2.1 ⟨h48, h1⟩)
        rw [e1]
        go_enter Tryd.func59, Tryd.ntmps59
        go_wp2_with fail
        go_ret
        exact ⟨rfl, rfl⟩
      · have hd0 : decide (1 < (n : Int)) = false := decide_eq_false (by omega)
        have hlead : ¬ (bat l 0 = 48 ∧ 1 < n) := fun h => by omega
        go_enter Tryd.func59, Tryd.ntmps59
        go_wp2_with fail
        go_loopw [18] (fun i wr => ∃ k : Nat, i = .int .i64 (k : Int) ∧ k ≤ n ∧ (∀ j, j < k → 48 ≤ bat l j ∧ bat l j ≤ 57) ∧ wr = w) (fun i _ => n - (intOf i).toNat)
        case atStart => exact ⟨0, rfl, by omega, fun j hj => absurd hj (Nat.not_lt_zero _), rfl⟩
        case round =>
          obtain ⟨k, rfl, hk, ha, rfl⟩ := hrel
          have HA := Lib.hid ha
          clear ha
          rcases Nat.lt_or_ge k n with hkn | hkn
          · have hd1 : decide ((k : Int) < (n : Int)) = true := decide_eq_true (by omega)
            have hik := fun W => HI.out k hkn W
            have hbk := bat_lt l k
            rcases Nat.lt_or_ge (bat l k) 48 with h48 | h48
            · have e1 : decide (Good l) = false := decide_eq_false (fun h => by have := ((HG.out.1 h).2.2 k hkn).1; omega)
              have hd2 : decide ((bat l k : Int) < 48) = true := decide_eq_true (by omega)
              go_wp2_with fail
              go_ret
              rw [e1]
              exact ⟨rfl, rfl⟩
            · have hd2 : decide ((bat l k : Int) < 48) = false := decide_eq_false (by omega)
              rcases Nat.lt_or_ge 57 (bat l k) with h57 | h57
              · have e1 : decide (Good l) = false := decide_eq_false (fun h => by have := ((HG.out.1 h).2.2 k hkn).2; omega)
                have hd3 : decide (57 < (bat l k : Int)) = true := decide_eq_true (by omega)
                go_wp2_with fail
                go_ret
                rw [e1]
                exact ⟨rfl, rfl⟩
              · have hd3 : decide (57 < (bat l k : Int)) = false := decide_eq_false (by omega)
                go_wp2_with fail
                exact ⟨⟨k + 1, by simp, by omega, fun j hj => by
                  rcases Nat.lt_or_ge j k with h5 | h5
                  · exact HA.out j h5
                  · have : j = k := by omega
                    rw [this]; omega, by trivial⟩, by simp [intOf]; omega⟩
          · have hkn : k = n := by omega
            subst hkn
            have e1 : decide (Good l) = true := decide_eq_true (HG.out.2 ⟨by omega, hlead, HA.out⟩)
            go_wp2_with fail
            go_ret
            rw [e1]
            exact ⟨rfl, rfl⟩
    · have hx : ((bat l 0 : Int) == 48) = false := by simp; omega
      have hlead : ¬ (bat l 0 = 48 ∧ 1 < n) := fun h => h48 h.1
      go_enter Tryd.func59, Tryd.ntmps59
      go_wp2_with fail
      go_loopw [18] (fun i wr => ∃ k : Nat, i = .int .i64 (k : Int) ∧ k ≤ n ∧ (∀ j, j < k → 48 ≤ bat l j ∧ bat l j ≤ 57) ∧ wr = w) (fun i _ => n - (intOf i).toNat)
      case atStart => exact ⟨0, rfl, by omega, fun j hj => absurd hj (Nat.not_lt_zero _), rfl⟩
      case round =>
        obtain ⟨k, rfl, hk, ha, rfl⟩ := hrel
        have HA := Lib.hid ha
        clear ha
        rcases Nat.lt_or_ge k n with hkn | hkn
        · have hd1 : decide ((k : Int) < (n : Int)) = true := decide_eq_true (by omega)
          have hik := fun W => HI.out k hkn W
          have hbk := bat_lt l k
          rcases Nat.lt_or_ge (bat l k) 48 with h48 | h48
          · have e1 : decide (Good l) = false := decide_eq_false (fun h => by have := ((HG.out.1 h).2.2 k hkn).1; omega)
            have hd2 : decide ((bat l k : Int) < 48) = true := decide_eq_true (by omega)
            go_wp2_with fail
            go_ret
            rw [e1]
            exact ⟨rfl, rfl⟩
          · have hd2 : decide ((bat l k : Int) < 48) = false := decide_eq_false (by omega)
            rcases Nat.lt_or_ge 57 (bat l k) with h57 | h57
            · have e1 : decide (Good l) = false := decide_eq_false (fun h => by have := ((HG.out.1 h).2.2 k hkn).2; omega)
              have hd3 : decide (57 < (bat l k : Int)) = true := decide_eq_true (by omega)
              go_wp2_with fail
              go_ret
              rw [e1]
              exact ⟨rfl, rfl⟩
            · have hd3 : decide (57 < (bat l k : Int)) = false := decide_eq_false (by omega)
              go_wp2_with fail
              exact ⟨⟨k + 1, by simp, by omega, fun j hj => by
                rcases Nat.lt_or_ge j k with h5 | h5
                · exact HA.out j h5
                · have : j = k := by omega
                  rw [this]; omega, by trivial⟩, by simp [intOf]; omega⟩
        · have hkn : k = n := by omega
          subst hkn
          have e1 : decide (Good l) = true := decide_eq_true (HG.out.2 ⟨by omega, hlead, HA.out⟩)
          go_wp2_with fail
          go_ret
          rw [e1]
          exact ⟨rfl, rfl⟩
end Go.Proofs.YthmpkejdficmgaaDoor
