/- Proved here: what numbers in bytes are, and what the program's and the document's number answer. Condition: at most four bytes. -/
import Derived.Test.YtbmeamhpmahlgaaProg
import Derived.WalkKit
import Derived.WalkSpells
import Derived.WalkLawsBesides
import Derived.Deep.DeepFit
import Derived.Deep.QuietTactic
import Derived.BigQuiet
import Derived.Lib.Hide
import Derived.StillTailTactics
import Derived.Deep.RegionHeld3
import Derived.ChangeAlike
import Derived.RegionTactic
import Derived.IntWalk
import Derived.Laws.BitsAllLaws
import Derived.Laws.Bits64b
import Derived.Laws.IdiomStrings
import Derived.Deep.CutBlock
import Derived.Deep.CutRange
import Derived.Deep.DeepCutAuto
namespace Go.Proofs.Ytbmeamhpmahlgaa
open Go.RowKit

/-- The byte at a place. -/
def bat (l : List UInt8) (k : Nat) : Nat := (l.getD k 0).toNat
theorem bat_lt (l : List UInt8) (k : Nat) : bat l k < 256 := UInt8.toNat_lt _
theorem idx_run (s : ByteArray) (k : Nat) (hk : k < s.data.toList.length) (i : Int) (hi : i = (k : Int)) (W : World) : (Instr.index 9 (.string s) (.int .i64 i)).run Try.prog W = .ok (.int .u8 (bat s.data.toList k : Int)) W := by
  subst hi
  have hk2 : k < s.size := by simpa using hk
  have hk' : (0 : Int) ≤ (k : Int) ∧ (k : Int) < (s.size : Int) := by omega
  rw [run_index_string W 9 s .i64 (k : Int) (by kernel_rfl), dif_pos hk']
  congr 1
  unfold bat
  simp only [Int.toNat_natCast]
  rw [List.getD_eq_getElem?_getD, List.getElem?_eq_getElem hk]
  simp only [Option.getD_some, Array.getElem_toList]
  rfl
/-- The number in bytes, the highest first. -/
def bv : List UInt8 → Nat → Nat
  | [], n => n
  | c :: l, n => bv l (n * 256 + c.toNat)
theorem bv_snoc (c : UInt8) : ∀ (l : List UInt8) (n : Nat), bv (l ++ [c]) n = bv l n * 256 + c.toNat
  | [], _ => rfl
  | _ :: l, _ => bv_snoc c l _
theorem bv_lt : ∀ (l : List UInt8) (n : Nat), bv l n < (n + 1) * 256 ^ l.length
  | [], n => by simp [bv]
  | c :: l, n => by
    have h := bv_lt l (n * 256 + c.toNat)
    have hc := UInt8.toNat_lt c
    simp only [bv, List.length_cons, Nat.pow_succ]
    refine Nat.lt_of_lt_of_le h ?_
    have : (n * 256 + c.toNat + 1) * 256 ^ l.length ≤ ((n + 1) * 256) * 256 ^ l.length := Nat.mul_le_mul_right _ (by omega)
    grind
theorem bv_take {l : List UInt8} {k : Nat} (h : k < l.length) : bv (l.take (k + 1)) 0 = bv (l.take k) 0 * 256 + bat l k := by
  rw [List.take_succ_eq_append_getElem h, bv_snoc]
  simp [bat, h]
theorem bv_take_lt {l : List UInt8} {k : Nat} (h : k ≤ 3) : bv (l.take k) 0 < 16777216 := by
  have h1 := bv_lt (l.take k) 0
  have h2 : (l.take k).length ≤ 3 := by rw [List.length_take]; omega
  have h3 : 256 ^ (l.take k).length ≤ 256 ^ 3 := Nat.pow_le_pow_right (by decide) h2
  omega
set_option maxHeartbeats 2000000 in
theorem num_any (s : ByteArray) (w : World) (hs : s.data.toList.length ≤ 4) : Calls Try.prog 50 #[.string s] w fun e w' => e = .returned (.int .u32 (bv s.data.toList 0 : Int)) ∧ w = w' := by
  obtain ⟨l, hl⟩ : ∃ l, l = s.data.toList := ⟨_, rfl⟩
  obtain ⟨n, hn⟩ : ∃ n, n = l.length := ⟨_, rfl⟩
  have hsz : s.size = n := by rw [hn, hl]; simp
  have hidx := fun (k : Nat) (hk : k < n) (W : World) => idx_run s k (by rw [← hl, ← hn]; exact hk) (k : Int) rfl W
  rw [← hl] at hidx ⊢ hs
  rw [← hn] at hs
  have htake := fun k (h : k < n) => bv_take (l := l) (k := k) (by omega)
  have hall : bv (l.take n) 0 = bv l 0 := by rw [hn, List.take_length]
  have HT := Lib.hid htake
  have HL := Lib.hid hall
  have HI := Lib.hid hidx
  clear hl hn hidx htake hall
  go_enter Try.func50, Try.ntmps50
  go_wp2_with fail
  go_loopw [3, 7] (fun v i wr => ∃ k : Nat, i = .int .i64 (k : Int) ∧ k ≤ n ∧ v = .int .u32 (bv (l.take k) 0 : Int) ∧ wr = w) (fun _ i _ => n - (intOf i).toNat)
  case atStart => exact ⟨0, rfl, by omega, by simp [bv], rfl⟩
  case round =>
    obtain ⟨k, rfl, hk, rfl, rfl⟩ := hrel
    rcases Nat.lt_or_ge k n with hkn | hkn
    · have hik := fun W => HI.out k hkn W
      have hbk := bat_lt l k
      have hb := bv_take_lt (l := l) (k := k) (by omega)
      have hstep := HT.out k hkn
      obtain ⟨c, hc⟩ : ∃ c, c = bat l k := ⟨_, rfl⟩
      obtain ⟨m, hm⟩ : ∃ m, m = bv (l.take k) 0 := ⟨_, rfl⟩
      rw [← hc] at hik hbk
      rw [← hm] at hb
      rw [← hm, ← hc] at hstep
      have HS := Lib.hid hstep
      rw [← hm]
      have hor : bits .or .u32 ((m : Int) * 256) (c : Int) = ((m * 256 + c : Nat) : Int) := by
        have h1 : ((m : Int) * 256) = ((m * 256 : Nat) : Int) := by simp
        have h2 : m * 256 = 2 ^ 8 * m := by omega
        rw [h1, u32_or_nat _ _ (by omega) (by omega), h2, ← Nat.two_pow_add_eq_or_of_lt (by omega : c < 2 ^ 8)]
      clear hm hc hstep
      go_wp2_with fail
      exact ⟨⟨k + 1, by simp, by omega, by rw [HS.out]; simp, by trivial⟩, by simp [intOf]; omega⟩
    · have hkn : k = n := by omega
      subst hkn
      rw [HL.out]
      go_wp2_with fail
      go_ret
      exact ⟨rfl, rfl⟩
set_option maxHeartbeats 2000000 in
theorem rnum_any (s : ByteArray) (w : World) (hs : s.data.toList.length ≤ 4) : Calls Try.prog 64 #[.string s] w fun e w' => e = .returned (.int .u32 (bv s.data.toList 0 : Int)) ∧ w = w' := by
  obtain ⟨l, hl⟩ : ∃ l, l = s.data.toList := ⟨_, rfl⟩
  obtain ⟨n, hn⟩ : ∃ n, n = l.length := ⟨_, rfl⟩
  have hsz : s.size = n := by rw [hn, hl]; simp
  have hidx := fun (k : Nat) (hk : k < n) (W : World) => idx_run s k (by rw [← hl, ← hn]; exact hk) (k : Int) rfl W
  rw [← hl] at hidx ⊢ hs
  rw [← hn] at hs
  have htake := fun k (h : k < n) => bv_take (l := l) (k := k) (by omega)
  have hall : bv (l.take n) 0 = bv l 0 := by rw [hn, List.take_length]
  have HT := Lib.hid htake
  have HL := Lib.hid hall
  have HI := Lib.hid hidx
  clear hl hn hidx htake hall
  go_enter Try.func64, Try.ntmps64
  go_wp2_with fail
  go_loopw [3, 4] (fun v i wr => ∃ k : Nat, i = .int .i64 (k : Int) ∧ k ≤ n ∧ v = .int .u32 (bv (l.take k) 0 : Int) ∧ wr = w) (fun _ i _ => n - (intOf i).toNat)
  case atStart => exact ⟨0, rfl, by omega, by simp [bv], rfl⟩
  case round =>
    obtain ⟨k, rfl, hk, rfl, rfl⟩ := hrel
    rcases Nat.lt_or_ge k n with hkn | hkn
    · have hik := fun W => HI.out k hkn W
      have hbk := bat_lt l k
      have hb := bv_take_lt (l := l) (k := k) (by omega)
      have hstep := HT.out k hkn
      obtain ⟨c, hc⟩ : ∃ c, c = bat l k := ⟨_, rfl⟩
      obtain ⟨m, hm⟩ : ∃ m, m = bv (l.take k) 0 := ⟨_, rfl⟩
      rw [← hc] at hik hbk
      rw [← hm] at hb
      rw [← hm, ← hc] at hstep
      have HS := Lib.hid hstep
      rw [← hm]
      skip
      clear hm hc hstep
      go_wp2_with fail
      exact ⟨⟨k + 1, by simp, by omega, by rw [HS.out]; simp, by trivial⟩, by simp [intOf]; omega⟩
    · have hkn : k = n := by omega
      subst hkn
      rw [HL.out]
      go_wp2_with fail
      go_ret
      exact ⟨rfl, rfl⟩
end Go.Proofs.Ytbmeamhpmahlgaa
