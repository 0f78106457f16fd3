/- Proved here: what numbers in bytes are, and what the program's and the document's number answer. Condition: at most four bytes. -/
import Derived.Test.YtnnanlilnlimaaaProg
import Derived.WalkKit
import Derived.WalkSpells
import Derived.WalkLawsBesides
import Derived.Deep.DeepFit
import Derived.Deep.QuietTactic
import Derived.BigQuiet
import Derived.Lib.Hide
import Derived.StillTailTactics
import Derived.Deep.RegionHeld3
import Derived.ChangeAlike
import Derived.RegionTactic
import Derived.IntWalk
import Derived.Laws.BitsAllLaws
import Derived.Laws.Bits64b
import Derived.Laws.IdiomStrings
import Derived.Deep.CutBlock
import Derived.Deep.CutRange
import Derived.Deep.DeepCutAuto
namespace Go.Proofs.Ytnnanlilnlimaaa
open Go.RowKit

/-- The byte at a place. -/
def bat (l : List UInt8) (k : Nat) : Nat := (l.getD k 0).toNat
theorem bat_lt (l : List UInt8) (k : Nat) : bat l k < 256 := UInt8.toNat_lt _
theorem idx_run (s : ByteArray) (k : Nat) (hk : k < s.data.toList.length) (i : Int) (hi : i = (k : Int)) (W : World) : (Instr.index 9 (.string s) (.int .i64 i)).run Try.prog W = .ok (.int .u8 (bat s.data.toList k : Int)) W := by
  subst hi
  have hk2 : k < s.size := by simpa using hk
  have hk' : (0 : Int) ≤ (k : Int) ∧ (k : Int) < (s.size : Int) := by omega
  rw [run_index_string W 9 s .i64 (k : Int) (by kernel_rfl), dif_pos hk']
  congr 1
  unfold bat
  simp only [Int.toNat_natCast]
  rw [List.getD_eq_getElem?_getD, List.getElem?_eq_getElem hk]
  simp only [Option.getD_some, Array.getElem_toList]
  rfl
/-- The number in bytes, the highest first. -/
def bv : List UInt8 → Nat → Nat
  | [], n => n
  | c :: l, n => bv l (n * 256 + c.toNat)
theorem bv_snoc (c : UInt8) : ∀ (l : List UInt8) (n : Nat), bv (l ++ [c]) n = bv l n * 256 + c.toNat
  | [], _ => rfl
  | _ :: l, _ => bv_snoc c l _
theorem bv_lt : ∀ (l : List UInt8) (n : Nat), bv l n < (n + 1) * 256 ^ l.length
  | [], n => by simp [bv]
  | c :: l, n => by
    have h := bv_lt l (n * 256 + c.toNat)
    have hc := UInt8.toNat_lt c
    simp only [bv, List.length_cons, Nat.pow_succ]
    refine Nat.lt_of_lt_of_le h ?_
    have : (n * 256 + c.toNat + 1) * 256 ^ l.length ≤ ((n + 1) * 256) * 256 ^ l.length := Nat.mul_le_mul_right _ (by omega)
    grind
theorem bv_take {l : List UInt8} {k : Nat} (h : k < l.length) : bv (l.take (k + 1)) 0 = bv (l.take k) 0 * 256 + bat l k := by
  rw [List.take_succ_eq_append_getElem h, bv_snoc]
  simp [bat, h]
theorem bv_take_lt {l : List UInt8} {k : Nat} (h : k ≤ 3) : bv (l.take k) 0 < 16777216 := by
  have h1 := bv_lt (l.take k) 0
  have h2 : (l.take k).length ≤ 3 := by rw [List.length_take]; omega
  have h3 : 256 ^ (l.take k).length ≤ 256 ^ 3 := Nat.pow_le_pow_right (by decide) h2
  omega
end Go.Proofs.Ytnnanlilnlimaaa
