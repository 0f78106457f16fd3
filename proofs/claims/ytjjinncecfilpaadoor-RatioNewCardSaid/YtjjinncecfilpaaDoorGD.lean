/- Proved here: what proper answers. No condition but a text that isn't too long. · what package big's Parse answers. No condition but a text that isn't too long to be held. -/
import Derived.Test.YtjjinncecfilpaaDoorGC
import Derived.Test.YtjjinncecfilpaaDoorGA
import Derived.Test.YtjjinncecfilpaaDoorProg
namespace Go.Proofs.YtjjinncecfilpaaDoor
open Go.RowKit

/-- The byte at a place. -/
def bat (l : List UInt8) (k : Nat) : Nat := (l.getD k 0).toNat
theorem bat_lt (l : List UInt8) (k : Nat) : bat l k < 256 := UInt8.toNat_lt _
theorem idx_run (s : ByteArray) (k : Nat) (hk : k < s.data.toList.length) (i : Int) (hi : i = (k : Int)) (W : World) : (Instr.index 9 (.string s) (.int .i64 i)).run Tryd.prog W = .ok (.int .u8 (bat s.data.toList k : Int)) W := by
  subst hi
  have hk2 : k < s.size := by simpa using hk
  have hk' : (0 : Int) ≤ (k : Int) ∧ (k : Int) < (s.size : Int) := by omega
  rw [run_index_string W 9 s .i64 (k : Int) (by kernel_rfl), dif_pos hk']
  congr 1
  unfold bat
  simp only [Int.toNat_natCast]
  rw [List.getD_eq_getElem?_getD, List.getElem?_eq_getElem hk]
  simp only [Option.getD_some, Array.getElem_toList]
  rfl
/-- What proper answers. -/
theorem good_bat (l : List UInt8) : Good l ↔ l.length ≠ 0 ∧ ¬ (bat l 0 = 48 ∧ 1 < l.length) ∧ ∀ k, k < l.length → 48 ≤ bat l k ∧ bat l k ≤ 57 := by
  unfold Good
  constructor
  · rintro ⟨h1, h2, h3⟩
    refine ⟨fun h => h1 (List.eq_nil_of_length_eq_zero h), fun ⟨h4, h5⟩ => ?_, fun k hk => ?_⟩
    · cases l with
      | nil => exact h1 rfl
      | cons a r =>
        have : a = 48 := UInt8.toNat_inj.1 (by simpa [bat] using h4)
        subst this
        have := h2 rfl
        omega
    · have := h3 l[k] (List.getElem_mem hk)
      simpa [bat, hk] using this
  · rintro ⟨h1, h2, h3⟩
    refine ⟨fun h => h1 (by rw [h]; rfl), fun h => ?_, fun c hc => ?_⟩
    · cases l with
      | nil => simp at h
      | cons a r =>
        simp at h
        subst h
        have : ¬ 1 < (48 :: r).length := fun h5 => h2 ⟨by simp [bat], h5⟩
        simp at this ⊢
        exact this
    · obtain ⟨k, hk, rfl⟩ := List.getElem_of_mem hc
      have := h3 k hk
      simpa [bat, hk] using this
end Go.Proofs.YtjjinncecfilpaaDoor
namespace Go.Proofs.YtjjinncecfilpaaDoor
open Go.RowKit

/-- What is answered of a text, and the number. -/
def pcode (l : List UInt8) : Nat := if 400 < l.length then 6 else if okN l = true then 0 else 4
def pnum (l : List UInt8) : Int := if pcode l = 0 then pval l else 0
end Go.Proofs.YtjjinncecfilpaaDoor
