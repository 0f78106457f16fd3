/- Proved here: over plain lists: what is read of what is made is the same; what is read may be. No condition. -/
import Derived.Test.YtphnapnmeidgkaaIa
import Derived.Test.YtphnapnmeidgkaaIb
namespace Go.Proofs.Ytphnapnmeidgkaa
open Go.RowKit

theorem w16_pos {n : Int} (h0 : 0 ≤ n) (h1 : n ≤ 65535) : (w16 n : Int) = n := by unfold w16; omega
theorem sg_w16 {n : Int} (h0 : -32768 ≤ n) (h1 : n ≤ 32767) : sg16 (w16 n) = n := by
  unfold sg16 w16
  split <;> omega
/-- What may be read may be. -/
theorem full_may {L : List (List UInt8 × List UInt8)} (h : PE L = 0) : MayP (PH L) := by
  unfold PE at h
  have z1 : e1 L = 0 := by
    by_cases h1 : e1 L = 0
    · exact h1
    · rw [if_pos h1] at h; exact absurd h h1
  rw [if_neg (by omega)] at h
  have z2 : e2 L = 0 := by
    by_cases h1 : e2 L = 0
    · exact h1
    · rw [if_pos h1] at h; exact absurd h h1
  rw [if_neg (by omega)] at h
  rw [(pe_4 z1 z2 h).2]
  unfold e1 at z1
  split at z1
  · unfold e2 at z2
    split at z2
    · unfold e3 at h
      split at h
      · unfold headE at z1
        unfold maxpE at z2
        unfold hheaE at h
        split at z1
        · omega
        split at z1
        · rename_i k1
          split at z2
          · omega
          split at z2
          · rename_i k2
            split at z2
            · omega
            rename_i k3
            split at h
            · omega
            split at h
            · rename_i k4
              have s1 := sg16_in _ (n2_lt (findL L tHhea).1 4)
              have s2 := sg16_in _ (n2_lt (findL L tHhea).1 6)
              have s3 := sg16_in _ (n2_lt (findL L tHhea).1 8)
              unfold MayP full h3 h2 h1
              simp only
              omega
            · omega
          · omega
        · omega
      · omega
    · omega
  · omega
end Go.Proofs.Ytphnapnmeidgkaa
