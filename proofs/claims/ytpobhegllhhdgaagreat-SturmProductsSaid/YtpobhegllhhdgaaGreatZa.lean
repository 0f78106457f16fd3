/- Proved here: a polynomial in its one form whose numbers are small has one digit each. Condition: its numbers are below 4294967296. -/
import Derived.Test.YtpobhegllhhdgaaGreatQe
namespace Go.Proofs.YtpobhegllhhdgaaGreat

theorem BigC.tight {w : World} {Z : Value} {z : Int} {l : Nat} (h : BigC w Z z l) (h1 : -4294967296 < z) (h2 : z < 4294967296) : BigC w Z z 1 := by
  obtain ⟨n, v, xs, e1, e2, e3, e4, e5, e6⟩ := h
  refine ⟨n, v, xs, e1, e2, e3, e4, ?_, e6⟩
  rcases Nat.lt_or_ge 1 xs.length with hl | hl
  · exfalso
    have hne : xs ≠ [] := by intro h; rw [h] at hl; simp at hl
    have := top_ge32 e4.1 hne
    have hp : 4294967296 ^ 1 ≤ 4294967296 ^ (xs.length - 1) := Nat.pow_le_pow_right (by omega) (by omega)
    rw [Nat.pow_one] at hp
    cases n
    · rw [sv_false] at e6; omega
    · rw [sv_true] at e6; omega
  · exact hl
theorem Pol.tight {w : World} {v : Value} {L : List Int} {l : Nat} (h : Pol .c w v L l) (hs : ∀ i, -4294967296 < co L i ∧ co L i < 4294967296) : Pol .c w v L 1 := by
  obtain ⟨A, c, h1, h2, h3, h4, h5⟩ := h
  refine ⟨A, c, h1, h2, h3, h4, fun ad ha => ⟨(h5 ad ha).1, fun i hi => ?_⟩⟩
  obtain ⟨n, B, p, q, e1, e2, e3⟩ := (h5 ad ha).2 i hi
  exact ⟨n, B, p, q, e1, e2, BigC.tight e3 (hs i).1 (hs i).2⟩
end Go.Proofs.YtpobhegllhhdgaaGreat
