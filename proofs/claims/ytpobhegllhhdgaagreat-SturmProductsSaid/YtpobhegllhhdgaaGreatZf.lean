/- Proved here: the law SturmProducts, where there are more fractions than it asks about; its fractions. No condition. -/
import Derived.Test.YtpobhegllhhdgaaGreatZe
import Derived.Test.YtpobhegllhhdgaaGreatKB
namespace Go.Proofs.YtpobhegllhhdgaaGreat
open Go.RowKit Go.Maps

/-- The fraction of two numbers of 8 bits. -/
def frac8 (e : Int × Int) : Int × Int := (lowN (e.1.tmod 21) (1 + e.2 % 4), lowD (e.1.tmod 21) (1 + e.2 % 4))
theorem frac8_sm (e : Int × Int) : TH.SmF (frac8 e) := by
  obtain ⟨n, hn⟩ : ∃ n, n = e.1.tmod 21 := ⟨_, rfl⟩
  obtain ⟨d, hd⟩ : ∃ d, d = 1 + e.2 % 4 := ⟨_, rfl⟩
  have h1 : n.natAbs < 21 := by have := Int.natAbs_tmod e.1 21; rw [← hn] at this; rw [this]; exact Nat.mod_lt _ (by decide)
  have h2 : 1 ≤ d ∧ d ≤ 4 := by omega
  have hfr : frac8 e = (lowN n d, lowD n d) := by unfold frac8; rw [← hn, ← hd]
  rw [hfr]
  have hg : 0 < n.natAbs.gcd d.natAbs := Nat.gcd_pos_of_pos_right _ (by omega)
  have hq1 : n.natAbs / n.natAbs.gcd d.natAbs ≤ n.natAbs := Nat.div_le_self _ _
  have hq2 : d.natAbs / n.natAbs.gcd d.natAbs ≤ d.natAbs := Nat.div_le_self _ _
  have hq3 : 0 < d.natAbs / n.natAbs.gcd d.natAbs := Nat.div_pos (Nat.gcd_le_right _ (by omega)) hg
  have hab : (lowN n d).natAbs = n.natAbs / n.natAbs.gcd d.natAbs := by
    unfold lowN
    generalize n.natAbs / n.natAbs.gcd d.natAbs = q
    cases (!(decide (n < 0) == decide (d < 0))) <;> simp only [sv_true, sv_false] <;> omega
  have hdb : (lowD n d).natAbs = d.natAbs / n.natAbs.gcd d.natAbs := by unfold lowD; omega
  refine ⟨⟨by unfold lowD; omega, ?_⟩, ?_, ?_, ?_, ?_⟩
  · rw [hab, hdb]
    exact Nat.coprime_div_gcd_div_gcd hg
  · show -20 ≤ lowN n d
    omega
  · show lowN n d ≤ 20
    omega
  · show 1 ≤ lowD n d
    unfold lowD; omega
  · show lowD n d ≤ 4
    unfold lowD; omega
theorem frac8_new (e : Int × Int) : newR (e.1.tmod 21) (1 + e.2 % 4) = ((frac8 e).1, (frac8 e).2, 0) := by
  have h := frac8_sm e
  unfold newR low
  rw [if_neg (by omega), if_pos]
  · rfl
  · obtain ⟨_, h1, h2, h3, h4⟩ := h
    have e1 : (frac8 e).1 = lowN (e.1.tmod 21) (1 + e.2 % 4) := rfl
    have e2 : (frac8 e).2 = lowD (e.1.tmod 21) (1 + e.2 % 4) := rfl
    rw [e1] at h1 h2
    rw [e2] at h3 h4
    unfold Fit
    exact ⟨⟨by omega, by omega⟩, ⟨by omega, by omega⟩⟩
set_option maxRecDepth 100000 in
theorem products_long (A : Option Addr) (m c : Nat) (x : Int) (w : World) (h6 : 6 < m) :
    Calls Tryz.prog 5 #[.slice A m c, .int .i8 x] w fun e w' => e = .returned (.bool true) ∧ Below w.heap.size w w' := by
  have HAW := Lib.hid awake_any
  have HB := Lib.hid (Below.refl w.heap.size w)
  go_enter Tryz.func5, Tryz.ntmps5
  go_wp2_with (first
    | (go_at_call 6; (with_reducible refine (HAW.out _).mono ?_); rintro e w1 ⟨rfl, hb⟩; have HB := Lib.hid (bel_tr HB.out hb); clear hb))
  go_ret
  exact ⟨rfl, HB.out⟩
end Go.Proofs.YtpobhegllhhdgaaGreat
