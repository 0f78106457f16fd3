/- Proved here: pairs as runs, in the program. Condition: pairs that may be. -/
import Derived.Test.YtbmpdpajnmjfpaaPe
namespace Go.Proofs.Ytbmpdpajnmjfpaa
open Go.RowKit

theorem add_at (g j : Nat) : (⟨g, 0, none⟩ : Addr).add j = ⟨g, j, none⟩ := by unfold Addr.add; split <;> simp_all
/-- The last run ends at x. -/
def stT (R : List (Int × Int × Int)) (x : Int) : List (Int × Int × Int) := R.set (R.length - 1) (rF R (R.length - 1), x, rG R (R.length - 1))
/-- Does pair k go on with the run of the pair ahead? -/
def goesOn (L : List (Int × Int)) (k : Nat) : Prop := 0 < k ∧ cd L k = cd L (k - 1) + 1 ∧ gy L k = gy L (k - 1) + 1
instance (L : List (Int × Int)) (k : Nat) : Decidable (goesOn L k) := by unfold goesOn; infer_instance
/-- The first k pairs, as runs. -/
def runs (L : List (Int × Int)) : Nat → List (Int × Int × Int)
  | 0 => []
  | k + 1 => if goesOn L k then stT (runs L k) (cd L k) else runs L k ++ [(cd L k, cd L k, gy L k)]
theorem runs_len_le (L : List (Int × Int)) : ∀ k, (runs L k).length ≤ k
  | 0 => Nat.le_refl _
  | k + 1 => by
    have := runs_len_le L k
    simp only [runs]
    split
    · simp [stT]; omega
    · simp; omega
theorem runs_pos (L : List (Int × Int)) : ∀ k, 0 < k → 0 < (runs L k).length
  | k + 1, _ => by
    simp only [runs]
    split
    · rename_i h
      have := runs_pos L k h.1
      simp [stT]; omega
    · simp
/-- While runs are made. -/
structure RnS (T : TypeId) (w W : World) (v : Value) (n : Nat) (R : List (Int × Int × Int)) : Prop where
  bel : Below w.heap.size w W
  own : W.ownsRow w.heap.size T 3 v n (runC R)
  len : R.length = n
section
variable {T : TypeId} {w W W' : World} {v : Value} {n : Nat} {R : List (Int × Int × Int)}
theorem RnS.next (s : RnS T w W v n R) (hb : Below W.heap.size W W') : RnS T w W' v n R := ⟨s.bel.trans (hb.mono s.bel.size), own_bel s.own hb, s.len⟩
theorem RnS.start (w : World) : RnS T w w (.slice none 0 0) 0 [] := ⟨Below.refl _ _, World.ownsRow_nil _ _ _ _, rfl⟩
theorem RnS.push (s : RnS T w W v n R) {v' : Value} {e : Int × Int × Int} (hg : W.grownBy W' v.ownBlock) (ho : W'.ownsRow w.heap.size T 3 v' (n + 1) (runC R ++ [.int .i64 e.1, .int .i64 e.2.1, .int .i64 e.2.2])) : RnS T w W' v' (n + 1) (R ++ [e]) :=
  ⟨below_grown s.bel s.own hg, by rw [runC_snoc]; exact ho, by simp [s.len]⟩
theorem RnS.alloc (s : RnS T w W v n R) (o : Obj) : RnS T w (W.alloc o) v n R := s.next ((Below.refl _ _).alloc (Nat.le_refl _) o)
theorem RnS.drewN (s : RnS T w W v n R) (q : Nat) : RnS T w (W.drewN q) v n R := s.next (below_drewN (Below.refl _ _) q)
theorem RnS.set {g c q : Nat} (s : RnS T w W (.slice (some ⟨g, 0, none⟩) (q + 1) c) (q + 1) R) (x : Int) : RnS T w (W.setCell ⟨g, q * 3 + 1, none⟩ (.int .i64 x)) (.slice (some ⟨g, 0, none⟩) (q + 1) c) (q + 1) (stT R x) := by
  obtain ⟨h1, h2⟩ := s.own.stored (q * 3 + 1) (.int .i64 x)
  have hq : R.length - 1 = q := by rw [s.len]; rfl
  refine ⟨below_grown s.bel s.own h2, ?_, by simp [stT, s.len]⟩
  rw [runC_set R q x (by rw [s.len]; omega)] at h1
  unfold stT
  rw [hq]
  exact h1
theorem RnS.form (s : RnS T w W v n R) : ∃ A c, v = .slice A n c := own_form s.own
theorem RnS.pos {c q : Nat} {A : Option Addr} (s : RnS T w W (.slice A (q + 1) c) (q + 1) R) : ∃ g, A = some ⟨g, 0, none⟩ ∧ W.cell? ⟨g, q * 3 + 1, none⟩ = some (.int .i64 (rT R q)) ∧ W.frozen? ⟨g, q * 3 + 1, none⟩ = false ∧ g < W.heap.size := by
  obtain ⟨g, rfl, _, h2⟩ := own_block s.own (by omega)
  refine ⟨g, rfl, ?_, s.own.frozenAt _, h2⟩
  have := s.own.cells (by rfl) _ _ (runC_get R q (by rw [s.len]; omega)).2.1
  rwa [add_at] at this
end
end Go.Proofs.Ytbmpdpajnmjfpaa
