/- Proved here: words for the document's Parse of layer 3: where a text's first / stands, and its two parts. No condition. -/
import Derived.Test.YtjjinncecfilpaaDoorXh
import Derived.Test.YtjjinncecfilpaaDoorXl
import Derived.Test.YtjjinncecfilpaaDoorUd
namespace Go.Proofs.YtjjinncecfilpaaDoor
open Go.RowKit

/-- Where the first / stands, or the text's end. -/
def ks (l : List UInt8) : Nat := (l.takeWhile fun c => c != 47).length
theorem ks_le : ∀ l : List UInt8, ks l ≤ l.length
  | [] => Nat.le_refl _
  | c :: r => by
    unfold ks
    rw [List.takeWhile_cons]
    split
    · have := ks_le r
      unfold ks at this
      simpa using this
    · simp
theorem ks_cons (c : UInt8) (r : List UInt8) : ks (c :: r) = if c = 47 then 0 else ks r + 1 := by
  unfold ks
  rw [List.takeWhile_cons]
  by_cases h : c = 47 <;> simp [h]
theorem bat_cons0 (c : UInt8) (r : List UInt8) : bat (c :: r) 0 = c.toNat := by simp [bat]
theorem bat_consS (c : UInt8) (r : List UInt8) (j : Nat) : bat (c :: r) (j + 1) = bat r j := by simp [bat]
theorem ks_ne : ∀ (l : List UInt8) (j : Nat), j < ks l → bat l j ≠ 47
  | [], j, h => by simp [ks] at h
  | c :: r, j, h => by
    rw [ks_cons] at h
    by_cases hc : c = 47
    · rw [if_pos hc] at h
      exact absurd h (Nat.not_lt_zero _)
    · rw [if_neg hc] at h
      cases j with
      | zero =>
        rw [bat_cons0]
        intro h2
        exact hc (UInt8.toNat_inj.1 (by simpa using h2))
      | succ j =>
        rw [bat_consS]
        exact ks_ne r j (by omega)
theorem ks_eq : ∀ (l : List UInt8), ks l < l.length → bat l (ks l) = 47
  | [], h => by simp [ks] at h
  | c :: r, h => by
    rw [ks_cons] at h ⊢
    by_cases hc : c = 47
    · rw [if_pos hc, bat_cons0, hc]
      rfl
    · rw [if_neg hc] at h ⊢
      rw [bat_consS]
      exact ks_eq r (by simpa using h)
/-- What the document's Parse answers. -/
def parL (l : List UInt8) : Int × Int × Int :=
  if 40 < l.length then (0, 0, 6) else
  if (if pcode (l.take (ks l)) = 0 ∧ ks l < l.length then pcode (l.drop (ks l + 1)) else pcode (l.take (ks l))) = 0 ∧ Fit (pnum (l.take (ks l))) ∧
      Fit (if pcode (l.take (ks l)) = 0 ∧ ks l < l.length then pnum (l.drop (ks l + 1)) else 1) ∧ Maybe (pnum (l.take (ks l))) (if pcode (l.take (ks l)) = 0 ∧ ks l < l.length then pnum (l.drop (ks l + 1)) else 1) ∧
      rtxt (pnum (l.take (ks l))) (if pcode (l.take (ks l)) = 0 ∧ ks l < l.length then pnum (l.drop (ks l + 1)) else 1) = l
    then (pnum (l.take (ks l)), (if pcode (l.take (ks l)) = 0 ∧ ks l < l.length then pnum (l.drop (ks l + 1)) else 1), 0) else (0, 0, 4)
theorem cut_to (s : ByteArray) (k : Nat) (hk : k ≤ s.size) (W : World) : (Instr.slice 9 (.string s) none (some (.int .i64 (k : Int))) none).run Tryd.prog W = .ok (.string ⟨(s.data.toList.take k).toArray⟩) W := by
  have hex : s.extract 0 k = ⟨(s.data.toList.take k).toArray⟩ := by
    apply ByteArray.ext
    apply Array.toList_inj.1
    simp [List.extract]
  rw [run_slice_string_to_if W 9 s .i64 (k : Int) (by kernel_rfl), if_pos (by omega)]
  simp [hex]
theorem cut_from (s : ByteArray) (k : Nat) (hk : k ≤ s.size) (W : World) : (Instr.slice 9 (.string s) (some (.int .i64 (k : Int))) none none).run Tryd.prog W = .ok (.string ⟨(s.data.toList.drop k).toArray⟩) W := by
  have hex : s.extract k s.size = ⟨(s.data.toList.drop k).toArray⟩ := by
    apply ByteArray.ext
    apply Array.toList_inj.1
    have hl : s.size = s.data.toList.length := by simp
    simp [List.extract]
    exact List.take_of_length_le (by rw [List.length_drop, ← hl]; exact Nat.le_refl _)
  rw [run_slice_string_from_if W 9 s .i64 (k : Int) (by kernel_rfl), if_pos (by omega)]
  simp [hex]
/-- What stands in memory behind both parts. -/
structure PpH (w W : World) (g5 : Nat) (b5 : Bool) (v5 : Value) (z1 : Int) (g7 : Nat) (b7 : Bool) (v7 : Value) (z2 : Int) : Prop where
  rr : Rt W w.heap.size 0 0
  X : Bx 65 W g5 b5 v5
  NX : NumC W (.agg #[.bool b5, v5]) z1 500
  Y : Bx 65 W g7 b7 v7
  NY : NumC W (.agg #[.bool b7, v7]) z2 500
  h5 : w.heap.size < g5
  h7 : g5 < g7
  bel : Below w.heap.size w W
section
variable {w W W' : World} {g5 g7 : Nat} {b5 b7 m : Bool} {v5 v7 z : Value} {z1 z2 z3 : Int} {C : Option Addr} {r q : Nat}
theorem PpH.next (h : PpH w W g5 b5 v5 z1 g7 b7 v7 z2) (e : Below W.heap.size W W') : PpH w W' g5 b5 v5 z1 g7 b7 v7 z2 := ⟨h.rr.bel e, h.X.bel e, h.NX.bel e, h.Y.bel e, h.NY.bel e, h.h5, h.h7, bel_tr h.bel e⟩
theorem PpH.facts (h : PpH w W g5 b5 v5 z1 g7 b7 v7 z2) : W.cell? ⟨g5, 0, none⟩ = some (.bool b5) ∧ W.cell? ⟨g5, 1, none⟩ = some v5 ∧ W.cell? ⟨g7, 0, none⟩ = some (.bool b7) ∧ W.cell? ⟨g7, 1, none⟩ = some v7 ∧ W.frozen? ⟨g7, 0, none⟩ = false ∧ W.frozen? ⟨g7, 1, none⟩ = false :=
  ⟨h.X.c0, h.X.c1, h.Y.c0, h.Y.c1, h.Y.fr 0, h.Y.fr 1⟩
theorem PpH.res (h : PpH w W g5 b5 v5 z1 g7 b7 v7 z2) : W.cell? ⟨w.heap.size, 0, none⟩ = some (.int .i64 0) ∧ W.cell? ⟨w.heap.size, 1, none⟩ = some (.int .i64 0) ∧ W.frozen? ⟨w.heap.size, 0, none⟩ = false ∧ W.frozen? ⟨w.heap.size, 1, none⟩ = false :=
  ⟨h.rr.c0, h.rr.c1, h.rr.fr 0, h.rr.fr 1⟩
theorem PpH.put (h : PpH w W g5 b5 v5 z1 g7 b7 (.slice C r q) z2) (hz : NumC W (.agg #[.bool m, z]) z3 500) : PpH w ((W.setCell ⟨g7, 0, none⟩ (.bool m)).setCell ⟨g7, 1, none⟩ z) g5 b5 v5 z1 g7 m z z3 := by
  have h1 := h.h5
  have h2 := h.h7
  exact ⟨h.rr.far2 (by omega), h.X.far2_ (by omega), h.NX.box2_ h.Y, h.Y.set2_, hz.box2_ h.Y, h1, h2, bel_set (bel_set h.bel (by omega) _ _) (by omega) _ _⟩
end
theorem rparse_pt (l : List UInt8) (hl : l.length ≤ 1000000) (w : World) : Calls Tryd.prog 56 #[.string ⟨l.toArray⟩] w fun e w' => ∃ b C r q, e = .returned (.tuple #[.agg #[.bool b, .slice C r q], .int .i64 (pcode l : Int)]) ∧ NumC w' (.agg #[.bool b, .slice C r q]) (pnum l) 500 ∧ Below w.heap.size w w' :=
  (rparse_any ⟨l.toArray⟩ w (by show l.toArray.size ≤ _; simpa using hl)).mono fun _ _ ⟨Z, he, ⟨b, v, zs, hZ, a1, a2⟩, hb⟩ => by
    subst hZ
    obtain ⟨C, q, rfl⟩ := a1.slice
    exact ⟨b, C, _, q, he, ⟨b, _, zs, rfl, a1, a2⟩, hb⟩
end Go.Proofs.YtjjinncecfilpaaDoor
