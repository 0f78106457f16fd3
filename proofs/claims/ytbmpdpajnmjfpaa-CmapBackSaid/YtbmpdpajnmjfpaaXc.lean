/- Proved here (plain): what is made of pairs, with a part of 4, is parsed to the pairs. Condition: pairs that may be, of codes up to 65534. -/
import Derived.Test.YtbmpdpajnmjfpaaXb
namespace Go.Proofs.Ytbmpdpajnmjfpaa

/-- A number of a row of numbers of two bytes. -/
theorem row_made {α : Type} [Inhabited α] {f : α → Nat} {R : List α} {X Z : List UInt8} {i : Nat} (hi : i < R.length) (hf : f R[i] < 65536) {a : Nat} (ha : a = X.length + 2 * i) : n2 (X ++ ((R.flatMap fun r => byt 2 (f r)) ++ Z)) a = f R[i] := by
  have hs := at_split R i hi
  have e0 : (R.flatMap fun r => byt 2 (f r)) = (R.take i).flatMap (fun r => byt 2 (f r)) ++ (byt 2 (f R[i]) ++ (R.drop (i + 1)).flatMap (fun r => byt 2 (f r))) := by
    have h1 : R.flatMap (fun r => byt 2 (f r)) = (R.take i ++ (R[i] :: R.drop (i + 1))).flatMap (fun r => byt 2 (f r)) := by rw [← hs]
    rw [List.flatMap_append, List.flatMap_cons] at h1
    exact h1
  have hl : ((R.take i).flatMap fun r => byt 2 (f r)).length = 2 * i := by
    rw [flat_len _ (fun _ => byt_len _ _), List.length_take]; omega
  exact n2_at (x := X ++ (R.take i).flatMap fun r => byt 2 (f r)) (by rw [e0]; simp only [List.append_assoc]; rfl) (by rw [List.length_append, hl]; exact ha) hf
theorem zer_made {n i : Nat} (hi : i < n) {X Z : List UInt8} {a : Nat} (ha : a = X.length + 2 * i) : n2 (X ++ (zerB n ++ Z)) a = 0 := by
  have e0 : zerB n = zerB i ++ (byt 2 0 ++ zerB (n - i - 1)) := by
    have h1 : n = (i + 1) + (n - i - 1) := by omega
    unfold zerB
    conv => lhs; rw [h1, Lib.repeatL_add, Lib.repeatL_add, Lib.repeatL_one, List.append_assoc]
    rfl
  exact n2_at (x := X ++ zerB i) (by rw [e0]; simp only [List.append_assoc]; rfl) (by rw [List.length_append, zerB_len]; exact ha) (by decide)
/-- The head of a part of 4. -/
def shB (n : Nat) : List UInt8 := byt 2 4 ++ byt 2 (16 + 8 * n) ++ byt 2 0 ++ cntB n
theorem shB_len (n : Nat) : (shB n).length = 14 := by simp [shB, byt_len, cntB_len]
theorem sgB_eq (S : List (Int × Int × Int)) : sgB S = shB S.length ++ (tosB S ++ (byt 2 0 ++ (frsB S ++ (dlsB S ++ zerB S.length)))) := by unfold sgB shB; simp only [List.append_assoc]
theorem seg_made {S : List (Int × Int × Int)} (hf : fits16 S) {i : Nat} (hi : i < S.length) :
    sT (sgB S) i = (rT S i).toNat ∧ sF (sgB S) S.length i = (rF S i).toNat ∧ sD (sgB S) S.length i = dlt (rF S i, rT S i, rG S i) ∧ sJ (sgB S) S.length i = 0 := by
  obtain ⟨f1, f2, f3⟩ := hf i hi
  have hr : S[i] = (rF S i, rT S i, rG S i) := by simp [rF, rT, rG, hi]
  have hd := (wrap_dlt (rF S i) (rT S i) (rG S i) f1 f3).2
  have l1 := shB_len S.length
  have l2 := tosB_len S
  have l3 := frsB_len S
  have l4 := dlsB_len S
  have b2 : ∀ n, (byt 2 n).length = 2 := fun n => byt_len 2 n
  refine ⟨?_, ?_, ?_, ?_⟩
  · have := row_made (f := fun r : Int × Int × Int => r.2.1.toNat) (R := S) (X := shB S.length) (Z := byt 2 0 ++ (frsB S ++ (dlsB S ++ zerB S.length))) hi (by rw [hr]; simp only; omega) (a := 14 + 2 * i) (by rw [l1])
    rw [hr] at this
    unfold sT
    rw [sgB_eq]
    exact this
  · have := row_made (f := fun r : Int × Int × Int => r.1.toNat) (R := S) (X := shB S.length ++ (tosB S ++ byt 2 0)) (Z := dlsB S ++ zerB S.length) hi (by rw [hr]; simp only; omega) (a := 14 + 2 * i + 2 * S.length + 2) (by simp only [List.length_append, l1, l2, b2]; omega)
    rw [hr] at this
    unfold sF
    rw [sgB_eq]
    rw [← this]
    unfold frsB
    simp only [List.append_assoc]
  · have := row_made (f := dlt) (R := S) (X := shB S.length ++ (tosB S ++ (byt 2 0 ++ frsB S))) (Z := zerB S.length) hi (by rw [hr]; exact hd) (a := 14 + 2 * i + 2 * S.length + 2 + 2 * S.length) (by simp only [List.length_append, l1, l2, l3, b2]; omega)
    rw [hr] at this
    unfold sD
    rw [sgB_eq]
    rw [← this]
    unfold dlsB
    simp only [List.append_assoc]
  · have := zer_made (n := S.length) hi (X := shB S.length ++ (tosB S ++ (byt 2 0 ++ (frsB S ++ dlsB S)))) (Z := []) (a := 14 + 2 * i + 2 * S.length + 2 + 2 * S.length + 2 * S.length) (by simp only [List.length_append, l1, l2, l3, l4, b2]; omega)
    unfold sJ
    rw [sgB_eq]
    refine Eq.trans ?_ this
    simp only [List.append_assoc, List.append_nil]
theorem at_left {R : List (Int × Int × Int)} {r : Int × Int × Int} {i : Nat} (hi : i < R.length) : rF (R ++ [r]) i = rF R i ∧ rT (R ++ [r]) i = rT R i ∧ rG (R ++ [r]) i = rG R i := by
  have e1 : (R ++ [r]).getD i (0, 0, 0) = R.getD i (0, 0, 0) := by simp [List.getD_eq_getElem?_getD, List.getElem?_append_left hi]
  unfold rF rT rG
  rw [e1]
  exact ⟨rfl, rfl, rfl⟩
theorem at_last (R : List (Int × Int × Int)) (r : Int × Int × Int) : rF (R ++ [r]) R.length = r.1 ∧ rT (R ++ [r]) R.length = r.2.1 ∧ rG (R ++ [r]) R.length = r.2.2 := by
  have e1 : (R ++ [r]).getD R.length (0, 0, 0) = r := by simp [List.getD_eq_getElem?_getD]
  unfold rF rT rG
  rw [e1]
  exact ⟨rfl, rfl, rfl⟩
theorem fits16_last {R : List (Int × Int × Int)} (h : fits16 R) : fits16 (R ++ [lastR]) := by
  intro i hi
  rcases Nat.lt_or_ge i R.length with h1 | h1
  · obtain ⟨e1, e2, e3⟩ := at_left (r := lastR) h1
    rw [e1, e2, e3]; exact h i h1
  · have : i = R.length := by simp at hi; omega
    subst this
    obtain ⟨e1, e2, e3⟩ := at_last R lastR
    rw [e1, e2, e3]; decide
theorem segs_made {L : List (Int × Int)} (hM : MayP L 1024) (hx : L.length = 0 ∨ cd L (L.length - 1) ≤ 65534) {S : List (Int × Int × Int)} (hS : S = runs L L.length ++ [lastR]) : ∀ i, i ≤ (runs L L.length).length → segs 1024 (sgB S) S.length i = (0, exs ((runs L L.length).take i))
  | 0, _ => by simp [segs, exs]
  | i + 1, hi => by
    have hR := runs_ri hM L.length (Nat.le_refl _)
    have hf16 := runs_fits16 hM hx
    have hfS : fits16 S := by rw [hS]; exact fits16_last hf16
    have hSl : S.length = (runs L L.length).length + 1 := by rw [hS]; simp
    have ih := segs_made hM hx hS i (by omega)
    have hle := exs_le hR (i + 1)
    have hmx := hM.2.1
    have hext := exs_take (R := runs L L.length) (k := i) (by omega)
    have hok := okR_at hR (i := i) (by omega)
    have hfi := hf16 i (by omega)
    obtain ⟨a1, a2, a3⟩ := at_left (R := runs L L.length) (r := lastR) (i := i) (by omega)
    rw [← hS] at a1 a2 a3
    obtain ⟨g1, g2, g3, g4⟩ := seg_made hfS (i := i) (by omega)
    rw [a2] at g1
    rw [a1] at g2
    rw [a1, a2, a3] at g3
    have hah : ahS (sgB S) i < rF (runs L L.length) i := by
      cases i with
      | zero => show (-1 : Int) < _; omega
      | succ i =>
        show (sT (sgB S) i : Int) < _
        rw [(seg_made hfS (i := i) (by omega)).1]
        have e2 := (at_left (R := runs L L.length) (r := lastR) (i := i) (by omega)).2.1
        rw [← hS] at e2
        rw [e2]
        have := rise_at hR (i := i) (by omega)
        have := okR_at hR (i := i) (by omega)
        omega
    have hlen := congrArg List.length hext
    rw [List.length_append, exr_len] at hlen
    simp only at hlen
    simp only [segs]
    rw [stick_ok ih, g1, g2, g3, g4]
    have hnn : ((rF (runs L L.length) i).toNat : Int) = rF (runs L L.length) i := by omega
    rw [if_neg (by omega)]
    have hc := codes_all (f := gly (sgB S) (rF (runs L L.length) i).toNat (dlt (rF (runs L L.length) i, rT (runs L L.length) i, rG (runs L L.length) i)) 0 (sAt S.length i)) (x := (rF (runs L L.length) i).toNat) (z := rG (runs L L.length) i) (ps := exs ((runs L L.length).take i)) ((rT (runs L L.length) i).toNat + 1 - (rF (runs L L.length) i).toNat) (fun j hj => by
      refine ⟨?_, by omega, by omega⟩
      unfold gly
      rw [if_pos rfl]
      refine Prod.ext ?_ rfl
      show ((((rF (runs L L.length) i).toNat + j + dlt (rF (runs L L.length) i, rT (runs L L.length) i, rG (runs L L.length) i)) % 65536 : Nat) : Int) = rG (runs L L.length) i + (j : Int)
      unfold dlt
      simp only
      omega) (by omega)
    rw [hc, hext]
    congr 2
    unfold exr
    simp only
    rw [show (rT (runs L L.length) i).toNat + 1 - (rF (runs L L.length) i).toNat = (rT (runs L L.length) i + 1 - rF (runs L L.length) i).toNat by omega, hnn]
theorem short_back {L : List (Int × Int)} (hM : MayP L 1024) (hx : L.length = 0 ∨ cd L (L.length - 1) ≤ 65534) : parS 1024 (mkB L false) = (0, L) := by
  obtain ⟨S, hS⟩ : ∃ S, S = runs L L.length ++ [lastR] := ⟨_, rfl⟩
  obtain ⟨h1, h2, h3, h4, h5⟩ := rows_made 3 1 (sgB S) (by decide) (by decide)
  have hR := runs_ri hM L.length (Nat.le_refl _)
  have hRl := runs_len_le L L.length
  have hmx := hM.2.1
  have hf16 := runs_fits16 hM hx
  have hfS : fits16 S := by rw [hS]; exact fits16_last hf16
  have hB : mkB L false = rowB 3 1 ++ sgB S := by rw [hS]; rfl
  rw [hB]
  obtain ⟨n, hn⟩ : ∃ n, n = S.length := ⟨_, rfl⟩
  have hnR : n = (runs L L.length).length + 1 := by rw [hn, hS]; simp
  have hsl : (sgB S).length = 16 + 8 * n := by rw [sgB_len, hn]
  have hlen : (rowB 3 1 ++ sgB S).length = 12 + (16 + 8 * n) := by rw [List.length_append, rowB_len, hsl]
  have hg := segs_made hM hx hS (runs L L.length).length (Nat.le_refl _)
  rw [List.take_length, hR.ex, List.take_length, ← hn] at hg
  unfold parS
  have f1 : fst2 (rowB 3 1 ++ sgB S) (nR (rowB 3 1 ++ sgB S)) P1 E1 = none := by
    rw [h2]
    refine fst2_none fun j hj => ?_
    rw [fr_one, h3, h4]
    refine if_neg fun h => ?_
    have hh := h.2
    unfold E1 at hh
    split at hh <;> omega
  have f2 : fst2 (rowB 3 1 ++ sgB S) (nR (rowB 3 1 ++ sgB S)) P1 E2 = some 12 := by
    rw [h2]
    refine fst2_hit (k := 0) (by omega) (fun j hj => by omega) ?_
    rw [fr_one, h3, h4, h5]
    exact if_pos ⟨rfl, rfl⟩
  rw [if_pos (by decide), if_pos h1, part_short f1 f2]
  have b2 : ∀ n, (byt 2 n).length = 2 := fun n => byt_len 2 n
  have hxx : rowB 3 1 ++ sgB S = rowB 3 1 ++ (byt 2 4 ++ (byt 2 (16 + 8 * n) ++ (byt 2 0 ++ (cntB n ++ (tosB S ++ (byt 2 0 ++ (frsB S ++ (dlsB S ++ zerB n)))))))) := by rw [sgB_eq, ← hn]; unfold shB; simp only [List.append_assoc]
  have q1 : n2 (rowB 3 1 ++ sgB S) 12 = 4 := n2_at hxx (by rw [rowB_len]) (by decide)
  have q2 : n2 (rowB 3 1 ++ sgB S) (12 + 2) = 16 + 8 * n := n2_at (x := rowB 3 1 ++ byt 2 4) (by rw [hxx]; simp only [List.append_assoc]; rfl) (by rw [List.length_append, rowB_len, b2]) (by omega)
  have q3 : n2 (rowB 3 1 ++ sgB S) (12 + 6) = 2 * n := n2_at (x := rowB 3 1 ++ byt 2 4 ++ byt 2 (16 + 8 * n) ++ byt 2 0) (by rw [hxx]; unfold cntB; simp only [List.append_assoc]; rfl) (by simp only [List.length_append, rowB_len, b2]) (by omega)
  have q4 : piece (rowB 3 1 ++ sgB S) (12 + 6) 8 = cntB n := by
    have := piece_app (rowB 3 1 ++ byt 2 4 ++ byt 2 (16 + 8 * n) ++ byt 2 0) (cntB n) (tosB S ++ (byt 2 0 ++ (frsB S ++ (dlsB S ++ zerB n))))
    rw [cntB_len] at this
    simp only [List.length_append, rowB_len, b2] at this
    rw [← this, hxx]
    simp only [List.append_assoc]
  have hE : shortE (rowB 3 1 ++ sgB S) 12 = 0 := by
    unfold shortE mayD
    rw [q1, q2, q3, q4, hlen, if_neg (by omega), show 2 * n / 2 = n by omega, if_pos ⟨rfl, by omega, ⟨by omega, by omega, by omega⟩, rfl, Nat.le_refl _⟩, if_neg (by omega)]
  have hP : prt (rowB 3 1 ++ sgB S) 12 = sgB S := by
    unfold prt piece
    rw [q2, show (12 : Nat) = (rowB 3 1).length from (rowB_len 3 1).symm, List.drop_left, List.take_of_length_le (by rw [hsl]; exact Nat.le_refl _)]
  have hN : nSeg (rowB 3 1 ++ sgB S) 12 = n := by unfold nSeg; rw [q3]; omega
  have q0 : n2 (sgB S) (14 + 2 * n) = 0 := n2_at (x := shB n ++ tosB S) (n := 0) (z := frsB S ++ (dlsB S ++ zerB n)) (by rw [sgB_eq, ← hn]; simp only [List.append_assoc]) (by rw [List.length_append, shB_len, tosB_len, hn]) (by decide)
  unfold shortS
  rw [if_pos hE, hP, hN, if_pos q0]
  -- the last segment tells of no pair
  obtain ⟨g1, g2, g3, g4⟩ := seg_made hfS (i := (runs L L.length).length) (by omega)
  obtain ⟨a1, a2, a3⟩ := at_last (runs L L.length) lastR
  rw [← hS] at a1 a2 a3
  rw [a2] at g1
  rw [a1] at g2
  rw [a1, a2, a3] at g3
  rw [← hn] at g2 g3 g4
  have d0 : lastR.1.toNat = 65535 ∧ lastR.2.1.toNat = 65535 ∧ dlt (lastR.1, lastR.2.1, lastR.2.2) = 1 := by decide
  rw [d0.2.1] at g1
  rw [d0.1] at g2
  rw [d0.2.2] at g3
  have hah : ahS (sgB S) (runs L L.length).length < 65535 := by
    rcases Nat.eq_zero_or_pos (runs L L.length).length with h0 | h0
    · rw [h0]; show (-1 : Int) < _; decide
    · obtain ⟨i, hi⟩ : ∃ i, (runs L L.length).length = i + 1 := ⟨(runs L L.length).length - 1, by omega⟩
      rw [hi]
      show (sT (sgB S) i : Int) < _
      rw [(seg_made hfS (i := i) (by omega)).1]
      have e2 := (at_left (R := runs L L.length) (r := lastR) (i := i) (by omega)).2.1
      rw [← hS] at e2
      rw [e2]
      obtain ⟨_, ⟨j, hj, hjt⟩, _⟩ := runs_in L L.length i (by omega)
      have := rise_all hM hj
      rw [hjt]
      rcases hx with hx | hx <;> omega
  have hstep : segs 1024 (sgB S) n ((runs L L.length).length + 1) = (0, L) := by
    simp only [segs]
    rw [stick_ok hg, g1, g2, g3, g4, if_neg (by omega)]
    have e1 : 65535 + 1 - 65535 = 0 + 1 := rfl
    rw [e1, codes_next (k := 0) rfl]
    have e3 : gly (sgB S) 65535 1 0 (sAt n (runs L L.length).length) (65535 + 0) = (0, 0) := by unfold gly; rw [if_pos rfl]; rfl
    rw [e3, if_pos rfl]
    unfold addE
    rw [if_neg (by decide), if_pos rfl]
  rw [← hnR] at hstep
  exact hstep
theorem mk_back {L : List (Int × Int)} {long : Bool} (h : okMk L long) : parS 1024 (mkB L long) = (0, L) := by
  obtain ⟨hM, hx⟩ := h
  cases long
  · exact short_back hM (hx.resolve_left (by decide))
  · exact long_back hM
end Go.Proofs.Ytbmpdpajnmjfpaa
