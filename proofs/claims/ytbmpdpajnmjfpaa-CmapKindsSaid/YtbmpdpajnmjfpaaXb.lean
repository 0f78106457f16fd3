/- Proved here (plain): what is made of pairs, with a part of 12, is parsed to the pairs. Condition: pairs that may be. -/
import Derived.Test.YtbmpdpajnmjfpaaXa
namespace Go.Proofs.Ytbmpdpajnmjfpaa

/-- Code points one behind the other, each with a glyph that may be. -/
theorem codes_all {f : Nat → Int × Int} {x : Nat} {z : Int} {ps : List (Int × Int)} : ∀ m, (∀ j, j < m → f (x + j) = (z + (j : Int), 0) ∧ 1 ≤ z + (j : Int) ∧ z + (j : Int) < 1024) → ps.length + m ≤ 4096 →
    codes 1024 f x m (0, ps) = (0, ps ++ (List.range m).map fun j : Nat => ((x : Int) + (j : Int), z + (j : Int)))
  | 0, _, _ => by simp [codes]
  | m + 1, h, hl => by
    have ih := codes_all (f := f) (x := x) (z := z) (ps := ps) m (fun j hj => h j (by omega)) (by omega)
    obtain ⟨h1, h2, h3⟩ := h m (by omega)
    rw [codes_next ih, h1, if_pos rfl]
    unfold addE
    rw [if_neg (by simp only; omega), if_neg (by simp only; omega), if_neg (by simp; omega)]
    rw [List.range_succ, List.map_append]
    simp
theorem at_split {α : Type} [Inhabited α] (R : List α) (i : Nat) (h : i < R.length) : R = R.take i ++ (R[i] :: R.drop (i + 1)) := by
  rw [List.getElem_cons_drop, List.take_append_drop]
/-- The rows of what is made. -/
theorem rows_made (p e : Nat) (P : List UInt8) (hp : p < 65536) (he : e < 65536) : rowsE (rowB p e ++ P) = 0 ∧ nR (rowB p e ++ P) = 1 ∧ n2 (rowB p e ++ P) 4 = p ∧ n2 (rowB p e ++ P) 6 = e ∧ n4 (rowB p e ++ P) 8 = 12 := by
  have b2 : ∀ n, (byt 2 n).length = 2 := fun n => byt_len 2 n
  have q0 : n2 (rowB p e ++ P) 0 = 0 := n2_at (x := []) (n := 0) (z := byt 2 1 ++ (byt 2 p ++ (byt 2 e ++ (byt 4 12 ++ P)))) (by unfold rowB; simp only [List.append_assoc, List.nil_append]) rfl (by decide)
  have q1 : n2 (rowB p e ++ P) 2 = 1 := n2_at (x := byt 2 0) (n := 1) (z := byt 2 p ++ (byt 2 e ++ (byt 4 12 ++ P))) (by unfold rowB; simp only [List.append_assoc]) (by rw [b2]) (by decide)
  have q2 : n2 (rowB p e ++ P) 4 = p := n2_at (x := byt 2 0 ++ byt 2 1) (n := p) (z := byt 2 e ++ (byt 4 12 ++ P)) (by unfold rowB; simp only [List.append_assoc]) (by rw [List.length_append, b2, b2]) hp
  have q3 : n2 (rowB p e ++ P) 6 = e := n2_at (x := byt 2 0 ++ byt 2 1 ++ byt 2 p) (n := e) (z := byt 4 12 ++ P) (by unfold rowB; simp only [List.append_assoc]) (by simp only [List.length_append, b2]) he
  have q4 : n4 (rowB p e ++ P) 8 = 12 := n4_at (x := byt 2 0 ++ byt 2 1 ++ byt 2 p ++ byt 2 e) (n := 12) (z := P) (by unfold rowB; simp only [List.append_assoc]) (by simp only [List.length_append, b2]) (by decide)
  have hl : (rowB p e ++ P).length = 12 + P.length := by rw [List.length_append, rowB_len]
  refine ⟨?_, q1, q2, q3, q4⟩
  unfold rowsE
  rw [q0, q1, hl, if_neg (by omega), if_neg (by omega), if_pos rfl]
theorem fr_one {l : List UInt8} {p e : Nat} : fr l p e 1 = if n2 l 4 = p ∧ n2 l 6 = e then some (n4 l 8) else none := fr_none (k := 0) rfl
/-- The numbers of group i. -/
theorem group_made {R : List (Int × Int × Int)} {X : List UInt8} (hX : X.length = 28) {i : Nat} (hi : i < R.length) (hf : fits32 R) :
    gF (X ++ grsB R) 28 i = (rF R i).toNat ∧ gT (X ++ grsB R) 28 i = (rT R i).toNat ∧ gG (X ++ grsB R) 28 i = (rG R i).toNat := by
  obtain ⟨f1, f2, f3⟩ := hf i hi
  have hs := at_split R i hi
  have hr : R[i] = (rF R i, rT R i, rG R i) := by simp [rF, rT, rG, hi]
  have e0 : grsB R = grsB (R.take i) ++ (byt 4 (rF R i).toNat ++ (byt 4 (rT R i).toNat ++ (byt 4 (rG R i).toNat ++ grsB (R.drop (i + 1))))) := by
    have h1 := congrArg grsB hs
    rw [hr] at h1
    unfold grsB at h1 ⊢
    rw [List.flatMap_append, List.flatMap_cons] at h1
    unfold grB at h1 ⊢
    simpa only [List.append_assoc] using h1
  have hl : (grsB (R.take i)).length = 12 * i := by rw [grsB_len, List.length_take]; omega
  have b4 : ∀ n, (byt 4 n).length = 4 := fun n => byt_len 4 n
  refine ⟨n4_at (x := X ++ grsB (R.take i)) (by rw [e0]; simp only [List.append_assoc]; rfl) (by rw [List.length_append, hX, hl]) (by omega), n4_at (x := X ++ grsB (R.take i) ++ byt 4 (rF R i).toNat) (by rw [e0]; simp only [List.append_assoc]; rfl) (by simp only [List.length_append, hX, hl, b4]) (by omega), n4_at (x := X ++ grsB (R.take i) ++ byt 4 (rF R i).toNat ++ byt 4 (rT R i).toNat) (by rw [e0]; simp only [List.append_assoc]; rfl) (by simp only [List.length_append, hX, hl, b4]) (by omega)⟩
theorem okR_at {L : List (Int × Int)} {k : Nat} {R : List (Int × Int × Int)} (h : RI L k R) {i : Nat} (hi : i < R.length) : 0 ≤ rF R i ∧ rF R i ≤ rT R i ∧ rT R i ≤ 1114111 ∧ 1 ≤ rG R i ∧ rG R i + (rT R i - rF R i) ≤ 1023 := h.ok _ (at_mem hi)
theorem rise_at {L : List (Int × Int)} {k : Nat} {R : List (Int × Int × Int)} (h : RI L k R) {i : Nat} (hi : i + 1 < R.length) : rT R i < rF R (i + 1) := by
  have h1 := List.pairwise_iff_getElem.1 h.rise i (i + 1) (by omega) hi (by omega)
  have e1 : R[i] = (rF R i, rT R i, rG R i) := by simp [rF, rT, rG, show i < R.length by omega]
  have e2 : R[i + 1] = (rF R (i + 1), rT R (i + 1), rG R (i + 1)) := by simp [rF, rT, rG, hi]
  rw [e1, e2] at h1
  exact h1
theorem exs_take {R : List (Int × Int × Int)} {k : Nat} (h : k < R.length) : exs (R.take (k + 1)) = exs (R.take k) ++ exr (rF R k, rT R k, rG R k) := by rw [take_snoc h, exs_snoc]
theorem exs_le {L : List (Int × Int)} {k : Nat} {R : List (Int × Int × Int)} (h : RI L k R) (i : Nat) : (exs (R.take i)).length ≤ L.length := by
  have h1 : exs R = exs (R.take i) ++ exs (R.drop i) := by unfold exs; rw [← List.flatMap_append, List.take_append_drop]
  have h2 := congrArg List.length h.ex
  rw [h1, List.length_append, List.length_take] at h2
  omega
theorem grps_made {L : List (Int × Int)} (hM : MayP L 1024) {X : List UInt8} (hX : X.length = 28) : ∀ i, i ≤ (runs L L.length).length → grps 1024 (X ++ grsB (runs L L.length)) 28 i = (0, exs ((runs L L.length).take i))
  | 0, _ => by simp [grps, exs]
  | i + 1, hi => by
    have hR := runs_ri hM L.length (Nat.le_refl _)
    have hf := runs_fits32 hM
    have ih := grps_made hM hX i (by omega)
    have hle := exs_le hR (i + 1)
    have hmx := hM.2.1
    have hext := exs_take (R := runs L L.length) (k := i) (by omega)
    have hrise := fun (j : Nat) (hj : j + 1 < (runs L L.length).length) => rise_at hR hj
    have hok := okR_at hR (i := i) (by omega)
    obtain ⟨g1, g2, g3⟩ := group_made hX (i := i) (by omega) hf
    have hgp := fun (j : Nat) (hj : j < (runs L L.length).length) => group_made hX hj hf
    have hah : ahT (X ++ grsB (runs L L.length)) 28 i < rF (runs L L.length) i := by
      cases i with
      | zero => show (-1 : Int) < _; omega
      | succ i =>
        show (gT (X ++ grsB (runs L L.length)) 28 i : Int) < _
        rw [(hgp i (by omega)).2.1]
        have := hrise i (by omega)
        have := okR_at hR (i := i) (by omega)
        omega
    have hlen := congrArg List.length hext
    rw [List.length_append, exr_len] at hlen
    simp only at hlen
    simp only [grps]
    rw [stick_ok ih, g1, g2, g3]
    have hnn : ((rF (runs L L.length) i).toNat : Int) = rF (runs L L.length) i := by omega
    rw [if_neg (by omega)]
    have hc := codes_all (f := fun c : Nat => (((rG (runs L L.length) i).toNat : Int) + (c : Int) - ((rF (runs L L.length) i).toNat : Int), 0)) (x := (rF (runs L L.length) i).toNat) (z := rG (runs L L.length) i) (ps := exs ((runs L L.length).take i)) ((rT (runs L L.length) i).toNat + 1 - (rF (runs L L.length) i).toNat) (fun j hj => ⟨Prod.ext (by show ((rG (runs L L.length) i).toNat : Int) + (((rF (runs L L.length) i).toNat + j : Nat) : Int) - ((rF (runs L L.length) i).toNat : Int) = rG (runs L L.length) i + (j : Int); omega) rfl, by omega, by omega⟩) (by omega)
    rw [hc, hext]
    congr 2
    unfold exr
    simp only
    rw [show (rT (runs L L.length) i).toNat + 1 - (rF (runs L L.length) i).toNat = (rT (runs L L.length) i + 1 - rF (runs L L.length) i).toNat by omega, hnn]
theorem long_back {L : List (Int × Int)} (hM : MayP L 1024) : parS 1024 (mkB L true) = (0, L) := by
  obtain ⟨h1, h2, h3, h4, h5⟩ := rows_made 3 10 (lnB (runs L L.length)) (by decide) (by decide)
  have hR := runs_ri hM L.length (Nat.le_refl _)
  have hRl := runs_len_le L L.length
  have hmx := hM.2.1
  have hB : mkB L true = rowB 3 10 ++ lnB (runs L L.length) := rfl
  rw [hB]
  have hX : (rowB 3 10 ++ hdB (runs L L.length).length).length = 28 := by rw [List.length_append, rowB_len, hdB_len]
  have hl : rowB 3 10 ++ lnB (runs L L.length) = rowB 3 10 ++ hdB (runs L L.length).length ++ grsB (runs L L.length) := by unfold lnB; rw [List.append_assoc]
  have hlen : (rowB 3 10 ++ lnB (runs L L.length)).length = 12 + (16 + 12 * (runs L L.length).length) := by rw [List.length_append, rowB_len, lnB_len]
  have hg := grps_made hM hX (runs L L.length).length (Nat.le_refl _)
  rw [← hl, List.take_length, hR.ex, List.take_length] at hg
  unfold parS
  rw [if_pos (by decide), if_pos h1, part_long (a := 12) (by
    unfold fst2
    rw [h2, fr_one, h3, h4, h5]
    rfl)]
  obtain ⟨n, hn⟩ : ∃ n, n = (runs L L.length).length := ⟨_, rfl⟩
  have b4 : ∀ n, (byt 4 n).length = 4 := fun n => byt_len 4 n
  have hx : rowB 3 10 ++ lnB (runs L L.length) = rowB 3 10 ++ (byt 4 786432 ++ (byt 4 (16 + 12 * n) ++ (byt 4 0 ++ (byt 4 n ++ grsB (runs L L.length))))) := by unfold lnB hdB; rw [← hn]; simp only [List.append_assoc]
  have q1 : n4 (rowB 3 10 ++ lnB (runs L L.length)) 12 = 786432 := n4_at hx (by rw [rowB_len]) (by decide)
  have q2 : n4 (rowB 3 10 ++ lnB (runs L L.length)) (12 + 4) = 16 + 12 * n := n4_at (x := rowB 3 10 ++ byt 4 786432) (by rw [hx]; simp only [List.append_assoc]; rfl) (by rw [List.length_append, rowB_len, b4]) (by omega)
  have q3 : n4 (rowB 3 10 ++ lnB (runs L L.length)) (12 + 12) = n := n4_at (x := rowB 3 10 ++ byt 4 786432 ++ byt 4 (16 + 12 * n) ++ byt 4 0) (by rw [hx]; simp only [List.append_assoc]; rfl) (by simp only [List.length_append, rowB_len, b4]) (by omega)
  unfold longS
  have hE : longE (rowB 3 10 ++ lnB (runs L L.length)) 12 = 0 := by
    unfold longE
    rw [q1, q2, q3, hlen, if_neg (by omega), if_pos ⟨rfl, rfl⟩, if_neg (by omega)]
  rw [if_pos hE, q3, hn]
  exact hg
end Go.Proofs.Ytbmpdpajnmjfpaa
