/- Proved here (plain): runs stand for the pairs that they were made of; numbers in a text are found where they were written. Condition: pairs that may be. -/
import Derived.Test.YtbmpdpajnmjfpaaWa
namespace Go.Proofs.Ytbmpdpajnmjfpaa

/-- A run's pairs; those of runs. -/
def exr (r : Int × Int × Int) : List (Int × Int) := (List.range (r.2.1 + 1 - r.1).toNat).map fun j : Nat => (r.1 + (j : Int), r.2.2 + (j : Int))
def exs (R : List (Int × Int × Int)) : List (Int × Int) := R.flatMap exr
theorem exr_len (r : Int × Int × Int) : (exr r).length = (r.2.1 + 1 - r.1).toNat := by simp [exr]
theorem exs_snoc (R : List (Int × Int × Int)) (r : Int × Int × Int) : exs (R ++ [r]) = exs R ++ exr r := by simp [exs]
theorem take_one {L : List (Int × Int)} {k : Nat} (h : k < L.length) : L.take (k + 1) = L.take k ++ [(cd L k, gy L k)] := by
  rw [List.take_succ_eq_append_getElem h]
  congr 1
  simp [cd, gy, h]
def okR1 (r : Int × Int × Int) : Prop := 0 ≤ r.1 ∧ r.1 ≤ r.2.1 ∧ r.2.1 ≤ 1114111 ∧ 1 ≤ r.2.2 ∧ r.2.2 + (r.2.1 - r.1) ≤ 1023
structure RI (L : List (Int × Int)) (k : Nat) (R : List (Int × Int × Int)) : Prop where
  ok : ∀ r ∈ R, okR1 r
  rise : R.Pairwise fun a b => a.2.1 < b.1
  ex : exs R = L.take k
  last : ∀ R0 r, R = R0 ++ [r] → r.2.1 = cd L (k - 1) ∧ r.2.2 + (r.2.1 - r.1) = gy L (k - 1)
  top : ∀ r ∈ R, 0 < k ∧ r.2.1 ≤ cd L (k - 1)
theorem stT_snoc (R0 : List (Int × Int × Int)) (r : Int × Int × Int) (x : Int) : stT (R0 ++ [r]) x = R0 ++ [(r.1, x, r.2.2)] := by
  unfold stT
  have h1 : (R0 ++ [r]).length - 1 = R0.length := by simp
  rw [h1]
  have h2 : (R0 ++ [r]).getD R0.length (0, 0, 0) = r := by simp
  unfold rF rG
  rw [h2, List.set_append_right _ _ (Nat.le_refl _)]
  simp
theorem runs_ri {L : List (Int × Int)} (hM : MayP L 1024) : ∀ k, k ≤ L.length → RI L k (runs L k)
  | 0, _ => ⟨fun _ h => by simp [runs] at h, List.Pairwise.nil, by simp [runs, exs], fun R0 r h => by simp [runs] at h, fun _ h => by simp [runs] at h⟩
  | k + 1, hk => by
    have ih := runs_ri hM k (by omega)
    have hok := hM.2.2 k (by omega)
    have hmx := cd_max hM k (by omega)
    obtain ⟨o1, o2, o3, o4⟩ := hok
    simp only [runs]
    by_cases hg : goesOn L k
    · rw [if_pos hg]
      obtain ⟨g1, g2, g3⟩ := hg
      obtain ⟨R0, r, hR⟩ : ∃ R0 r, runs L k = R0 ++ [r] := by
        have hp := runs_pos L k g1
        exact ⟨(runs L k).dropLast, (runs L k).getLast (by intro h; rw [h] at hp; simp at hp), (List.dropLast_concat_getLast _).symm⟩
      rw [hR, stT_snoc]
      obtain ⟨l1, l2⟩ := ih.last R0 r hR
      have hr := ih.ok r (by rw [hR]; simp)
      obtain ⟨r1, r2, r3, r4, r5⟩ := hr
      have hrise := ih.rise
      rw [hR, List.pairwise_append] at hrise
      refine ⟨fun r' h => ?_, ?_, ?_, fun R1 r' h => ?_, fun r' h => ?_⟩
      · rcases List.mem_append.1 h with h | h
        · exact ih.ok r' (by rw [hR]; exact List.mem_append_left _ h)
        · simp at h
          subst h
          show 0 ≤ r.1 ∧ r.1 ≤ cd L k ∧ cd L k ≤ 1114111 ∧ 1 ≤ r.2.2 ∧ r.2.2 + (cd L k - r.1) ≤ 1023
          omega
      · rw [List.pairwise_append]
        refine ⟨hrise.1, by simp, fun a ha b hb => ?_⟩
        simp at hb
        subst hb
        exact hrise.2.2 a ha r (by simp)
      · have hex := ih.ex
        rw [hR, exs_snoc] at hex
        rw [exs_snoc, take_one (by omega), ← hex, List.append_assoc]
        congr 1
        obtain ⟨m, hm⟩ : ∃ m : Nat, (r.2.1 + 1 - r.1).toNat = m := ⟨_, rfl⟩
        have hm2 : (cd L k + 1 - r.1).toNat = m + 1 := by omega
        unfold exr
        simp only
        rw [hm2, hm, List.range_succ, List.map_append]
        simp only [List.map_cons, List.map_nil]
        congr 2
        have e1 : r.1 + (m : Int) = cd L k := by omega
        have e2 : r.2.2 + (m : Int) = gy L k := by omega
        rw [e1, e2]
      · have := List.append_inj' h rfl
        have h2 := this.2
        simp at h2
        subst h2
        simp only [Nat.add_sub_cancel]
        exact ⟨trivial, by omega⟩
      · rcases List.mem_append.1 h with h | h
        · have := ih.top r' (by rw [hR]; exact List.mem_append_left _ h)
          simp only [Nat.add_sub_cancel]
          omega
        · simp at h
          subst h
          simp
    · rw [if_neg hg]
      refine ⟨fun r' h => ?_, ?_, ?_, fun R1 r' h => ?_, fun r' h => ?_⟩
      · rcases List.mem_append.1 h with h | h
        · exact ih.ok r' h
        · simp at h
          subst h
          show 0 ≤ cd L k ∧ cd L k ≤ cd L k ∧ cd L k ≤ 1114111 ∧ 1 ≤ gy L k ∧ gy L k + (cd L k - cd L k) ≤ 1023
          omega
      · rw [List.pairwise_append]
        refine ⟨ih.rise, by simp, fun a ha b hb => ?_⟩
        simp at hb
        subst hb
        have h2 := ih.top a ha
        show a.2.1 < cd L k
        obtain ⟨q, hq⟩ : ∃ q, k = q + 1 := ⟨k - 1, by omega⟩
        subst hq
        have o1' : cd L q < cd L (q + 1) := o1
        have h3 : a.2.1 ≤ cd L q := h2.2
        omega
      · rw [exs_snoc, ih.ex, take_one (by omega)]
        congr 1
        unfold exr
        simp only
        rw [show (cd L k + 1 - cd L k).toNat = 1 by omega]
        simp
      · have := List.append_inj' h rfl
        have h2 := this.2
        simp at h2
        subst h2
        simp only [Nat.add_sub_cancel]
        exact ⟨trivial, by omega⟩
      · simp only [Nat.add_sub_cancel]
        rcases List.mem_append.1 h with h | h
        · have h2 := ih.top r' h
          obtain ⟨q, hq⟩ : ∃ q, k = q + 1 := ⟨k - 1, by omega⟩
          subst hq
          have o1' : cd L q < cd L (q + 1) := o1
          have h3 : r'.2.1 ≤ cd L q := h2.2
          omega
        · simp at h
          subst h
          simp
/-- Numbers where they were written. -/
theorem piece_app (x y z : List UInt8) : piece (x ++ (y ++ z)) x.length y.length = y := by
  unfold piece
  rw [List.drop_left, List.take_left]
theorem n2_at {l x z : List UInt8} {n a : Nat} (h : l = x ++ (byt 2 n ++ z)) (ha : a = x.length) (hn : n < 65536) : n2 l a = n := by
  subst h ha
  unfold n2
  have := piece_app x (byt 2 n) z
  rw [byt_len] at this
  rw [this]
  exact byt_bv 2 n hn
theorem n4_at {l x z : List UInt8} {n a : Nat} (h : l = x ++ (byt 4 n ++ z)) (ha : a = x.length) (hn : n < 4294967296) : n4 l a = n := by
  subst h ha
  unfold n4
  have := piece_app x (byt 4 n) z
  rw [byt_len] at this
  rw [this]
  exact byt_bv 4 n hn
end Go.Proofs.Ytbmpdpajnmjfpaa
