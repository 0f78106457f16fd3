/- Proved here: a map that tells how often each fraction came: what it holds, how many, and how many of them an odd number of times. Condition: numbers of 64 bits. -/
import Derived.Test.YtpobhegllhhdgaaGreatZc
import Derived.Test.YtpobhegllhhdgaaGreatYB
namespace Go.Proofs.YtpobhegllhhdgaaGreat
open Go.RowKit Go.Maps
attribute [local irreducible] kf

/-- How often a fraction came; once more. -/
def tims (f : Int × Int) : List ((Int × Int) × Nat) → Nat
  | [] => 0
  | e :: l => if e.1 = f then e.2 else tims f l
def bump2 (f : Int × Int) : List ((Int × Int) × Nat) → List ((Int × Int) × Nat)
  | [] => [(f, 1)]
  | e :: l => if e.1 = f then (e.1, e.2 + 1) :: l else e :: bump2 f l
def num64 (n : Nat) : DataW Unit := .lit (.int .i64 (n : Int))
/-- The map holds just these. -/
structure Link (D : DataW Unit) (M : List ((Int × Int) × Nat)) : Prop where
  tidy : Tidy D
  fit : ∀ e ∈ M, Fit e.1.1 ∧ Fit e.1.2
  size : Maps.size D = M.length
  has : ∀ kl, Maps.has D kl = true → ∃ e ∈ M, kl = kf e.1
  val : ∀ e ∈ M, Maps.has D (kf e.1) = true ∧ ∀ z, D.atKey (kf e.1) z = num64 e.2
  apart : M.Pairwise fun e f => e.1 ≠ f.1
theorem Link.start : Link (.map []) [] := ⟨tidy_empty, fun _ h => by simp at h, rfl, fun _ h => by simp [Maps.has] at h, fun _ h => by simp at h, List.Pairwise.nil⟩
theorem tims_not {f : Int × Int} : ∀ {M : List ((Int × Int) × Nat)}, (∀ e ∈ M, e.1 ≠ f) → tims f M = 0 ∧ bump2 f M = M ++ [(f, 1)]
  | [], _ => ⟨rfl, rfl⟩
  | e :: l, h => by
    have ih := tims_not (f := f) (M := l) fun e he => h e (List.mem_cons_of_mem _ he)
    simp only [tims, bump2]
    rw [if_neg (h e (by simp)), if_neg (h e (by simp)), ih.1, ih.2]
    exact ⟨rfl, rfl⟩
theorem bump2_len (f : Int × Int) : ∀ M : List ((Int × Int) × Nat), (bump2 f M).length = if M.any (fun e => decide (e.1 = f)) then M.length else M.length + 1
  | [] => rfl
  | e :: l => by
    simp only [bump2, List.any_cons]
    by_cases h : e.1 = f
    · rw [if_pos h]; simp [h]
    · rw [if_neg h]
      simp only [List.length_cons, h, decide_false, Bool.false_or]
      rw [bump2_len f l]
      split <;> rfl
theorem bump2_mem (f : Int × Int) : ∀ (M : List ((Int × Int) × Nat)), M.Pairwise (fun e g => e.1 ≠ g.1) → ∀ g, g ∈ bump2 f M ↔ (g = (f, tims f M + 1) ∨ (g ∈ M ∧ g.1 ≠ f))
  | [], _, g => by simp [bump2, tims]
  | e :: l, h, g => by
    rw [List.pairwise_cons] at h
    simp only [bump2, tims]
    by_cases he : e.1 = f
    · rw [if_pos he, if_pos he]
      constructor
      · intro hg
        rcases List.mem_cons.mp hg with rfl | hg
        · exact Or.inl (by rw [he])
        · exact Or.inr ⟨List.mem_cons_of_mem _ hg, fun h2 => h.1 g hg (he.trans h2.symm)⟩
      · rintro (rfl | ⟨hg, h2⟩)
        · rw [he]; simp
        · rcases List.mem_cons.mp hg with rfl | hg
          · exact absurd he h2
          · exact List.mem_cons_of_mem _ hg
    · rw [if_neg he, if_neg he, List.mem_cons, bump2_mem f l h.2 g, List.mem_cons]
      constructor
      · rintro (rfl | h1 | ⟨h1, h2⟩)
        · exact Or.inr ⟨Or.inl rfl, he⟩
        · exact Or.inl h1
        · exact Or.inr ⟨Or.inr h1, h2⟩
      · rintro (h1 | ⟨rfl | h1, h2⟩)
        · exact Or.inr (Or.inl h1)
        · exact Or.inl rfl
        · exact Or.inr (Or.inr ⟨h1, h2⟩)
theorem bump2_apart (f : Int × Int) : ∀ (M : List ((Int × Int) × Nat)), M.Pairwise (fun e g => e.1 ≠ g.1) → (bump2 f M).Pairwise (fun e g => e.1 ≠ g.1)
  | [], _ => by simp [bump2]
  | e :: l, h => by
    have h0 := h
    rw [List.pairwise_cons] at h
    simp only [bump2]
    by_cases he : e.1 = f
    · rw [if_pos he, List.pairwise_cons]
      exact ⟨fun g hg => h.1 g hg, h.2⟩
    · rw [if_neg he, List.pairwise_cons]
      refine ⟨fun g hg => ?_, bump2_apart f l h.2⟩
      rcases (bump2_mem f l h.2 g).mp hg with rfl | ⟨h1, _⟩
      · exact he
      · exact h.1 g h1
section
variable {D : DataW Unit} {M : List ((Int × Int) × Nat)}
theorem Link.at (L : Link D M) {f : Int × Int} (h1 : Fit f.1) (h2 : Fit f.2) : D.atKey (kf f) (num64 0) = num64 (tims f M) ∧ (Maps.has D (kf f) = M.any fun e => decide (e.1 = f)) := by
  by_cases h : ∃ e ∈ M, e.1 = f
  · obtain ⟨e, he, rfl⟩ := h
    have hv := L.val e he
    have ht : tims e.1 M = e.2 := by
      have hap := L.apart
      clear hv L
      induction M with
      | nil => simp at he
      | cons a l ih =>
        rw [List.pairwise_cons] at hap
        simp only [tims]
        rcases List.mem_cons.mp he with rfl | he
        · rw [if_pos rfl]
        · rw [if_neg (hap.1 e he), ih he hap.2]
    rw [hv.2, ht, hv.1]
    exact ⟨rfl, (List.any_eq_true.mpr ⟨e, he, by simp⟩).symm⟩
  · have hn : ∀ e ∈ M, e.1 ≠ f := fun e he hf => h ⟨e, he, hf⟩
    have hh : Maps.has D (kf f) = false := by
      rcases hb : Maps.has D (kf f) with _ | _
      · rfl
      · obtain ⟨e, he, hk⟩ := L.has _ hb
        have hf := L.fit e he
        exact absurd (kf_inj h1 h2 hf.1 hf.2 hk).symm (hn e he)
    refine ⟨by rw [atKey_of_not_has hh, (tims_not hn).1], ?_⟩
    rw [hh]
    symm
    rw [List.any_eq_false]
    intro e he
    simp [hn e he]
theorem Link.bump (L : Link D M) {f : Int × Int} (h1 : Fit f.1) (h2 : Fit f.2) : Link (D.put (kf f) (num64 (tims f M + 1))) (bump2 f M) := by
  have hk : WideAt.IsKeyLit (kf f) := lawK.key (kf_is h1 h2)
  have ha := L.at h1 h2
  have hmem := bump2_mem f M L.apart
  refine ⟨L.tidy.put hk _, fun e he => ?_, ?_, fun kl hkl => ?_, fun e he => ?_, bump2_apart f M L.apart⟩
  · rcases (hmem e).mp he with rfl | ⟨h3, _⟩
    · exact ⟨h1, h2⟩
    · exact L.fit e h3
  · rw [size_put L.tidy, ha.2, bump2_len, L.size]
  · by_cases hkf : kl = kf f
    · exact ⟨(f, tims f M + 1), (hmem _).mpr (Or.inl rfl), hkf⟩
    · rw [has_put_other hkf] at hkl
      obtain ⟨e, he, h3⟩ := L.has _ hkl
      refine ⟨e, (hmem _).mpr (Or.inr ⟨he, fun h4 => hkf (by rw [h3, h4])⟩), h3⟩
  · rcases (hmem e).mp he with rfl | ⟨h3, h4⟩
    · exact ⟨has_put_same L.tidy.isMap hk _, fun z => atKey_put_same L.tidy.isMap hk _ _⟩
    · have hf := L.fit e h3
      have hne : kf e.1 ≠ kf f := fun h5 => h4 (kf_inj hf.1 hf.2 h1 h2 h5)
      have hv := L.val e h3
      exact ⟨by rw [has_put_other hne]; exact hv.1, fun z => by rw [atKey_put_other hne]; exact hv.2 z⟩
/-- Of those that are still to come: how many an odd number of times. -/
noncomputable def oddL (left : Lit → Bool) : List ((Int × Int) × Nat) → Nat
  | [] => 0
  | e :: l => (bif left (kf e.1) then e.2 % 2 else 0) + oddL left l
theorem oddL_congr {left left' : Lit → Bool} : ∀ {M : List ((Int × Int) × Nat)}, (∀ e ∈ M, left (kf e.1) = left' (kf e.1)) → oddL left M = oddL left' M
  | [], _ => rfl
  | e :: l, h => by
    simp only [oddL]
    rw [h e (by simp), oddL_congr fun e he => h e (List.mem_cons_of_mem _ he)]
theorem oddL_none {left : Lit → Bool} (h : ∀ kl, left kl = false) : ∀ M : List ((Int × Int) × Nat), oddL left M = 0
  | [] => rfl
  | e :: l => by simp only [oddL]; rw [h, oddL_none h l]; rfl
theorem oddL_le (left : Lit → Bool) : ∀ M : List ((Int × Int) × Nat), oddL left M ≤ M.length
  | [] => Nat.le_refl _
  | e :: l => by
    have := oddL_le left l
    simp only [oddL, List.length_cons]
    cases left (kf e.1) <;> simp only [cond_true, cond_false] <;> omega
theorem oddL_strike {left : Lit → Bool} : ∀ {M : List ((Int × Int) × Nat)}, (∀ e ∈ M, Fit e.1.1 ∧ Fit e.1.2) → M.Pairwise (fun e f => e.1 ≠ f.1) → ∀ e ∈ M, left (kf e.1) = true →
    oddL left M = e.2 % 2 + oddL (fun z => left z && !z.sameKey (kf e.1)) M
  | a :: l, hf, hp, e, he, hl => by
    rw [List.pairwise_cons] at hp
    have hfa := hf a (by simp)
    simp only [oddL]
    rcases List.mem_cons.mp he with rfl | he
    · have hk := WideAt.sameKey_self (lawK.key (kf_is hfa.1 hfa.2))
      have e1 : oddL left l = oddL (fun z => left z && !z.sameKey (kf e.1)) l := oddL_congr fun g hg => by
        have hfg := hf g (List.mem_cons_of_mem _ hg)
        have hne : kf g.1 ≠ kf e.1 := fun h => hp.1 g hg (kf_inj (e := e.1) (f := g.1) hfa.1 hfa.2 hfg.1 hfg.2 h.symm)
        simp only [sameKey_ne hne, Bool.not_false, Bool.and_true]
      rw [e1, hl, hk]
      simp
    · have hfe := hf e (List.mem_cons_of_mem _ he)
      have hne : kf a.1 ≠ kf e.1 := fun h => hp.1 e he (kf_inj (e := a.1) (f := e.1) hfa.1 hfa.2 hfe.1 hfe.2 h)
      rw [oddL_strike (fun g hg => hf g (List.mem_cons_of_mem _ hg)) hp.2 e he hl, sameKey_ne hne]
      simp only [Bool.not_false, Bool.and_true]
      omega
end
/-- The same, with the fractions as numbers. -/
def ratM (M : List ((Int × Int) × Nat)) : List (Rat × Nat) := M.map fun e => (TH.frR e.1, e.2)
theorem frR_inj {e f : Int × Int} (he : Maybe e.1 e.2) (hf : Maybe f.1 f.2) (h : TH.frR e = TH.frR f) : e = f := by
  have h1 := TH.rat_eq (TH.frR_mul he) (TH.frR_mul hf) h
  obtain ⟨d1, g1⟩ := he
  obtain ⟨d2, g2⟩ := hf
  have h2 : e.1.natAbs * f.2.natAbs = f.1.natAbs * e.2.natAbs := by rw [← Int.natAbs_mul, ← Int.natAbs_mul, h1]
  have c1 : Nat.Coprime e.2.natAbs e.1.natAbs := Nat.Coprime.symm g1
  have c2 : Nat.Coprime f.2.natAbs f.1.natAbs := Nat.Coprime.symm g2
  have q1 : e.2.natAbs ∣ f.2.natAbs := c1.dvd_of_dvd_mul_left ⟨f.1.natAbs, by rw [h2, Nat.mul_comm]⟩
  have q2 : f.2.natAbs ∣ e.2.natAbs := c2.dvd_of_dvd_mul_left ⟨e.1.natAbs, by rw [← h2, Nat.mul_comm]⟩
  have q3 : e.2 = f.2 := by have := Nat.dvd_antisymm q1 q2; omega
  rw [← q3] at h1
  have q4 : e.1 = f.1 := Int.eq_of_mul_eq_mul_right (by omega) h1
  exact Prod.ext q4 q3
theorem ratM_bump {f : Int × Int} (hf : Maybe f.1 f.2) : ∀ M : List ((Int × Int) × Nat), (∀ e ∈ M, Maybe e.1.1 e.1.2) → ratM (bump2 f M) = TH.bumpM (TH.frR f) (ratM M)
  | [], _ => rfl
  | e :: l, h => by
    have ih := ratM_bump hf l fun e he => h e (List.mem_cons_of_mem _ he)
    simp only [bump2]
    by_cases he : e.1 = f
    · rw [if_pos he]
      simp only [ratM, List.map_cons, TH.bumpM]
      rw [if_pos (by rw [he])]
    · rw [if_neg he]
      simp only [ratM, List.map_cons, TH.bumpM] at ih ⊢
      rw [if_neg (fun h2 => he (frR_inj (h e (by simp)) hf h2)), ih]
theorem ratM_odd : ∀ M : List ((Int × Int) × Nat), TH.oddN (ratM M) = oddL (fun _ => true) M
  | [] => rfl
  | e :: l => by
    have := ratM_odd l
    simp only [ratM, List.map_cons, TH.oddN, oddL] at this ⊢
    rw [this]
    rfl
end Go.Proofs.YtpobhegllhhdgaaGreat
