/- Proved here: what Count, Negative and At answer of the law's product. Condition: up to 6 fractions of its kind. -/
import Derived.Test.YtpobhegllhhdgaaGreatZd
namespace Go.Proofs.YtpobhegllhhdgaaGreat

/-- How often each fraction came. -/
def stM2 : List (Int × Int) → List ((Int × Int) × Nat) → List ((Int × Int) × Nat)
  | [], M => M
  | e :: l, M => stM2 l (bump2 e M)
theorem stM2_snoc (e : Int × Int) : ∀ l M, stM2 (l ++ [e]) M = bump2 e (stM2 l M)
  | [], _ => rfl
  | _ :: l, _ => stM2_snoc e l _
theorem bump2_may (f : Int × Int) (hf : Maybe f.1 f.2) : ∀ (M : List ((Int × Int) × Nat)), (∀ e ∈ M, Maybe e.1.1 e.1.2) → ∀ e ∈ bump2 f M, Maybe e.1.1 e.1.2
  | [], _, e, h => by simp only [bump2, List.mem_singleton] at h; subst h; exact hf
  | a :: l, h0, e, h => by
    simp only [bump2] at h
    split at h
    · rcases List.mem_cons.mp h with rfl | h
      · exact h0 a (by simp)
      · exact h0 e (List.mem_cons_of_mem _ h)
    · rcases List.mem_cons.mp h with rfl | h
      · exact h0 _ (by simp)
      · exact bump2_may f hf l (fun g hg => h0 g (List.mem_cons_of_mem _ hg)) e h
theorem ratM_st : ∀ (l : List (Int × Int)) (M : List ((Int × Int) × Nat)), (∀ e ∈ l, Maybe e.1 e.2) → (∀ e ∈ M, Maybe e.1.1 e.1.2) → ratM (stM2 l M) = TH.stM l (ratM M)
  | [], _, _, _ => rfl
  | f :: l, M, h, hM => by
    simp only [stM2, TH.stM]
    have hf := h f (by simp)
    rw [ratM_st l (bump2 f M) (fun e he => h e (List.mem_cons_of_mem _ he)) (bump2_may f hf M hM), ratM_bump hf M hM]
theorem off7 {u xn : Int} (hx : xn = 7 * u + 1) (hm : Maybe xn 7) {e : Int × Int} (he : TH.SmF e) : TH.frR (xn, 7) ≠ TH.frR e := by
  intro h
  have h1 := TH.rat_eq (TH.frR_mul (e := (xn, 7)) hm) (TH.frR_mul he.1) h
  obtain ⟨_, _, _, s3, s4⟩ := he
  have h2 : (7 * u + 1) * e.2 = 7 * (u * e.2) + e.2 := by grind
  have h3 : xn * e.2 = e.1 * 7 := h1
  rw [hx, h2] at h3
  omega
theorem law_answers (fs : List (Int × Int)) (hall : ∀ e ∈ fs, TH.SmF e) (h6 : fs.length ≤ 6) :
    pl (TH.stP fs [1]) = fs.length + 1 ∧ (TH.stP fs [1]).length = fs.length + 1 ∧ fitP (TH.stP fs [1]) = 0 ∧ cntZ (-100) 1 100 1 (chL (TH.stP fs [1])) = (stM2 fs []).length ∧
      negB (-100) 1 100 1 (TH.stP fs [1]) = decide (0 < oddL (fun _ => true) (stM2 fs [])) := by
  obtain ⟨K, hK⟩ := TH.prd_all fs fs.length (Nat.le_refl _) hall
  rw [List.take_length] at hK
  have hc := hK.cf
  have hl := hK.len
  have hpl : pl (TH.stP fs [1]) = fs.length + 1 := by rw [pl_cf hc, hl]
  have hm1 : Maybe (-100) 1 := by decide
  have hm2 : Maybe 100 1 := by decide
  have P : TH.PrdM (trz (TH.stP fs [1])) K (TH.stM fs []) := by rw [trz_cf hc]; exact hK.prd
  have hin : ∀ e ∈ TH.stM fs [], TH.frR (-100, 1) < e.1 ∧ e.1 < TH.frR (100, 1) := fun e he => by
    obtain ⟨f, hf, h1⟩ := hK.of e he
    obtain ⟨g0, g1, g2, g3, g4⟩ := hall f hf
    rw [← h1]
    constructor
    · exact (TH.rat_lt (by decide) g0.1 (TH.frR_mul (e := (-100, 1)) hm1) (TH.frR_mul g0)).mpr (by show -100 * f.2 < f.1 * 1; omega)
    · exact (TH.rat_lt g0.1 (by decide) (TH.frR_mul g0) (TH.frR_mul (e := (100, 1)) hm2)).mpr (by show f.1 * 1 < 100 * f.2; omega)
  have hab : TH.frR (-100, 1) < TH.frR (100, 1) := by decide +kernel
  have ha := P.answers (by omega) (by omega) hm1 hm2 (TH.frR_mul (e := (-100, 1)) hm1) (TH.frR_mul (e := (100, 1)) hm2) hab hin
  have hr := ratM_st fs [] (fun e he => (hall e he).1) (fun _ h => by simp at h)
  have hr2 : TH.stM fs [] = ratM (stM2 fs []) := hr.symm
  rw [hr2] at ha
  refine ⟨hpl, hl, TH.fit_cf hc (by omega) (by omega), ?_, ?_⟩
  · rw [ha.1]; unfold ratM; rw [List.length_map]
  · rw [ha.2, ratM_odd]
theorem law_sign (fs : List (Int × Int)) (hall : ∀ e ∈ fs, TH.SmF e) {u xn : Int} (hx : xn = 7 * u + 1) (hm : Maybe xn 7) :
    hor xn 7 (trz (TH.stP fs [1])) < 0 ↔ TH.ahF (TH.frR (xn, 7)) fs % 2 = 1 := by
  obtain ⟨K, hK⟩ := TH.prd_all fs fs.length (Nat.le_refl _) hall
  rw [List.take_length] at hK
  rw [trz_cf hK.cf]
  have h1 := TH.sgn_hor (n := xn) (d := 7) (by decide) (TH.frR_mul (e := (xn, 7)) hm) (TH.stP fs [1])
  have hoff : TH.offM (TH.frR (xn, 7)) (TH.stM fs []) := fun e he => by
    obtain ⟨f, hf, h2⟩ := hK.of e he
    rw [← h2]
    exact off7 hx hm (hall f hf)
  have h2 := TH.sg_ahead _ hoff
  rw [hK.prd.sg, h2, TH.ah_stM] at h1
  have h3 : TH.ahN (TH.frR (xn, 7)) [] = 0 := rfl
  rw [h3, Nat.zero_add] at h1
  unfold TH.par at h1
  unfold sgn cmpI at h1
  rcases Nat.mod_two_eq_zero_or_one (TH.ahF (TH.frR (xn, 7)) fs) with h4 | h4
  · rw [h4, if_pos rfl] at h1
    split at h1
    · omega
    · omega
  · rw [h4, if_neg (show ¬ (1 = 0) by decide)] at h1
    split at h1
    · omega
    · split at h1 <;> omega
end Go.Proofs.YtpobhegllhhdgaaGreat
