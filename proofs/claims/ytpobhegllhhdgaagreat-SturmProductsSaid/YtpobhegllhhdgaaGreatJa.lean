/- Proved here: plain facts on a polynomial's chain and on changes of signs. No condition but those that stand at each. -/
import Derived.Test.YtpobhegllhhdgaaGreatPa
namespace Go.Proofs.YtpobhegllhhdgaaGreat

/-- 1 below 0. -/
def tw (x : Int) : Nat := if x < 0 then 1 else 0
theorem tw_le (x : Int) : tw x ≤ 1 := by unfold tw; split <;> omega
/-- How often a sign is unlike the one ahead, without those that are 0; a is the one ahead. -/
def chg : Int → List Int → Nat
  | _, [] => 0
  | a, s :: ss => tw (s * a) + chg (if s = 0 then a else s) ss
theorem chg_le : ∀ (a : Int) (L : List Int), chg a L ≤ L.length
  | _, [] => Nat.le_refl _
  | a, s :: ss => by
    have := chg_le (if s = 0 then a else s) ss
    have := tw_le (s * a)
    simp only [chg, List.length_cons]
    omega
/-- The last sign that isn't 0. -/
def lastS (a : Int) (L : List Int) : Int := L.foldl (fun a s => if s = 0 then a else s) a
theorem lastS_snoc (a s : Int) (L : List Int) : lastS a (L ++ [s]) = if s = 0 then lastS a L else s := by simp [lastS]
theorem chg_snoc : ∀ (a s : Int) (L : List Int), chg a (L ++ [s]) = chg a L + tw (s * lastS a L)
  | a, s, [] => by simp [chg, lastS]
  | a, s, t :: L => by
    simp only [List.cons_append, chg, chg_snoc _ s L, lastS, List.foldl_cons]
    omega
/-- The rest of a chain: the one ahead, and the last one. -/
def chainF : Nat → List Int → List Int → List (List Int)
  | 0, a, _ => [a]
  | k + 1, a, b => if b.length = 0 then [a] else a :: chainF k b (negP (restP a b))
def chainP (p : List Int) : List (List Int) := chainF (derP p).length p (derP p)
theorem restF_short {q : List Int} (hq : 0 < q.length) : ∀ (k : Nat) (p : List Int), p.length ≤ k → (restF k p q).length < q.length
  | 0, p, h => by simp only [restF]; omega
  | k + 1, p, h => by
    simp only [restF]
    split
    · assumption
    · have := stepR_len p q
      exact restF_short hq k _ (by omega)
theorem restP_short {p q : List Int} (hq : 0 < q.length) : (restP p q).length < q.length := restF_short hq _ p (Nat.le_refl _)
theorem negP_length (L : List Int) : (negP L).length = L.length := by unfold negP; rw [gen_len]
theorem chainF_enough : ∀ (k : Nat) (a b : List Int), b.length ≤ k → chainF k a b = chainF b.length a b
  | 0, a, b, h => by rw [show b.length = 0 by omega]
  | k + 1, a, b, h => by
    rcases hb : b.length with _ | m
    · simp [chainF, hb]
    · have h1 := restP_short (p := a) (q := b) (by omega)
      simp only [chainF, hb]
      rw [if_neg (by omega), if_neg (by omega), chainF_enough k _ _ (by rw [negP_length]; omega), chainF_enough m _ _ (by rw [negP_length]; omega)]
/-- A chain from two polynomials on. -/
def chn (a b : List Int) : List (List Int) := chainF b.length a b
theorem chn_stop {a b : List Int} (h : b.length = 0) : chn a b = [a] := by unfold chn; rw [h]; rfl
theorem chn_step {a b : List Int} (h : 0 < b.length) : chn a b = a :: chn b (negP (restP a b)) := by
  unfold chn
  obtain ⟨m, hm⟩ : ∃ m, b.length = m + 1 := ⟨b.length - 1, by omega⟩
  have h1 := restP_short (p := a) (q := b) h
  rw [hm]
  simp only [chainF]
  rw [if_neg (by omega), chainF_enough m _ _ (by rw [negP_length]; omega)]
theorem chn_len : ∀ (k : Nat) (a b : List Int), b.length ≤ k → (chn a b).length ≤ k + 1
  | 0, a, b, h => by rw [chn_stop (by omega)]; simp
  | k + 1, a, b, h => by
    rcases Nat.eq_zero_or_pos b.length with h0 | h0
    · rw [chn_stop h0]; simp
    · rw [chn_step h0]
      have := chn_len k b (negP (restP a b)) (by have := restP_short (p := a) (q := b) h0; rw [negP_length]; omega)
      simp; omega
theorem sub_nil (L : List Int) (h : Cf L) : subP [] L = negP L := by
  rw [← trz_cf (show Cf (subP [] L) from cf_trz _)]
  have : Cf (negP L) := by
    rcases h with h | h
    · left; rw [h]; rfl
    · right; rw [negP_length, co_negP]; omega
  rw [← trz_cf this]
  exact trz_ext fun i => by rw [co_subP, co_negP, co_nil]; omega
theorem negP_cf {L : List Int} (h : Cf L) : Cf (negP L) := by
  rcases h with h | h
  · left; rw [h]; rfl
  · right; rw [negP_length, co_negP]; omega
theorem stepR_cf (p q : List Int) : Cf (stepR p q) := cf_trz _
theorem restF_cf {q : List Int} : ∀ (k : Nat) (p : List Int), Cf p → Cf (restF k p q)
  | 0, p, h => h
  | k + 1, p, h => by
    simp only [restF]
    split
    · exact h
    · exact restF_cf k _ (stepR_cf p q)
theorem restP_cf {p q : List Int} (h : Cf p) : Cf (restP p q) := restF_cf _ p h
