/- Proved here (plain): what is made is parsed to itself. No condition. -/
import Derived.Test.YtcpphbogadjgfaaVa
namespace Go.Proofs.Ytcpphbogadjgfaa
open Go.RowKit

/-- The flags, as numbers. -/
def flI : Int → Int → List Pt → List Int
  | _, _, [] => []
  | a, b, p :: r => (flg (p.1 - a) (p.2.1 - b) p.2.2 : Int) :: flI p.1 p.2.1 r
theorem flI_len : ∀ (P : List Pt) (a b : Int), (flI a b P).length = P.length
  | [], _, _ => rfl
  | p :: r, a, b => by simp only [flI, List.length_cons, flI_len r]
theorem flgs_back (l : List UInt8) (N : Nat) : ∀ (P : List Pt) (a b : Int) (acc : List Int) (k : Nat), acc.length + P.length = N → Ats l k (encF a b P) → flgs l N acc k = (0, acc ++ flI a b P, k + P.length)
  | [], a, b, acc, k, hl, _ => by
    rw [flgs_end (by simp at hl; omega)]
    simp [flI]
  | p :: r, a, b, acc, k, hl, ha => by
    simp only [List.length_cons] at hl
    have hf := flg_lt (p.1 - a) (p.2.1 - b) p.2.2
    obtain ⟨h1, h2, h3⟩ := Ats.cons ha
    rw [UInt8.toNat_ofNat', Nat.mod_eq_of_lt (by omega)] at h1
    have hb := (flg_bits _ _ _ (stF_16 (p.1 - a)) (stF_32 (p.2.1 - b)) (b_of p.2.2)).2.1
    have hb : flg (p.1 - a) (p.2.1 - b) p.2.2 / 8 % 2 = 0 := hb
    rw [flgs_one (by omega) (by omega) (by rw [h1]; omega) (by rw [h1, hb]; decide), h1]
    have e : acc ++ List.replicate 1 (flg (p.1 - a) (p.2.1 - b) p.2.2 : Int) = acc ++ [(flg (p.1 - a) (p.2.1 - b) p.2.2 : Int)] := rfl
    rw [e, flgs_back l N r p.1 p.2.1 _ (k + 1) (by simp; omega) h3]
    simp only [flI, List.append_assoc, List.singleton_append, List.length_cons]
    rw [show k + 1 + r.length = k + (r.length + 1) by omega]
theorem unts_backx (l : List UInt8) : ∀ (P : List Pt) (a b : Int) (acc : List Int) (k : Nat), okSt a b P → (∀ p ∈ P, okU p.1) → Ats l k (encX a P) → k ≤ l.length → unts l 2 16 (flI a b P) acc k a = (0, acc ++ P.map fx, k + (encX a P).length)
  | [], a, b, acc, k, _, _, _, _ => by simp [flI, unts, encX]
  | p :: r, a, b, acc, k, hs, hu, ha, hk => by
    obtain ⟨⟨hs1, _⟩, hs3⟩ := hs
    obtain ⟨ha1, ha2⟩ := Ats.app (x := stB (p.1 - a)) (y := encX p.1 r) ha
    obtain ⟨w1, w2, w3⟩ := x_back (dy := p.2.1 - b) (o := p.2.2) ha1 hs1
    simp only [flI, unts]
    have hwl : k + wid (flg (p.1 - a) (p.2.1 - b) p.2.2 : Int) 2 16 ≤ l.length := by
      rcases Nat.eq_zero_or_pos (wid (flg (p.1 - a) (p.2.1 - b) p.2.2 : Int) 2 16) with h | h
      · omega
      · exact w3 h
    rw [if_neg (by omega), w2, show a + (p.1 - a) = p.1 by omega, if_pos (hu p (by simp)), w1]
    rw [w1] at hwl
    rw [unts_backx l r p.1 p.2.1 _ _ hs3 (fun q hq => hu q (by simp [hq])) ha2 hwl]
    simp only [List.append_assoc, List.singleton_append, List.map_cons, encX, List.length_append, fx]
    rw [show k + (stB (p.1 - a)).length + (encX p.1 r).length = k + ((stB (p.1 - a)).length + (encX p.1 r).length) by omega]
theorem unts_backy (l : List UInt8) : ∀ (P : List Pt) (a b : Int) (acc : List Int) (k : Nat), okSt a b P → (∀ p ∈ P, okU p.2.1) → Ats l k (encY b P) → k ≤ l.length → unts l 4 32 (flI a b P) acc k b = (0, acc ++ P.map fy, k + (encY b P).length)
  | [], a, b, acc, k, _, _, _, _ => by simp [flI, unts, encY]
  | p :: r, a, b, acc, k, hs, hu, ha, hk => by
    obtain ⟨⟨_, hs1⟩, hs3⟩ := hs
    obtain ⟨ha1, ha2⟩ := Ats.app (x := stB (p.2.1 - b)) (y := encY p.2.1 r) ha
    obtain ⟨w1, w2, w3⟩ := y_back (dx := p.1 - a) (o := p.2.2) ha1 hs1
    simp only [flI, unts]
    have hwl : k + wid (flg (p.1 - a) (p.2.1 - b) p.2.2 : Int) 4 32 ≤ l.length := by
      rcases Nat.eq_zero_or_pos (wid (flg (p.1 - a) (p.2.1 - b) p.2.2 : Int) 4 32) with h | h
      · omega
      · exact w3 h
    rw [if_neg (by omega), w2, show b + (p.2.1 - b) = p.2.1 by omega, if_pos (hu p (by simp)), w1]
    rw [w1] at hwl
    rw [unts_backy l r p.1 p.2.1 _ _ hs3 (fun q hq => hu q (by simp [hq])) ha2 hwl]
    simp only [List.append_assoc, List.singleton_append, List.map_cons, encY, List.length_append, fy]
    rw [show k + (stB (p.2.1 - b)).length + (encY p.2.1 r).length = k + ((stB (p.2.1 - b)).length + (encY p.2.1 r).length) by omega]
theorem flI_odd : ∀ (P : List Pt) (a b : Int) (i : Nat), i < P.length → decide (co (flI a b P) i % 2 = 1) = po P i
  | p :: r, a, b, 0, _ => by
    have hb := (flg_bits _ _ _ (stF_16 (p.1 - a)) (stF_32 (p.2.1 - b)) (b_of p.2.2)).2.2
    have hb : flg (p.1 - a) (p.2.1 - b) p.2.2 % 2 = if p.2.2 then 1 else 0 := hb
    show decide ((flg (p.1 - a) (p.2.1 - b) p.2.2 : Int) % 2 = 1) = p.2.2
    cases ho : p.2.2
    · rw [ho] at hb
      exact decide_eq_false (by simp at hb; omega)
    · rw [ho] at hb
      exact decide_eq_true (by simp at hb; omega)
  | p :: r, a, b, i + 1, h => flI_odd r p.1 p.2.1 i (by simp at h; omega)
theorem pnts_back (P : List Pt) (a b : Int) : pnts (flI a b P) (P.map fx) (P.map fy) P.length = P := by
  apply List.ext_getElem
  · simp [pnts]
  · intro i h1 h2
    have e1 : co (P.map fx) i = px P i := by unfold co px; simp [h2, fx]
    have e2 : co (P.map fy) i = py P i := by unfold co py; simp [h2, fy]
    have e3 := flI_odd P a b i h2
    have e4 : P[i] = (px P i, py P i, po P i) := by unfold px py po; simp [h2]
    simp only [pnts, List.getElem_map, List.getElem_range, pnt]
    rw [e1, e2, e3, e4]
theorem plc_at {l : List UInt8} {LL : List (List Pt)} {k : Nat} : ∀ n, Ats l k (plc LL n) → ∀ i, i < n → Ats l (k + 2 * i) (u2 ((tot LL (i + 1) : Int) - 1))
  | 0, _, i, hi => by omega
  | n + 1, h, i, hi => by
    obtain ⟨h1, h2⟩ := Ats.app (x := plc LL n) h
    rcases Nat.lt_or_ge i n with h3 | h3
    · exact plc_at n h1 i h3
    · rw [plc_len] at h2
      rw [show i = n by omega]
      exact h2
theorem cuts_back {l : List UInt8} {LL : List (List Pt)} (h : ∀ i, i ≤ LL.length → frm l i = tot LL i) : cuts l (preP LL LL.length) LL.length = LL := by
  apply List.ext_getElem
  · simp [cuts]
  · intro i h1 h2
    have e : LL[i] = ct LL i := by unfold ct; simp [h2]
    simp only [cuts, List.getElem_map, List.getElem_range]
    rw [e]
    obtain ⟨Q, hQ⟩ := preP_app LL LL.length (i + 1) h2
    unfold cutAt
    rw [h i (by omega), h (i + 1) h2, hQ]
    simp only [preP, tot]
    rw [← preP_len LL i, List.append_assoc, List.drop_left, Nat.add_sub_cancel_left, List.take_left]
theorem preP_in {LL : List (List Pt)} (h : ∀ i, i < LL.length → ∀ j, j < (ct LL i).length → okP (ct LL i) j) : ∀ n, n ≤ LL.length → ∀ p ∈ preP LL n, okU p.1 ∧ okU p.2.1
  | 0, _, p, hp => by simp [preP] at hp
  | n + 1, hn, p, hp => by
    simp only [preP, List.mem_append] at hp
    rcases hp with hp | hp
    · exact preP_in h n (by omega) p hp
    · obtain ⟨j, hj, rfl⟩ := List.getElem_of_mem hp
      have := h n (by omega) j hj
      unfold okP px py at this
      rw [List.getD_eq_getElem?_getD, List.getElem?_eq_getElem hj] at this
      exact this
/-- What is made is parsed to itself. -/
theorem mk_back {LL : List (List Pt)} (h : mkE LL = 0) : prs (mkB LL) = (0, LL) := by
  unfold mkE at h
  by_cases hM : MayG LL
  · rw [if_pos hM] at h
    by_cases h0 : LL.length = 0
    · have : LL = [] := List.eq_nil_of_length_eq_zero h0
      subst this
      have e : mkB [] = [] := by unfold mkB; rw [if_neg (fun h => h.2.1 rfl)]
      rw [e]
      rfl
    · rw [if_neg h0] at h
      have hk : okSt 0 0 (preP LL LL.length) := by
        by_cases hk : okSt 0 0 (preP LL LL.length)
        · exact hk
        · unfold tpE at h; rw [if_neg hk] at h; exact absurd h (by decide)
      obtain ⟨n, hn⟩ : ∃ n, n = LL.length := ⟨_, rfl⟩
      have hB : mkB LL = u2 (n : Int) ++ (boxB LL n ++ (plc LL n ++ (u2 0 ++ (encF 0 0 (preP LL n) ++ (encX 0 (preP LL n) ++ encY 0 (preP LL n)))))) := by
        unfold mkB tpB
        rw [if_pos ⟨hM, h0, hk⟩, if_pos hk, ← hn]
        simp only [List.append_assoc]
      obtain ⟨l, hl⟩ : ∃ l, l = mkB LL := ⟨_, rfl⟩
      rw [← hl] at hB ⊢
      have hall := hM.2
      have hn2 := hM.1
      rw [← hn] at hall hn2 h0 hk
      have hA : Ats l 0 (u2 (n : Int) ++ (boxB LL n ++ (plc LL n ++ (u2 0 ++ (encF 0 0 (preP LL n) ++ (encX 0 (preP LL n) ++ encY 0 (preP LL n))))))) := ⟨[], by rw [List.drop_zero, List.append_nil]; exact hB⟩
      have hlen := congrArg List.length hB
      simp only [List.length_append, u2_len, boxB_len, plc_len, encF_len, preP_len] at hlen
      obtain ⟨a0, hA⟩ := hA.app
      obtain ⟨_, hA⟩ := hA.app
      obtain ⟨a2, hA⟩ := hA.app
      obtain ⟨a3, hA⟩ := hA.app
      obtain ⟨a4, hA⟩ := hA.app
      obtain ⟨a5, a6⟩ := hA.app
      simp only [u2_len, boxB_len, plc_len, encF_len, preP_len] at a2 a3 a4 a5 a6
      rw [u2_nat n (by omega)] at a0
      obtain ⟨n0, _⟩ := a0.n2 (by omega)
      have hsg : sg16 (n2 l 0) = (n : Int) := by rw [n0]; unfold sg16; rw [if_neg (by omega)]
      have htot : ∀ i, i < n → 1 ≤ tot LL (i + 1) ∧ tot LL (i + 1) ≤ 4096 := fun i hi => by
        obtain ⟨⟨h1, h2⟩, _⟩ := hall i hi
        refine ⟨?_, h2⟩
        simp only [tot]
        omega
      have hpl : ∀ i, i < n → pl l i = tot LL (i + 1) - 1 := fun i hi => by
        obtain ⟨h1, h2⟩ := htot i hi
        have h3 := plc_at n a2 i hi
        rw [show ((tot LL (i + 1) : Int) - 1) = ((tot LL (i + 1) - 1 : Nat) : Int) by omega, u2_nat _ (by omega)] at h3
        have h4 := (h3.n2 (by omega)).1
        unfold pl
        rw [← h4]
      have hfr : ∀ i, i ≤ n → frm l i = tot LL i := fun i hi => by
        cases i with
        | zero => rfl
        | succ i =>
          have h1 := htot i hi
          show pl l i + 1 = tot LL (i + 1)
          rw [hpl i hi]
          omega
      have hri : rise l n := fun i hi => by
        have h1 := htot i hi
        obtain ⟨⟨h3, _⟩, _⟩ := hall i hi
        rw [hfr i (by omega), hpl i hi]
        simp only [tot]
        omega
      have ht4 : tot LL n ≤ 4096 := by
        cases n with
        | zero => omega
        | succ k => exact (htot k (by omega)).2
      have a3' : Ats l (10 + 2 * n) (byt 2 0) := by
        have := a3
        rw [show (0 + 2 + 8 + 2 * n) = 10 + 2 * n by omega] at this
        exact this
      obtain ⟨c0, _⟩ := a3'.n2 (by omega)
      have hin := preP_in (LL := LL) (fun i hi j hj => (hall i (by omega)).2 j hj) n (by omega)
      have hPl := preP_len LL n
      have F1 := flgs_back l (frm l n) (preP LL n) 0 0 [] (10 + 2 * n + 2) (by rw [hfr n (Nat.le_refl _), hPl]; simp) (by rw [show 0 + 2 + 8 + 2 * n + 2 = 10 + 2 * n + 2 by omega] at a4; exact a4)
      rw [List.nil_append, hPl] at F1
      have X1 := unts_backx l (preP LL n) 0 0 [] (10 + 2 * n + 2 + tot LL n) hk (fun p hp => (hin p hp).1) (by rw [show 0 + 2 + 8 + 2 * n + 2 + tot LL n = 10 + 2 * n + 2 + tot LL n by omega] at a5; exact a5) (by omega)
      rw [List.nil_append] at X1
      have Y1 := unts_backy l (preP LL n) 0 0 [] (10 + 2 * n + 2 + tot LL n + (encX 0 (preP LL n)).length) hk (fun p hp => (hin p hp).2) (by rw [show 0 + 2 + 8 + 2 * n + 2 + tot LL n + (encX 0 (preP LL n)).length = 10 + 2 * n + 2 + tot LL n + (encX 0 (preP LL n)).length by omega] at a6; exact a6) (by omega)
      rw [List.nil_append] at Y1
      have hR : ptR l (frm l n) (10 + 2 * n + 2 + 0) = (0, preP LL n) := by
        unfold ptR
        rw [Nat.add_zero, F1]
        simp only
        rw [X1]
        simp only
        rw [Y1]
        simp only
        rw [hfr n (Nat.le_refl _), ← hPl, pnts_back]
        simp
      unfold prs
      rw [if_neg (by omega), if_neg (by omega), hsg, if_neg (by omega), if_neg (by omega), if_neg (by omega), Int.toNat_natCast]
      unfold prC
      rw [if_neg (by omega), if_neg (fun h => h hri), hfr n (Nat.le_refl _), if_neg (by omega), c0, if_neg (by omega), if_neg (by omega)]
      unfold prF
      rw [hR]
      simp only
      rw [if_neg (by decide)]
      subst hn
      rw [cuts_back hfr]
  · rw [if_neg hM] at h; exact absurd h (by decide)
end Go.Proofs.Ytcpphbogadjgfaa
