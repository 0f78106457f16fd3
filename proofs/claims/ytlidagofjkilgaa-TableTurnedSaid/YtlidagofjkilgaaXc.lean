/- Proved here: what is parsed of a made font of which one byte within a table is another one. No condition. -/
import Derived.Test.YtlidagofjkilgaaXb
namespace Go.Proofs.Ytlidagofjkilgaa
open Go.RowKit

theorem piece_get (l : List UInt8) (a n j : Nat) : (piece l a n)[j]? = if j < n then l[a + j]? else none := by
  unfold piece
  rw [List.getElem?_take]
  split
  · rw [List.getElem?_drop]
  · rfl
theorem piece_far {l : List UInt8} {a n p : Nat} {c : UInt8} (h : p < a ∨ a + n ≤ p) : piece (l.set p c) a n = piece l a n := by
  apply List.ext_getElem?
  intro j
  rw [piece_get, piece_get]
  split
  · rw [List.getElem?_set_ne (by omega)]
  · rfl
theorem piece_near {l : List UInt8} {a n k : Nat} {c : UInt8} (h : k < n) : piece (l.set (a + k) c) a n = (piece l a n).set k c := by
  apply List.ext_getElem?
  intro j
  rw [piece_get, List.getElem?_set, List.getElem?_set, piece_get]
  have hlen : (piece l a n).length = min n (l.length - a) := by unfold piece; rw [List.length_take, List.length_drop]
  by_cases hj : j < n
  · rw [if_pos hj, if_pos hj]
    by_cases hk : k = j
    · subst hk
      rw [if_pos rfl, if_pos rfl, hlen]
      by_cases hl : a + k < l.length
      · rw [if_pos hl, if_pos (by omega)]
      · rw [if_neg hl, if_neg (by omega)]
    · rw [if_neg (by omega), if_neg hk]
  · rw [if_neg hj, if_neg hj, if_neg (by omega)]
theorem tb_put {l : List UInt8} {k : Nat} (c : UInt8) (hk : k < l.length) : tb (l.set k c) 0 0 = tb l 0 0 ↔ l[k] = c := by
  have e1 : l.set k c = l.take k ++ c :: l.drop (k + 1) := List.set_eq_take_append_cons_drop ▸ by rw [if_pos hk]
  have e2 : l = l.take k ++ l[k] :: l.drop (k + 1) := by rw [List.getElem_cons_drop, List.take_append_drop]
  constructor
  · intro h
    rw [e1] at h
    have h2 : tb (l.take k ++ c :: l.drop (k + 1)) 0 0 = tb (l.take k ++ l[k] :: l.drop (k + 1)) 0 0 := h.trans (congrArg (fun x => tb x 0 0) e2)
    exact (tb_set h2).symm
  · intro h
    rw [e1, ← h, ← e2]
theorem total_set (t d : List UInt8) (k : Nat) (c : UInt8) (hk : k < d.length) : total t (d.set k c) = total t d ↔ (d[k] = c ∨ (t = headT ∧ 8 ≤ k ∧ k < 12)) := by
  by_cases ht : t = headT
  · subst ht
    rw [total_head, total_head, List.take_set, List.drop_set]
    have hx := tb_lt0 (d.take 8)
    have hy := tb_lt0 (d.drop 12)
    by_cases h8 : k < 8
    · rw [if_pos (by omega)]
      have hp := tb_put (l := d.take 8) (k := k) c (by rw [List.length_take]; omega)
      rw [List.getElem_take] at hp
      have hx' := tb_lt0 ((d.take 8).set k c)
      constructor
      · intro h
        left
        exact hp.1 (by omega)
      · rintro (h | h)
        · rw [hp.2 h]
        · omega
    · by_cases h12 : k < 12
      · rw [if_pos h12, List.set_eq_of_length_le (by rw [List.length_take]; omega)]
        exact ⟨fun _ => .inr ⟨rfl, by omega, h12⟩, fun _ => rfl⟩
      · rw [if_neg h12, List.set_eq_of_length_le (by rw [List.length_take]; omega)]
        have hp := tb_put (l := d.drop 12) (k := k - 12) c (by rw [List.length_drop]; omega)
        rw [List.getElem_drop] at hp
        have hx' := tb_lt0 ((d.drop 12).set (k - 12) c)
        have e : d[12 + (k - 12)]'(by omega) = d[k] := by congr 1; omega
        rw [e] at hp
        constructor
        · intro h
          left
          exact hp.1 (by omega)
        · rintro (h | h)
          · rw [hp.2 h]
          · omega
  · rw [total_not ht, total_not ht, tb_put c hk]
    constructor
    · exact .inl
    · rintro (h | h)
      · exact h
      · exact absurd h.1 ht
/-- The font with a byte of table t turned. -/
def trn (L : List (List UInt8 × List UInt8)) (t k : Nat) (c : UInt8) : List UInt8 := (mkF L).set (off L t + k) c
/-- Does the byte count, and is it another one? -/
def trnOK (L : List (List UInt8 × List UInt8)) (t k : Nat) (c : UInt8) : Prop := (dt L t).getD k 0 = c ∨ (tg L t = headT ∧ 8 ≤ k ∧ k < 12)
instance (L : List (List UInt8 × List UInt8)) (t k : Nat) (c : UInt8) : Decidable (trnOK L t k c) := inferInstanceAs (Decidable (_ ∨ _))
theorem trn_PE {L : List (List UInt8 × List UInt8)} (h : mkE L = 0) {t k : Nat} (c : UInt8) (ht : t < L.length) (hk : k < (dt L t).length) :
    (trnOK L t k c → PE (trn L t k c) = 0 ∧ (PT (trn L t k c)).length = L.length) ∧ (¬ trnOK L t k c → PE (trn L t k c) = 5 ∧ PT (trn L t k c) = []) := by
  obtain ⟨h0, hr, h64, hs⟩ := mkE_zero h
  have e : trn L t k c = fnt L ((body L).set ((body (L.take t)).length + k) c) := by
    unfold trn
    rw [show mkF L = (hdr L.length ++ dir (12 + 16 * L.length) L) ++ body L from rfl]
    have hl : (hdr L.length ++ dir (12 + 16 * L.length) L).length = 12 + 16 * L.length := by rw [List.length_append, hdr_len, dir_len _ (tags_four hr)]
    rw [List.set_append_right _ _ (by rw [hl]; unfold off; omega), hl]
    unfold fnt off
    congr 2
    omega
  have hBl : ((body L).set ((body (L.take t)).length + k) c).length = (body L).length := List.length_set
  obtain ⟨c1, c2⟩ := fnt_cnt (B := (body L).set ((body (L.take t)).length + k) c) hr h0 h64 hs hBl
  have hp : ∀ i, i < L.length → piece (body L) (body (L.take i)).length (dt L i).length = dt L i := fun i hi => by
    rw [body_split hi]
    have h1 : piece (body (L.take i) ++ (blk (dt L i) ++ body (L.drop (i + 1)))) (body (L.take i)).length (dt L i).length = piece (blk (dt L i)) 0 (dt L i).length := piece_mid (j := 0) (by rw [blk_len]; omega)
    rw [h1]
    exact piece_pre rfl
  have hrE : ∀ i, i < L.length → i ≠ t → rE (fnt L ((body L).set ((body (L.take t)).length + k) c)) L.length i = 0 := fun i hi hne => by
    rw [fnt_rE hr hs hBl hi]
    have hfar : (body (L.take t)).length + k < (body (L.take i)).length ∨ (body (L.take i)).length + (dt L i).length ≤ (body (L.take t)).length + k := by
      rcases Nat.lt_or_gt_of_ne hne with hlt | hgt
      · have := off_next (L := L) hlt ht
        unfold off at this
        omega
      · have := off_next (L := L) hgt hi
        unfold off at this
        omega
    rw [piece_far hfar, hp i hi, if_neg (by simp)]
  have hrT : rE (fnt L ((body L).set ((body (L.take t)).length + k) c)) L.length t = if trnOK L t k c then 0 else 5 := by
    rw [fnt_rE hr hs hBl ht, piece_near hk, hp t ht]
    have hiff := total_set (tg L t) (dt L t) k c hk
    have hgd : (dt L t).getD k 0 = (dt L t)[k] := by rw [List.getD_eq_getElem?_getD, List.getElem?_eq_getElem hk]; rfl
    rw [← hgd] at hiff
    by_cases ho : trnOK L t k c
    · rw [if_pos ho, if_neg (fun hne => hne (hiff.2 ho))]
    · rw [if_neg ho, if_pos (fun he => ho (hiff.1 he))]
  constructor
  · intro ho
    rw [if_pos ho] at hrT
    have hpe : PE (trn L t k c) = 0 := by
      rw [e]
      unfold PE
      rw [c2, c1, if_pos rfl]
      refine fe_zero fun i hi => ?_
      by_cases hit : i = t
      · rw [hit]; exact hrT
      · exact hrE i hi hit
    refine ⟨hpe, ?_⟩
    unfold PT
    rw [if_pos hpe, tabs_len, e, c1]
  · intro ho
    rw [if_neg ho] at hrT
    have hpe : PE (trn L t k c) = 5 := by
      rw [e]
      unfold PE
      rw [c2, c1, if_pos rfl]
      have hz : fe (fnt L ((body L).set ((body (L.take t)).length + k) c)) L.length t = 0 := fe_zero fun i hi => hrE i (by omega) (by omega)
      rw [fe_at hz (by rw [hrT]; decide) ht, hrT]
    refine ⟨hpe, ?_⟩
    unfold PT
    rw [if_neg (by rw [hpe]; decide)]
theorem trn_len (L : List (List UInt8 × List UInt8)) (t k : Nat) (c : UInt8) : (trn L t k c).length = (mkF L).length := List.length_set
theorem off_in {L : List (List UInt8 × List UInt8)} (h : mkE L = 0) {t k : Nat} (ht : t < L.length) (hk : k < (dt L t).length) : off L t + k < (mkF L).length := by
  obtain ⟨h0, hr, h64, hs⟩ := mkE_zero h
  have hb := body_le ht
  rw [show mkF L = fnt L (body L) from rfl, fnt_len hr]
  unfold off
  omega
theorem mkF_len {L : List (List UInt8 × List UInt8)} (h : mkE L = 0) : (mkF L).length ≤ 1048576 := by
  obtain ⟨h0, hr, h64, hs⟩ := mkE_zero h
  rw [show mkF L = fnt L (body L) from rfl, fnt_len hr]
  exact hs
end Go.Proofs.Ytlidagofjkilgaa
