/- Proved here: plain facts on fractions' texts: a text is a fraction's just if that is what the document's Parse tells of it. No condition but numbers of 64 bits. -/
import Derived.Test.YtjjinncecfilpaaDoorXn
namespace Go.Proofs.YtjjinncecfilpaaDoor
open Go.RowKit
open Go.Lib (decDigits nDigits)

theorem txt_ne47 (n : Int) : ∀ c ∈ txt n, (c != 47) = true := by
  have hg := (dec_good n.natAbs).1.2.2
  have h47 : ∀ c ∈ decDigits n.natAbs, (c != 47) = true := fun c hc => by
    have h := hg c hc
    have : c ≠ 47 := fun e => by rw [e] at h; exact absurd h.1 (by decide)
    simpa using this
  unfold txt
  split
  · intro c hc
    rcases List.mem_cons.1 hc with rfl | hc
    · decide
    · exact h47 c hc
  · exact h47
theorem ks_all {a : List UInt8} (h : ∀ c ∈ a, (c != 47) = true) : ks a = a.length := by
  unfold ks
  congr 1
  induction a with
  | nil => rfl
  | cons c r ih =>
    rw [List.takeWhile_cons, if_pos (h c (by simp)), ih (fun d hd => h d (by simp [hd]))]
theorem ks_slash {a : List UInt8} (h : ∀ c ∈ a, (c != 47) = true) (b : List UInt8) : ks (a ++ 47 :: b) = a.length := by
  induction a with
  | nil => simp [ks]
  | cons c r ih =>
    rw [List.cons_append, ks_cons, if_neg (by have := h c (by simp); simpa using this), ih (fun d hd => h d (by simp [hd]))]
    rfl
theorem txt_code (n : Int) (hn : Fit n) : pcode (txt n) = 0 ∧ pnum (txt n) = n := by
  have hl := txt_len n hn
  have e1 : pcode (txt n) = 0 := by unfold pcode; rw [if_neg (by omega), if_pos (txt_back n).1]
  exact ⟨e1, by unfold pnum; rw [if_pos e1]; exact (txt_back n).2⟩
theorem rtxt_len (n d : Int) (hn : Fit n) (hd : Fit d) (h0 : 0 < d) : (rtxt n d).length ≤ 40 := by
  have h1 : nDigits n.natAbs ≤ 20 := nd_le n.natAbs 4 (by decide) (by have := hn.1; have := hn.2; omega)
  have h2 : n.natAbs < 10 ^ 19 := by have := hn.1; have := hn.2; omega
  have h3 : d.natAbs < 10 ^ 19 := by have := hd.1; have := hd.2; omega
  have h4 : nDigits n.natAbs ≤ 19 := (pad_dec 19 n.natAbs h2 (by decide)).2
  have h5 : nDigits d.natAbs ≤ 19 := (pad_dec 19 d.natAbs h3 (by decide)).2
  have l1 : (txt n).length ≤ 20 := by
    unfold txt
    split
    · rw [List.length_cons, Lib.decDigits_length]; omega
    · rw [Lib.decDigits_length]; omega
  have l2 : (txt d).length ≤ 19 := by
    unfold txt
    rw [if_neg (by omega), Lib.decDigits_length]
    exact h5
  unfold rtxt
  split
  · omega
  · rw [List.length_append, List.length_cons]; omega
/-- A fraction's text is read as it was. -/
theorem parL_rtxt (n d : Int) (hn : Fit n) (hd : Fit d) (hm : Maybe n d) : parL (rtxt n d) = (n, d, 0) := by
  have hlen := rtxt_len n d hn hd hm.1
  have hF1 : Fit 1 := by unfold Fit; omega
  unfold parL
  rw [if_neg (by omega)]
  by_cases h1 : d = 1
  · subst h1
    have e : rtxt n 1 = txt n := if_pos rfl
    rw [e]
    have ek : ks (txt n) = (txt n).length := ks_all (txt_ne47 n)
    have hno : ¬ (pcode (txt n) = 0 ∧ (txt n).length < (txt n).length) := fun h => Nat.lt_irrefl _ h.2
    rw [ek, List.take_length, if_neg hno, if_neg hno, (txt_code n hn).1, (txt_code n hn).2, if_pos ⟨rfl, hn, hF1, hm, e⟩]
  · have e : rtxt n d = txt n ++ 47 :: txt d := if_neg h1
    rw [e]
    have ek : ks (txt n ++ 47 :: txt d) = (txt n).length := ks_slash (txt_ne47 n) _
    have et : (txt n ++ 47 :: txt d).take (txt n).length = txt n := by simp
    have ed : (txt n ++ 47 :: txt d).drop ((txt n).length + 1) = txt d := by rw [List.drop_append]; simp
    have hyes : pcode (txt n) = 0 ∧ (txt n).length < (txt n ++ 47 :: txt d).length := ⟨(txt_code n hn).1, by simp⟩
    rw [ek, et, ed, if_pos hyes, if_pos hyes, (txt_code n hn).2, (txt_code d hd).1, (txt_code d hd).2, if_pos ⟨rfl, hn, hd, hm, e⟩]
/-- What the document's Parse answers of a text that isn't too long: a fraction whose text it is, or that there is none. -/
theorem parL_cases (l : List UInt8) (hl : l.length ≤ 40) : (∃ n d, Fit n ∧ Fit d ∧ Maybe n d ∧ rtxt n d = l ∧ parL l = (n, d, 0)) ∨ ((∀ n d, Fit n → Fit d → Maybe n d → rtxt n d ≠ l) ∧ parL l = (0, 0, 4)) := by
  by_cases h : ∃ n d, Fit n ∧ Fit d ∧ Maybe n d ∧ rtxt n d = l
  · obtain ⟨n, d, h1, h2, h3, rfl⟩ := h
    exact .inl ⟨n, d, h1, h2, h3, rfl, parL_rtxt n d h1 h2 h3⟩
  · refine .inr ⟨fun n d h1 h2 h3 h4 => h ⟨n, d, h1, h2, h3, h4⟩, ?_⟩
    unfold parL
    rw [if_neg (by omega), if_neg (fun hh => h ⟨_, _, hh.2.1, hh.2.2.1, hh.2.2.2.1, hh.2.2.2.2⟩)]
end Go.Proofs.YtjjinncecfilpaaDoor
