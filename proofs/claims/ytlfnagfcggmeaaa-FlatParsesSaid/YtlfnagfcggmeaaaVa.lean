/- Proved here (plain): what is parsed may be; bytes at a place; a flag's bits, and the steps that they tell. No condition. -/
import Derived.Test.YtlfnagfcggmeaaaTB
import Derived.Test.YtlfnagfcggmeaaaRB
namespace Go.Proofs.Ytlfnagfcggmeaaa
open Go.RowKit

theorem unts_in (l : List UInt8) (sh sm : Nat) : ∀ (fl acc : List Int) (a : Nat) (z : Int), (∀ i, i < acc.length → okU (co acc i)) → ∀ i, i < (unts l sh sm fl acc a z).2.1.length → okU (co (unts l sh sm fl acc a z).2.1 i)
  | [], acc, a, z, h => by simpa [unts] using h
  | f :: r, acc, a, z, h => by
    simp only [unts]
    by_cases c1 : l.length < a + wid f sh sm
    · rw [if_pos c1]; intro i hi; exact absurd hi (by simp)
    · rw [if_neg c1]
      by_cases c2 : okU (z + stp l a f sh sm)
      · rw [if_pos c2]
        refine unts_in l sh sm r _ _ _ fun i hi => ?_
        rw [co_app]
        split
        · exact h i (by assumption)
        · rw [List.length_append] at hi
          have : i - acc.length = 0 := by have : i < acc.length + 1 := hi; omega
          rw [this]; exact c2
      · rw [if_neg c2]; intro i hi; exact absurd hi (by simp)
theorem cuts_ct {l : List UInt8} {P : List Pt} {n i : Nat} (h : i < n) : ct (cuts l P n) i = cutAt l P i := ct_gen h
theorem cuts_len (l : List UInt8) (P : List Pt) (n : Nat) : (cuts l P n).length = n := by simp [cuts]
theorem tot_frm {l : List UInt8} {P : List Pt} {n : Nat} (h : rise l n) (hP : P.length = frm l n) : ∀ k, k ≤ n → tot (cuts l P n) k = frm l k
  | 0, _ => rfl
  | k + 1, hk => by
    obtain ⟨h1, h2, h3⟩ := cutAt_len h (i := k) hk hP
    have ih := tot_frm h hP k (by omega)
    simp only [tot]
    rw [ih, cuts_ct hk, h1]
    show frm l k + (pl l k + 1 - frm l k) = pl l k + 1
    omega
theorem px_cut {l : List UInt8} {fl xs ys : List Int} {N i j : Nat} (h1 : j < frm l (i + 1) - frm l i) (h2 : frm l i + j < N) : px (cutAt l (pnts fl xs ys N) i) j = co xs (frm l i + j) ∧ py (cutAt l (pnts fl xs ys N) i) j = co ys (frm l i + j) := by
  have e : (cutAt l (pnts fl xs ys N) i)[j]? = some (pnt fl xs ys (frm l i + j)) := by
    unfold cutAt
    rw [List.getElem?_take_of_lt h1, List.getElem?_drop]
    simp [pnts, h2]
  unfold px py
  rw [List.getD_eq_getElem?_getD, e]
  exact ⟨rfl, rfl⟩
/-- What is parsed may be. -/
theorem prs_may (l : List UInt8) : MayG (prs l).2 := by
  have nil : MayG [] := ⟨by simp, fun i hi => by simp at hi⟩
  unfold prs
  by_cases c0 : l.length = 0
  · rw [if_pos c0]; exact nil
  rw [if_neg c0]
  by_cases c1 : l.length < 10
  · rw [if_pos c1]; exact nil
  rw [if_neg c1]
  by_cases c2 : sg16 (n2 l 0) < 0
  · rw [if_pos c2]; exact nil
  rw [if_neg c2]
  by_cases c3 : 256 < sg16 (n2 l 0)
  · rw [if_pos c3]; exact nil
  rw [if_neg c3]
  by_cases c4 : sg16 (n2 l 0) = 0
  · rw [if_pos c4]; exact nil
  rw [if_neg c4]
  obtain ⟨n, hn⟩ : ∃ n, n = (sg16 (n2 l 0)).toNat := ⟨_, rfl⟩
  have hn2 : n ≤ 256 := by omega
  rw [← hn]
  by_cases hE : plE l n = 0
  · obtain ⟨e1, e2, e3⟩ := plE_ok hE
    rw [prC_go hE]
    by_cases d1 : l.length < 10 + 2 * n + 2
    · rw [if_pos d1]; exact nil
    rw [if_neg d1]
    by_cases d2 : l.length < 10 + 2 * n + 2 + n2 l (10 + 2 * n)
    · rw [if_pos d2]; exact nil
    rw [if_neg d2]
    obtain ⟨a, ha⟩ : ∃ a, a = 10 + 2 * n + 2 + n2 l (10 + 2 * n) := ⟨_, rfl⟩
    rw [← ha]
    unfold prF
    have hlen := ptR_len l (frm l n) a
    by_cases d3 : (ptR l (frm l n) a).1 ≠ 0
    · rw [if_pos d3]; exact nil
    · rw [if_neg d3]
      have d3' : (ptR l (frm l n) a).1 = 0 := by simpa using d3
      have hl := hlen d3'
      obtain ⟨fl, xs, ys, hP, hx, hy⟩ : ∃ fl xs ys, (ptR l (frm l n) a).2 = pnts fl xs ys (frm l n) ∧ (∀ i, i < frm l n → okU (co xs i)) ∧ (∀ i, i < frm l n → okU (co ys i)) := by
        have hfo := flgs_ok l (frm l n) [] a (by simp) (fun i hi => by simp at hi) (by omega)
        unfold ptR at d3' ⊢
        obtain ⟨F, hF⟩ : ∃ F, F = flgs l (frm l n) [] a := ⟨_, rfl⟩
        rw [← hF] at d3' hfo ⊢
        by_cases f1 : F.1 ≠ 0
        · rw [if_pos f1] at d3'; exact absurd d3' f1
        rw [if_neg f1] at d3' ⊢
        obtain ⟨k1, k2, k3⟩ := hfo (by simpa using f1)
        have hxi := unts_in l 2 16 F.2.1 [] F.2.2 0 (fun i hi => by simp at hi)
        have hxo := unts_ok l 2 16 F.2.1 [] F.2.2 0 k3
        obtain ⟨X, hX⟩ : ∃ X, X = unts l 2 16 F.2.1 [] F.2.2 0 := ⟨_, rfl⟩
        rw [← hX] at d3' hxi hxo ⊢
        by_cases f2 : X.1 ≠ 0
        · rw [if_pos f2] at d3'; exact absurd d3' f2
        rw [if_neg f2] at d3' ⊢
        obtain ⟨x1, x2⟩ := hxo (by simpa using f2)
        have hyi := unts_in l 4 32 F.2.1 [] X.2.2 0 (fun i hi => by simp at hi)
        have hyo := unts_ok l 4 32 F.2.1 [] X.2.2 0 x2
        obtain ⟨Y, hY⟩ : ∃ Y, Y = unts l 4 32 F.2.1 [] X.2.2 0 := ⟨_, rfl⟩
        rw [← hY] at d3' hyi hyo ⊢
        by_cases f3 : Y.1 ≠ 0
        · rw [if_pos f3] at d3'; exact absurd d3' f3
        rw [if_neg f3] at d3' ⊢
        obtain ⟨y1, _⟩ := hyo (by simpa using f3)
        exact ⟨F.2.1, X.2.1, Y.2.1, rfl, fun i hi => hxi i (by rw [x1, k1]; simpa using hi), fun i hi => hyi i (by rw [y1, k1]; simpa using hi)⟩
      refine ⟨by rw [cuts_len]; exact hn2, fun i hi => ?_⟩
      rw [cuts_len] at hi
      obtain ⟨g1, g2, g3⟩ := cutAt_len e2 (i := i) hi hl
      have hm := frm_mono e2 (i + 1) hi
      refine ⟨⟨by rw [cuts_ct hi, g1]; omega, by rw [tot_frm e2 hl (i + 1) hi]; omega⟩, fun j hj => ?_⟩
      rw [cuts_ct hi] at hj ⊢
      rw [g1] at hj
      rw [hP]
      obtain ⟨z1, z2⟩ := px_cut (l := l) (fl := fl) (xs := xs) (ys := ys) (N := frm l n) (i := i) (j := j) hj (by omega)
      exact ⟨by rw [z1]; exact hx _ (by omega), by rw [z2]; exact hy _ (by omega)⟩
  · rw [prC_err hE]; exact nil
/-- Bytes at a place. -/
def Ats (l : List UInt8) (a : Nat) (bs : List UInt8) : Prop := ∃ r, l.drop a = bs ++ r
theorem Ats.app {l : List UInt8} {a : Nat} {x y : List UInt8} (h : Ats l a (x ++ y)) : Ats l a x ∧ Ats l (a + x.length) y := by
  obtain ⟨r, h⟩ := h
  refine ⟨⟨y ++ r, by rw [h, List.append_assoc]⟩, ⟨r, ?_⟩⟩
  rw [← List.drop_drop, h, List.append_assoc, List.drop_left]
theorem Ats.len {l : List UInt8} {a : Nat} {x : List UInt8} (h : Ats l a x) (hx : 0 < x.length) : a + x.length ≤ l.length := by
  obtain ⟨r, h⟩ := h
  have := congrArg List.length h
  rw [List.length_drop, List.length_append] at this
  omega
theorem Ats.piece {l : List UInt8} {a : Nat} {x : List UInt8} (h : Ats l a x) : piece l a x.length = x := by
  obtain ⟨r, h⟩ := h
  unfold Ytlfnagfcggmeaaa.piece
  rw [h, List.take_left]
theorem Ats.n2 {l : List UInt8} {a n : Nat} (h : Ats l a (byt 2 n)) (hn : n < 65536) : n2 l a = n ∧ a + 2 ≤ l.length := by
  have h1 := h.piece
  rw [byt_len] at h1
  have h2 := h.len (by rw [byt_len]; omega)
  rw [byt_len] at h2
  refine ⟨?_, h2⟩
  unfold Ytlfnagfcggmeaaa.n2
  rw [h1]
  exact byt_bv 2 n (by omega)
theorem Ats.cons {l : List UInt8} {a : Nat} {c : UInt8} {x : List UInt8} (h : Ats l a (c :: x)) : bat l a = c.toNat ∧ a + 1 ≤ l.length ∧ Ats l (a + 1) x := by
  have h1 := Ats.app (x := [c]) (y := x) h
  have h2 := h1.1.len (by simp)
  refine ⟨?_, h2, h1.2⟩
  have h3 := piece_one (l := l) (a := a) h2
  have h4 := h1.1.piece
  have h4 : Ytlfnagfcggmeaaa.piece l a 1 = [c] := h4
  rw [← h3, h4]
  simp [bv]
/-- The bits of a flag that is told. -/
theorem flg_bits (p q b : Nat) (hp : p = 16 ∨ p = 18 ∨ p = 2 ∨ p = 0) (hq : q = 32 ∨ q = 36 ∨ q = 4 ∨ q = 0) (hb : b = 0 ∨ b = 1) :
    ((isS ((p + q + b : Nat) : Int) 2 = decide (p = 18 ∨ p = 2) ∧ isS ((p + q + b : Nat) : Int) 16 = decide (p = 16 ∨ p = 18)) ∧ (isS ((p + q + b : Nat) : Int) 4 = decide (q = 36 ∨ q = 4) ∧ isS ((p + q + b : Nat) : Int) 32 = decide (q = 32 ∨ q = 36))) ∧ (p + q + b) / 8 % 2 = 0 ∧ (p + q + b) % 2 = b := by
  rcases hp with rfl | rfl | rfl | rfl <;> rcases hq with rfl | rfl | rfl | rfl <;> rcases hb with rfl | rfl <;> decide
theorem b_of (o : Bool) : (if o then 1 else 0 : Nat) = 0 ∨ (if o then 1 else 0 : Nat) = 1 := by cases o <;> simp
theorem sg16_u (d : Int) (h : okS d) : sg16 (d % 65536).toNat = d := by
  obtain ⟨h1, h2⟩ := h
  unfold sg16
  split <;> omega
/-- A step's bytes, read by its bits. -/
theorem step_back {l : List UInt8} {k : Nat} {d : Int} {b1 b2 : Bool} (ha : Ats l k (stB d)) (hd : okS d)
    (h : (d = 0 ∧ b1 = false ∧ b2 = true) ∨ ((0 < d ∧ d < 256) ∧ b1 = true ∧ b2 = true) ∨ ((-256 < d ∧ d < 0) ∧ b1 = true ∧ b2 = false) ∨ ((256 ≤ d ∨ d ≤ -256) ∧ b1 = false ∧ b2 = false)) :
    widB b1 b2 = (stB d).length ∧ stpB l k b1 b2 = d ∧ (0 < widB b1 b2 → k + widB b1 b2 ≤ l.length) := by
  rcases h with ⟨h, rfl, rfl⟩ | ⟨h, rfl, rfl⟩ | ⟨h, rfl, rfl⟩ | ⟨h, rfl, rfl⟩
  · subst h
    exact ⟨rfl, rfl, fun h => absurd h (by decide)⟩
  · have e : stB d = byt 1 d.natAbs := by unfold stB; rw [if_neg (by omega), if_pos (by omega)]
    rw [e, byt_one _ (by omega)] at ha ⊢
    obtain ⟨h1, h2, _⟩ := ha.cons
    refine ⟨rfl, ?_, fun _ => h2⟩
    show (bat l k : Int) = d
    rw [h1, UInt8.toNat_ofNat', Nat.mod_eq_of_lt (by omega)]
    omega
  · have e : stB d = byt 1 d.natAbs := by unfold stB; rw [if_neg (by omega), if_pos (by omega)]
    rw [e, byt_one _ (by omega)] at ha ⊢
    obtain ⟨h1, h2, _⟩ := ha.cons
    refine ⟨rfl, ?_, fun _ => h2⟩
    show -(bat l k : Int) = d
    rw [h1, UInt8.toNat_ofNat', Nat.mod_eq_of_lt (by omega)]
    omega
  · have e : stB d = u2 d := by unfold stB; rw [if_neg (by omega), if_neg (by omega)]
    rw [e] at ha ⊢
    obtain ⟨h1, h2⟩ := ha.n2 (by omega)
    refine ⟨(u2_len d).symm, ?_, fun _ => h2⟩
    show sg16 (n2 l k) = d
    rw [h1]
    exact sg16_u d hd
theorem stF_case (d : Int) (sh sm : Nat) (_ : sh ≠ 0) (_ : sm ≠ 0) (_ : sh ≠ sm) :
    (d = 0 ∧ stF d sh sm = sm) ∨ ((0 < d ∧ d < 256) ∧ stF d sh sm = sh + sm) ∨ ((-256 < d ∧ d < 0) ∧ stF d sh sm = sh) ∨ ((256 ≤ d ∨ d ≤ -256) ∧ stF d sh sm = 0) := by
  unfold stF
  by_cases c1 : d = 0
  · exact .inl ⟨c1, by rw [if_pos c1]⟩
  · by_cases c2 : 0 < d ∧ d < 256
    · exact .inr (.inl ⟨c2, by rw [if_neg c1, if_pos c2]⟩)
    · by_cases c3 : -256 < d ∧ d < 0
      · exact .inr (.inr (.inl ⟨c3, by rw [if_neg c1, if_neg c2, if_pos c3]⟩))
      · exact .inr (.inr (.inr ⟨by omega, by rw [if_neg c1, if_neg c2, if_neg c3]⟩))
theorem x_back {l : List UInt8} {k : Nat} {dx dy : Int} {o : Bool} (ha : Ats l k (stB dx)) (hd : okS dx) : wid (flg dx dy o : Int) 2 16 = (stB dx).length ∧ stp l k (flg dx dy o : Int) 2 16 = dx ∧ (0 < wid (flg dx dy o : Int) 2 16 → k + wid (flg dx dy o : Int) 2 16 ≤ l.length) := by
  obtain ⟨⟨⟨e1, e2⟩, _⟩, _⟩ := flg_bits _ _ _ (stF_16 dx) (stF_32 dy) (b_of o)
  refine step_back (b1 := isS (flg dx dy o : Int) 2) (b2 := isS (flg dx dy o : Int) 16) ha hd ?_
  unfold flg
  rw [e1, e2]
  rcases stF_case dx 2 16 (by decide) (by decide) (by decide) with ⟨h, h2⟩ | ⟨h, h2⟩ | ⟨h, h2⟩ | ⟨h, h2⟩
  · exact .inl ⟨h, by rw [h2]; decide, by rw [h2]; decide⟩
  · exact .inr (.inl ⟨h, by rw [h2]; decide, by rw [h2]; decide⟩)
  · exact .inr (.inr (.inl ⟨h, by rw [h2]; decide, by rw [h2]; decide⟩))
  · exact .inr (.inr (.inr ⟨h, by rw [h2]; decide, by rw [h2]; decide⟩))
theorem y_back {l : List UInt8} {k : Nat} {dx dy : Int} {o : Bool} (ha : Ats l k (stB dy)) (hd : okS dy) : wid (flg dx dy o : Int) 4 32 = (stB dy).length ∧ stp l k (flg dx dy o : Int) 4 32 = dy ∧ (0 < wid (flg dx dy o : Int) 4 32 → k + wid (flg dx dy o : Int) 4 32 ≤ l.length) := by
  obtain ⟨⟨_, e1, e2⟩, _⟩ := flg_bits _ _ _ (stF_16 dx) (stF_32 dy) (b_of o)
  refine step_back (b1 := isS (flg dx dy o : Int) 4) (b2 := isS (flg dx dy o : Int) 32) ha hd ?_
  unfold flg
  rw [e1, e2]
  rcases stF_case dy 4 32 (by decide) (by decide) (by decide) with ⟨h, h2⟩ | ⟨h, h2⟩ | ⟨h, h2⟩ | ⟨h, h2⟩
  · exact .inl ⟨h, by rw [h2]; decide, by rw [h2]; decide⟩
  · exact .inr (.inl ⟨h, by rw [h2]; decide, by rw [h2]; decide⟩)
  · exact .inr (.inr (.inl ⟨h, by rw [h2]; decide, by rw [h2]; decide⟩))
  · exact .inr (.inr (.inr ⟨h, by rw [h2]; decide, by rw [h2]; decide⟩))
end Go.Proofs.Ytlfnagfcggmeaaa
