/- Proved here: what a glyph's bytes tell (plain). No condition. -/
import Derived.Test.YtcpphbogadjgfaaTa
namespace Go.Proofs.Ytcpphbogadjgfaa
open Go.RowKit

/-- The flags of n points: an error, the flags, and where the bytes behind them are. -/
def flgs (l : List UInt8) (n : Nat) (acc : List Int) (a : Nat) : Int × List Int × Nat :=
  if acc.length < n then
    if l.length < a + 1 then (3, [], 0)
    else if 128 ≤ bat l a then (4, [], 0)
    else if bat l a / 8 % 2 = 1 then
      if l.length < a + 1 + 1 then (3, [], 0)
      else if n < acc.length + 1 + bat l (a + 1) then (4, [], 0)
      else flgs l n (acc ++ List.replicate (1 + bat l (a + 1)) (bat l a : Int)) (a + 1 + 1)
    else flgs l n (acc ++ List.replicate 1 (bat l a : Int)) (a + 1)
  else (0, acc, a)
termination_by n - acc.length
decreasing_by all_goals simp only [List.length_append, List.length_replicate]; omega
/-- A flag's bit. -/
def isS (f : Int) (m : Nat) : Bool := decide (f / (m : Int) % 2 = 1)
/-- How many bytes an x or y has, and how far it is from the one ahead. -/
def wid (f : Int) (sh sm : Nat) : Nat := if isS f sh then 1 else if isS f sm then 0 else 2
def stp (l : List UInt8) (a : Nat) (f : Int) (sh sm : Nat) : Int := if isS f sh then (if isS f sm then (bat l a : Int) else -(bat l a : Int)) else if isS f sm then 0 else sg16 (n2 l a)
def unts (l : List UInt8) (sh sm : Nat) : List Int → List Int → Nat → Int → Int × List Int × Nat
  | [], acc, a, _ => (0, acc, a)
  | f :: r, acc, a, z => if l.length < a + wid f sh sm then (3, [], 0) else if okU (z + stp l a f sh sm) then unts l sh sm r (acc ++ [z + stp l a f sh sm]) (a + wid f sh sm) (z + stp l a f sh sm) else (2, [], 0)
def FlOk (fl : List Int) : Prop := ∀ i, i < fl.length → 0 ≤ co fl i ∧ co fl i < 128
/-- The places of the contours' last points. -/
def pl (l : List UInt8) (i : Nat) : Nat := n2 l (10 + 2 * i)
def frm (l : List UInt8) : Nat → Nat
  | 0 => 0
  | k + 1 => pl l k + 1
def pnt (fl xs ys : List Int) (i : Nat) : Pt := (co xs i, co ys i, decide (co fl i % 2 = 1))
def pnts (fl xs ys : List Int) (n : Nat) : List Pt := (List.range n).map (pnt fl xs ys)
def cutAt (l : List UInt8) (P : List Pt) (k : Nat) : List Pt := (P.drop (frm l k)).take (frm l (k + 1) - frm l k)
def cuts (l : List UInt8) (P : List Pt) (n : Nat) : List (List Pt) := (List.range n).map (cutAt l P)
def ptR (l : List UInt8) (n a : Nat) : Int × List Pt :=
  if (flgs l n [] a).1 ≠ 0 then ((flgs l n [] a).1, [])
  else if (unts l 2 16 (flgs l n [] a).2.1 [] (flgs l n [] a).2.2 0).1 ≠ 0 then ((unts l 2 16 (flgs l n [] a).2.1 [] (flgs l n [] a).2.2 0).1, [])
  else if (unts l 4 32 (flgs l n [] a).2.1 [] (unts l 2 16 (flgs l n [] a).2.1 [] (flgs l n [] a).2.2 0).2.2 0).1 ≠ 0 then ((unts l 4 32 (flgs l n [] a).2.1 [] (unts l 2 16 (flgs l n [] a).2.1 [] (flgs l n [] a).2.2 0).2.2 0).1, [])
  else (0, pnts (flgs l n [] a).2.1 (unts l 2 16 (flgs l n [] a).2.1 [] (flgs l n [] a).2.2 0).2.1 (unts l 4 32 (flgs l n [] a).2.1 [] (unts l 2 16 (flgs l n [] a).2.1 [] (flgs l n [] a).2.2 0).2.2 0).2.1 n)
def prF (l : List UInt8) (N a : Nat) : Int × List (List Pt) :=
  if (ptR l (frm l N) a).1 ≠ 0 then ((ptR l (frm l N) a).1, []) else (0, cuts l (ptR l (frm l N) a).2 N)
def rise (l : List UInt8) (N : Nat) : Prop := ∀ i, i < N → frm l i ≤ pl l i
instance (l : List UInt8) (N : Nat) : Decidable (rise l N) := inferInstanceAs (Decidable (∀ i, i < N → _))
def prC (l : List UInt8) (N : Nat) : Int × List (List Pt) :=
  if l.length < 10 + 2 * N then (3, [])
  else if ¬ rise l N then (4, [])
  else if 4096 < frm l N then (6, [])
  else if l.length < 10 + 2 * N + 2 then (3, [])
  else if l.length < 10 + 2 * N + 2 + n2 l (10 + 2 * N) then (3, [])
  else prF l N (10 + 2 * N + 2 + n2 l (10 + 2 * N))
/-- What Parse answers: an error, and the contours. -/
def prs (l : List UInt8) : Int × List (List Pt) :=
  if l.length = 0 then (0, [])
  else if l.length < 10 then (3, [])
  else if sg16 (n2 l 0) < 0 then (4, [])
  else if 256 < sg16 (n2 l 0) then (6, [])
  else if sg16 (n2 l 0) = 0 then (0, [])
  else prC l (sg16 (n2 l 0)).toNat
theorem flgs_end {l : List UInt8} {n : Nat} {acc : List Int} {a : Nat} (h : ¬ acc.length < n) : flgs l n acc a = (0, acc, a) := by rw [flgs, if_neg h]
theorem flgs_none {l : List UInt8} {n : Nat} {acc : List Int} {a : Nat} (h : acc.length < n) (h1 : l.length < a + 1) : flgs l n acc a = (3, [], 0) := by rw [flgs, if_pos h, if_pos h1]
theorem flgs_high {l : List UInt8} {n : Nat} {acc : List Int} {a : Nat} (h : acc.length < n) (h1 : ¬ l.length < a + 1) (h2 : 128 ≤ bat l a) : flgs l n acc a = (4, [], 0) := by rw [flgs, if_pos h, if_neg h1, if_pos h2]
theorem flgs_none2 {l : List UInt8} {n : Nat} {acc : List Int} {a : Nat} (h : acc.length < n) (h1 : ¬ l.length < a + 1) (h2 : ¬ 128 ≤ bat l a) (h3 : bat l a / 8 % 2 = 1) (h4 : l.length < a + 1 + 1) : flgs l n acc a = (3, [], 0) := by rw [flgs, if_pos h, if_neg h1, if_neg h2, if_pos h3, if_pos h4]
theorem flgs_many {l : List UInt8} {n : Nat} {acc : List Int} {a : Nat} (h : acc.length < n) (h1 : ¬ l.length < a + 1) (h2 : ¬ 128 ≤ bat l a) (h3 : bat l a / 8 % 2 = 1) (h4 : ¬ l.length < a + 1 + 1) (h5 : n < acc.length + 1 + bat l (a + 1)) : flgs l n acc a = (4, [], 0) := by rw [flgs, if_pos h, if_neg h1, if_neg h2, if_pos h3, if_neg h4, if_pos h5]
theorem flgs_more {l : List UInt8} {n : Nat} {acc : List Int} {a : Nat} (h : acc.length < n) (h1 : ¬ l.length < a + 1) (h2 : ¬ 128 ≤ bat l a) (h3 : bat l a / 8 % 2 = 1) (h4 : ¬ l.length < a + 1 + 1) (h5 : ¬ n < acc.length + 1 + bat l (a + 1)) : flgs l n acc a = flgs l n (acc ++ List.replicate (1 + bat l (a + 1)) (bat l a : Int)) (a + 1 + 1) := by rw [flgs, if_pos h, if_neg h1, if_neg h2, if_pos h3, if_neg h4, if_neg h5]
theorem flgs_one {l : List UInt8} {n : Nat} {acc : List Int} {a : Nat} (h : acc.length < n) (h1 : ¬ l.length < a + 1) (h2 : ¬ 128 ≤ bat l a) (h3 : ¬ bat l a / 8 % 2 = 1) : flgs l n acc a = flgs l n (acc ++ List.replicate 1 (bat l a : Int)) (a + 1) := by rw [flgs, if_pos h, if_neg h1, if_neg h2, if_neg h3]
theorem co_app {xs ys : List Int} {i : Nat} : co (xs ++ ys) i = if i < xs.length then co xs i else co ys (i - xs.length) := by
  unfold co
  rw [List.getD_eq_getElem?_getD, List.getD_eq_getElem?_getD, List.getD_eq_getElem?_getD]
  split
  · rw [List.getElem?_append_left (by assumption)]
  · rw [List.getElem?_append_right (by omega)]
theorem FlOk.app {fl : List Int} (h : FlOk fl) {f k : Nat} (hf : f < 128) : FlOk (fl ++ List.replicate k (f : Int)) := by
  intro i hi
  rw [co_app]
  split
  · exact h i (by assumption)
  · rw [List.length_append, List.length_replicate] at hi
    have e : co (List.replicate k (f : Int)) (i - fl.length) = f := by unfold co; rw [List.getD_eq_getElem?_getD, List.getElem?_replicate, if_pos (by omega)]; rfl
    rw [e]; omega
/-- What flags are told: so many, each below 128, and the rest of the bytes lies within them. -/
theorem flgs_ok (l : List UInt8) (n : Nat) : ∀ (acc : List Int) (a : Nat), acc.length ≤ n → FlOk acc → a ≤ l.length → (flgs l n acc a).1 = 0 → (flgs l n acc a).2.1.length = n ∧ FlOk (flgs l n acc a).2.1 ∧ (flgs l n acc a).2.2 ≤ l.length := by
  intro acc a
  induction h : n - acc.length using Nat.strongRecOn generalizing acc a with
  | ind m ih =>
    intro h1 h2 h3 h4
    by_cases c1 : acc.length < n
    · by_cases c2 : l.length < a + 1
      · rw [flgs_none c1 c2] at h4; exact absurd h4 (by decide)
      · by_cases c3 : 128 ≤ bat l a
        · rw [flgs_high c1 c2 c3] at h4; exact absurd h4 (by decide)
        · by_cases c4 : bat l a / 8 % 2 = 1
          · by_cases c5 : l.length < a + 1 + 1
            · rw [flgs_none2 c1 c2 c3 c4 c5] at h4; exact absurd h4 (by decide)
            · by_cases c6 : n < acc.length + 1 + bat l (a + 1)
              · rw [flgs_many c1 c2 c3 c4 c5 c6] at h4; exact absurd h4 (by decide)
              · rw [flgs_more c1 c2 c3 c4 c5 c6] at h4 ⊢
                have e : (acc ++ List.replicate (1 + bat l (a + 1)) (bat l a : Int)).length = acc.length + (1 + bat l (a + 1)) := by simp
                exact ih _ (by rw [e]; omega) _ _ rfl (by rw [e]; omega) (h2.app (by omega)) (by omega) h4
          · rw [flgs_one c1 c2 c3 c4] at h4 ⊢
            have e : (acc ++ List.replicate 1 (bat l a : Int)).length = acc.length + 1 := by simp
            exact ih _ (by rw [e]; omega) _ _ rfl (by rw [e]; omega) (h2.app (by omega)) (by omega) h4
    · rw [flgs_end c1]
      exact ⟨by show acc.length = n; omega, h2, h3⟩
theorem unts_ok (l : List UInt8) (sh sm : Nat) : ∀ (fl acc : List Int) (a : Nat) (z : Int), a ≤ l.length → (unts l sh sm fl acc a z).1 = 0 → (unts l sh sm fl acc a z).2.1.length = acc.length + fl.length ∧ (unts l sh sm fl acc a z).2.2 ≤ l.length
  | [], acc, a, z, ha, h => ⟨by simp [unts], by simpa [unts] using ha⟩
  | f :: r, acc, a, z, ha, h => by
    simp only [unts] at h ⊢
    by_cases c1 : l.length < a + wid f sh sm
    · rw [if_pos c1] at h; exact absurd h (by decide)
    · rw [if_neg c1] at h ⊢
      by_cases c2 : okU (z + stp l a f sh sm)
      · rw [if_pos c2] at h ⊢
        obtain ⟨h1, h2⟩ := unts_ok l sh sm r _ _ _ (by omega) h
        exact ⟨by rw [h1]; simp; omega, h2⟩
      · rw [if_neg c2] at h; exact absurd h (by decide)
theorem drop_co {fl : List Int} {i : Nat} (h : i < fl.length) : fl.drop i = co fl i :: fl.drop (i + 1) := by
  rw [List.drop_eq_getElem_cons h]
  unfold co
  rw [List.getD_eq_getElem?_getD, List.getElem?_eq_getElem h]
  rfl
/-- How long the slice in a slot is. -/
def lenV : Value → Nat
  | .slice _ n _ => n
  | _ => 0
theorem and_bit (f : Nat) (hf : f < 256) (m : Nat) (hm : m = 1 ∨ m = 2 ∨ m = 4 ∨ m = 8 ∨ m = 16 ∨ m = 32 ∨ m = 128) : (bits .and .u8 (f : Int) (m : Int) != 0) = isS (f : Int) m := by
  have h : ∀ f : Fin 256, ((bits .and .u8 (f.val : Int) 1 != 0) = isS (f.val : Int) 1 ∧ (bits .and .u8 (f.val : Int) 2 != 0) = isS (f.val : Int) 2 ∧ (bits .and .u8 (f.val : Int) 4 != 0) = isS (f.val : Int) 4 ∧ (bits .and .u8 (f.val : Int) 8 != 0) = isS (f.val : Int) 8) ∧ (bits .and .u8 (f.val : Int) 16 != 0) = isS (f.val : Int) 16 ∧ (bits .and .u8 (f.val : Int) 32 != 0) = isS (f.val : Int) 32 ∧ (bits .and .u8 (f.val : Int) 128 != 0) = isS (f.val : Int) 128 := by decide +kernel
  obtain ⟨⟨h1, h2, h3, h4⟩, h5, h6, h7⟩ := h ⟨f, hf⟩
  rcases hm with rfl | rfl | rfl | rfl | rfl | rfl | rfl
  · exact h1
  · exact h2
  · exact h3
  · exact h4
  · exact h5
  · exact h6
  · exact h7
end Go.Proofs.Ytcpphbogadjgfaa
