/- Proved here: what a glyph's bytes tell (plain). No condition · what readFlags answers. Condition: a reader of a text of at most a billion bytes; at most 100000 points. -/
import Derived.Test.YtfhaloclbbmbeaaGreatM26
namespace Go.Proofs.YtfhaloclbbmbeaaGreat
open Go.RowKit
def flgs (l : List UInt8) (n : Nat) (acc : List Int) (a : Nat) : Int × List Int × Nat :=
  if acc.length < n then
    if l.length < a + 1 then (3, [], 0)
    else if 128 ≤ bat l a then (4, [], 0)
    else if bat l a / 8 % 2 = 1 then
      if l.length < a + 1 + 1 then (3, [], 0)
      else if n < acc.length + 1 + bat l (a + 1) then (4, [], 0)
      else flgs l n (acc ++ List.replicate (1 + bat l (a + 1)) (bat l a : Int)) (a + 1 + 1)
    else flgs l n (acc ++ List.replicate 1 (bat l a : Int)) (a + 1)
  else (0, acc, a)
termination_by n - acc.length
decreasing_by all_goals simp only [List.length_append, List.length_replicate]; omega
def isS (f : Int) (m : Nat) : Bool := decide (f / (m : Int) % 2 = 1)
namespace N15
def wid (f : Int) (sh sm : Nat) : Nat := if isS f sh then 1 else if isS f sm then 0 else 2
def stp (l : List UInt8) (a : Nat) (f : Int) (sh sm : Nat) : Int := if isS f sh then (if isS f sm then (bat l a : Int) else -(bat l a : Int)) else if isS f sm then 0 else sg16 (n2 l a)
def unts (l : List UInt8) (sh sm : Nat) : List Int → List Int → Nat → Int → Int × List Int × Nat
  | [], acc, a, _ => (0, acc, a)
  | f :: r, acc, a, z => if l.length < a + wid f sh sm then (3, [], 0) else if okU (z + stp l a f sh sm) then unts l sh sm r (acc ++ [z + stp l a f sh sm]) (a + wid f sh sm) (z + stp l a f sh sm) else (2, [], 0)
def FlOk (fl : List Int) : Prop := ∀ i, i < fl.length → 0 ≤ co fl i ∧ co fl i < 128
end N15
def pl (l : List UInt8) (i : Nat) : Nat := n2 l (10 + 2 * i)
def frm (l : List UInt8) : Nat → Nat
  | 0 => 0
  | k + 1 => pl l k + 1
namespace N15
def pnt (fl xs ys : List Int) (i : Nat) : Pt := (co xs i, co ys i, decide (co fl i % 2 = 1))
def pnts (fl xs ys : List Int) (n : Nat) : List Pt := (List.range n).map (pnt fl xs ys)
end N15
def cutAt (l : List UInt8) (P : List Pt) (k : Nat) : List Pt := (P.drop (frm l k)).take (frm l (k + 1) - frm l k)
def cuts (l : List UInt8) (P : List Pt) (n : Nat) : List (List Pt) := (List.range n).map (cutAt l P)
namespace N15
def ptR (l : List UInt8) (n a : Nat) : Int × List Pt :=
  if (flgs l n [] a).1 ≠ 0 then ((flgs l n [] a).1, [])
  else if (unts l 2 16 (flgs l n [] a).2.1 [] (flgs l n [] a).2.2 0).1 ≠ 0 then ((unts l 2 16 (flgs l n [] a).2.1 [] (flgs l n [] a).2.2 0).1, [])
  else if (unts l 4 32 (flgs l n [] a).2.1 [] (unts l 2 16 (flgs l n [] a).2.1 [] (flgs l n [] a).2.2 0).2.2 0).1 ≠ 0 then ((unts l 4 32 (flgs l n [] a).2.1 [] (unts l 2 16 (flgs l n [] a).2.1 [] (flgs l n [] a).2.2 0).2.2 0).1, [])
  else (0, pnts (flgs l n [] a).2.1 (unts l 2 16 (flgs l n [] a).2.1 [] (flgs l n [] a).2.2 0).2.1 (unts l 4 32 (flgs l n [] a).2.1 [] (unts l 2 16 (flgs l n [] a).2.1 [] (flgs l n [] a).2.2 0).2.2 0).2.1 n)
def prF (l : List UInt8) (N a : Nat) : Int × List (List Pt) :=
  if (ptR l (frm l N) a).1 ≠ 0 then ((ptR l (frm l N) a).1, []) else (0, cuts l (ptR l (frm l N) a).2 N)
end N15
def rise (l : List UInt8) (N : Nat) : Prop := ∀ i, i < N → frm l i ≤ pl l i
instance (l : List UInt8) (N : Nat) : Decidable (rise l N) := inferInstanceAs (Decidable (∀ i, i < N → _))
namespace N15
def prC (l : List UInt8) (N : Nat) : Int × List (List Pt) :=
  if l.length < 10 + 2 * N then (3, [])
  else if ¬ rise l N then (4, [])
  else if 4096 < frm l N then (6, [])
  else if l.length < 10 + 2 * N + 2 then (3, [])
  else if l.length < 10 + 2 * N + 2 + n2 l (10 + 2 * N) then (3, [])
  else prF l N (10 + 2 * N + 2 + n2 l (10 + 2 * N))
def prs (l : List UInt8) : Int × List (List Pt) :=
  if l.length = 0 then (0, [])
  else if l.length < 10 then (3, [])
  else if sg16 (n2 l 0) < 0 then (4, [])
  else if 256 < sg16 (n2 l 0) then (6, [])
  else if sg16 (n2 l 0) = 0 then (0, [])
  else prC l (sg16 (n2 l 0)).toNat
end N15
theorem flgs_end {l : List UInt8} {n : Nat} {acc : List Int} {a : Nat} (h : ¬ acc.length < n) : flgs l n acc a = (0, acc, a) := by rw [flgs, if_neg h]
theorem flgs_none {l : List UInt8} {n : Nat} {acc : List Int} {a : Nat} (h : acc.length < n) (h1 : l.length < a + 1) : flgs l n acc a = (3, [], 0) := by rw [flgs, if_pos h, if_pos h1]
theorem flgs_high {l : List UInt8} {n : Nat} {acc : List Int} {a : Nat} (h : acc.length < n) (h1 : ¬ l.length < a + 1) (h2 : 128 ≤ bat l a) : flgs l n acc a = (4, [], 0) := by rw [flgs, if_pos h, if_neg h1, if_pos h2]
theorem flgs_none2 {l : List UInt8} {n : Nat} {acc : List Int} {a : Nat} (h : acc.length < n) (h1 : ¬ l.length < a + 1) (h2 : ¬ 128 ≤ bat l a) (h3 : bat l a / 8 % 2 = 1) (h4 : l.length < a + 1 + 1) : flgs l n acc a = (3, [], 0) := by rw [flgs, if_pos h, if_neg h1, if_neg h2, if_pos h3, if_pos h4]
theorem flgs_many {l : List UInt8} {n : Nat} {acc : List Int} {a : Nat} (h : acc.length < n) (h1 : ¬ l.length < a + 1) (h2 : ¬ 128 ≤ bat l a) (h3 : bat l a / 8 % 2 = 1) (h4 : ¬ l.length < a + 1 + 1) (h5 : n < acc.length + 1 + bat l (a + 1)) : flgs l n acc a = (4, [], 0) := by rw [flgs, if_pos h, if_neg h1, if_neg h2, if_pos h3, if_neg h4, if_pos h5]
theorem flgs_more {l : List UInt8} {n : Nat} {acc : List Int} {a : Nat} (h : acc.length < n) (h1 : ¬ l.length < a + 1) (h2 : ¬ 128 ≤ bat l a) (h3 : bat l a / 8 % 2 = 1) (h4 : ¬ l.length < a + 1 + 1) (h5 : ¬ n < acc.length + 1 + bat l (a + 1)) : flgs l n acc a = flgs l n (acc ++ List.replicate (1 + bat l (a + 1)) (bat l a : Int)) (a + 1 + 1) := by rw [flgs, if_pos h, if_neg h1, if_neg h2, if_pos h3, if_neg h4, if_neg h5]
theorem flgs_one {l : List UInt8} {n : Nat} {acc : List Int} {a : Nat} (h : acc.length < n) (h1 : ¬ l.length < a + 1) (h2 : ¬ 128 ≤ bat l a) (h3 : ¬ bat l a / 8 % 2 = 1) : flgs l n acc a = flgs l n (acc ++ List.replicate 1 (bat l a : Int)) (a + 1) := by rw [flgs, if_pos h, if_neg h1, if_neg h2, if_neg h3]
namespace N15
theorem co_app {xs ys : List Int} {i : Nat} : co (xs ++ ys) i = if i < xs.length then co xs i else co ys (i - xs.length) := by
  unfold co
  rw [List.getD_eq_getElem?_getD, List.getD_eq_getElem?_getD, List.getD_eq_getElem?_getD]
  split
  · rw [List.getElem?_append_left (by assumption)]
  · rw [List.getElem?_append_right (by omega)]
theorem FlOk.app {fl : List Int} (h : FlOk fl) {f k : Nat} (hf : f < 128) : FlOk (fl ++ List.replicate k (f : Int)) := by
  intro i hi
  rw [co_app]
  split
  · exact h i (by assumption)
  · rw [List.length_append, List.length_replicate] at hi
    have e : co (List.replicate k (f : Int)) (i - fl.length) = f := by unfold co; rw [List.getD_eq_getElem?_getD, List.getElem?_replicate, if_pos (by omega)]; rfl
    rw [e]; omega
theorem flgs_ok (l : List UInt8) (n : Nat) : ∀ (acc : List Int) (a : Nat), acc.length ≤ n → FlOk acc → a ≤ l.length → (flgs l n acc a).1 = 0 → (flgs l n acc a).2.1.length = n ∧ FlOk (flgs l n acc a).2.1 ∧ (flgs l n acc a).2.2 ≤ l.length := by
  intro acc a
  induction h : n - acc.length using Nat.strongRecOn generalizing acc a with
  | ind m ih =>
    intro h1 h2 h3 h4
    by_cases c1 : acc.length < n
    · by_cases c2 : l.length < a + 1
      · rw [flgs_none c1 c2] at h4; exact absurd h4 (by decide)
      · by_cases c3 : 128 ≤ bat l a
        · rw [flgs_high c1 c2 c3] at h4; exact absurd h4 (by decide)
        · by_cases c4 : bat l a / 8 % 2 = 1
          · by_cases c5 : l.length < a + 1 + 1
            · rw [flgs_none2 c1 c2 c3 c4 c5] at h4; exact absurd h4 (by decide)
            · by_cases c6 : n < acc.length + 1 + bat l (a + 1)
              · rw [flgs_many c1 c2 c3 c4 c5 c6] at h4; exact absurd h4 (by decide)
              · rw [flgs_more c1 c2 c3 c4 c5 c6] at h4 ⊢
                have e : (acc ++ List.replicate (1 + bat l (a + 1)) (bat l a : Int)).length = acc.length + (1 + bat l (a + 1)) := by simp
                exact ih _ (by rw [e]; omega) _ _ rfl (by rw [e]; omega) (h2.app (by omega)) (by omega) h4
          · rw [flgs_one c1 c2 c3 c4] at h4 ⊢
            have e : (acc ++ List.replicate 1 (bat l a : Int)).length = acc.length + 1 := by simp
            exact ih _ (by rw [e]; omega) _ _ rfl (by rw [e]; omega) (h2.app (by omega)) (by omega) h4
    · rw [flgs_end c1]
      exact ⟨by show acc.length = n; omega, h2, h3⟩
theorem unts_ok (l : List UInt8) (sh sm : Nat) : ∀ (fl acc : List Int) (a : Nat) (z : Int), a ≤ l.length → (unts l sh sm fl acc a z).1 = 0 → (unts l sh sm fl acc a z).2.1.length = acc.length + fl.length ∧ (unts l sh sm fl acc a z).2.2 ≤ l.length
  | [], acc, a, z, ha, h => ⟨by simp [unts], by simpa [unts] using ha⟩
  | f :: r, acc, a, z, ha, h => by
    simp only [unts] at h ⊢
    by_cases c1 : l.length < a + wid f sh sm
    · rw [if_pos c1] at h; exact absurd h (by decide)
    · rw [if_neg c1] at h ⊢
      by_cases c2 : okU (z + stp l a f sh sm)
      · rw [if_pos c2] at h ⊢
        obtain ⟨h1, h2⟩ := unts_ok l sh sm r _ _ _ (by omega) h
        exact ⟨by rw [h1]; simp; omega, h2⟩
      · rw [if_neg c2] at h; exact absurd h (by decide)
theorem drop_co {fl : List Int} {i : Nat} (h : i < fl.length) : fl.drop i = co fl i :: fl.drop (i + 1) := by
  rw [List.drop_eq_getElem_cons h]
  unfold co
  rw [List.getD_eq_getElem?_getD, List.getElem?_eq_getElem h]
  rfl
end N15
def lenV : Value → Nat
  | .slice _ n _ => n
  | _ => 0
theorem and_bit (f : Nat) (hf : f < 256) (m : Nat) (hm : m = 1 ∨ m = 2 ∨ m = 4 ∨ m = 8 ∨ m = 16 ∨ m = 32 ∨ m = 128) : (bits .and .u8 (f : Int) (m : Int) != 0) = isS (f : Int) m := by
  have h : ∀ f : Fin 256, ((bits .and .u8 (f.val : Int) 1 != 0) = isS (f.val : Int) 1 ∧ (bits .and .u8 (f.val : Int) 2 != 0) = isS (f.val : Int) 2 ∧ (bits .and .u8 (f.val : Int) 4 != 0) = isS (f.val : Int) 4 ∧ (bits .and .u8 (f.val : Int) 8 != 0) = isS (f.val : Int) 8) ∧ (bits .and .u8 (f.val : Int) 16 != 0) = isS (f.val : Int) 16 ∧ (bits .and .u8 (f.val : Int) 32 != 0) = isS (f.val : Int) 32 ∧ (bits .and .u8 (f.val : Int) 128 != 0) = isS (f.val : Int) 128 := by decide +kernel
  obtain ⟨⟨h1, h2, h3, h4⟩, h5, h6, h7⟩ := h ⟨f, hf⟩
  rcases hm with rfl | rfl | rfl | rfl | rfl | rfl | rfl
  · exact h1
  · exact h2
  · exact h3
  · exact h4
  · exact h5
  · exact h6
  · exact h7
end Go.Proofs.YtfhaloclbbmbeaaGreat
namespace Go.Proofs.YtfhaloclbbmbeaaGreat
open Go.RowKit
def Nb (A : Option Addr) (g : Nat) : Prop := ∀ ad, A = some ad → ad.block ≠ g
theorem own_nb {w : World} {base e size n c g : Nat} {A : Option Addr} {xs : List Value} (h : w.ownsRow base e size (.slice A n c) n xs) (hg : g < base) : Nb A g := by
  intro ad hA
  subst hA
  rcases h.2 with ⟨h1, h2⟩ | ⟨j, cap, cur, h1, h3, h4, h5⟩
  · injection h1 with e1; cases e1
  · injection h1 with e1 e2 e3
    injection e1 with e1
    rw [e1]
    show j ≠ g
    omega
namespace N15
theorem Il.ro {K : IntKind} {w W : World} {A : Option Addr} {m g : Nat} {xs : List Int} (h : Il K w A m xs) (hn : Nb A g) (ho : Onl g w W) {i : Nat} (hi : i < m) : ∃ ad, A = some ad ∧ W.cell? (ad.add i) = some (.int K (co xs i)) := by
  obtain ⟨ad, h1, h2, h3⟩ := h.get i hi
  refine ⟨ad, h1, ?_⟩
  rw [World.cell?_of_block (ho.block (ad.add i).block (by rw [block_of_add]; exact h2) (by rw [block_of_add]; exact hn ad h1))]
  exact h3
theorem Il.onl {K : IntKind} {w W : World} {A : Option Addr} {m g : Nat} {xs : List Int} (h : Il K w A m xs) (hn : Nb A g) (ho : Onl g w W) : Il K W A m xs :=
  ⟨h.len, fun i hi => by
    obtain ⟨ad, h1, h2, h3⟩ := h.get i hi
    refine ⟨ad, h1, Nat.lt_of_lt_of_le h2 ho.size, ?_⟩
    rw [World.cell?_of_block (ho.block (ad.add i).block (by rw [block_of_add]; exact h2) (by rw [block_of_add]; exact hn ad h1))]
    exact h3⟩
def FgP (T : TypeId) (K : IntKind) (R : Int × List Int × Nat) (g : Nat) (s : ByteArray) (w : World) (e : Ending) (w' : World) : Prop :=
  Onl g w w' ∧ ∃ A k c, e = .returned (.tuple #[.slice A k c, .int .i64 R.1]) ∧ (R.1 = 0 → (Il K w' A k R.2.1 ∧ Nb A g) ∧ Rd T w' g s R.2.2 false ∧ R.2.2 ≤ s.size)
theorem fgP_err {T : TypeId} {K : IntKind} {R : Int × List Int × Nat} {g : Nat} {s : ByteArray} {w w' : World} {x : Int} {r : List Int × Nat} (h : R = (x, r)) (hx : x ≠ 0) (ho : Onl g w w') : FgP T K R g s w (.returned (.tuple #[.slice none 0 0, .int .i64 x])) w' := by
  subst h
  exact ⟨ho, none, 0, 0, rfl, fun h => absurd h hx⟩
def FgQ (T : TypeId) (K : IntKind) (n : Nat) (xs : List Int) (a : Nat) (g : Nat) (s : ByteArray) (w : World) (e : Ending) (w' : World) : Prop :=
  ∃ A c, e = .returned (.tuple #[.slice A n c, .int .i64 0]) ∧ Onl g w w' ∧ (Il K w' A n xs ∧ Nb A g) ∧ Rd T w' g s a false
def FgN (x : Int) (g : Nat) (w : World) (e : Ending) (w' : World) : Prop := ∃ A k c, e = .returned (.tuple #[.slice A k c, .int .i64 x]) ∧ Onl g w w'
theorem FgP.ok {T : TypeId} {K : IntKind} {R : Int × List Int × Nat} {g n : Nat} {s : ByteArray} {w w' : World} {e : Ending} (h : FgP T K R g s w e w') (h0 : R.1 = 0) (hn : R.2.1.length = n) : FgQ T K n R.2.1 R.2.2 g s w e w' := by
  obtain ⟨h1, A, k, c, h2, h3⟩ := h
  obtain ⟨⟨h4, h5⟩, h6, _⟩ := h3 h0
  have : k = n := by rw [← h4.len]; exact hn
  subst this
  exact ⟨A, c, by rw [h2, h0], h1, ⟨h4, h5⟩, h6⟩
theorem FgP.err {T : TypeId} {K : IntKind} {R : Int × List Int × Nat} {g : Nat} {s : ByteArray} {w w' : World} {e : Ending} (h : FgP T K R g s w e w') : FgN R.1 g w e w' := by
  obtain ⟨h1, A, k, c, h2, _⟩ := h
  exact ⟨A, k, c, h2, h1⟩
set_option maxHeartbeats 8000000 in
set_option maxRecDepth 100000 in
theorem readFlags_any (g n : Nat) (s : ByteArray) (a0 : Nat) (w : World) (h : Rd 278 w g s a0 false) (hs : s.size ≤ 1000000000) (ha : a0 ≤ s.size) (hn : n ≤ 100000) :
    Calls Tryz.prog 295 #[.pointer (some ⟨g, 0, none⟩), .int .i64 (n : Int)] w (FgP 278 .u8 (flgs s.data.toList n [] a0) g s w) := by
  have S := Lib.hid (RwS.start (e := 5) (K := .u8) h ha)
  have HS := Lib.hid hs
  obtain ⟨R, hR⟩ : ∃ R, R = flgs s.data.toList n [] a0 := ⟨_, rfl⟩
  rw [← hR]
  have HR0 := Lib.hid hR.symm
  have HE := Lib.hid (show ∀ x r w', R = (x, r) → x ≠ 0 → Onl g w w' → FgP 278 .u8 R g s w (.returned (.tuple #[.slice none 0 0, .int .i64 x])) w' from fun x r w' h1 h2 h3 => fgP_err h1 h2 h3)
  have HF := Lib.hid (show ∀ acc a A c w', R = (0, acc, a) → RwS 278 5 .u8 w w' g s a false (.slice A acc.length c) acc → FgP 278 .u8 R g s w (.returned (.tuple #[.slice A acc.length c, .int .i64 0])) w' from fun acc a A c w' h1 h2 => by
    subst h1
    exact ⟨h2.r.onl, A, _, c, rfl, fun _ => ⟨⟨own_il h2.row rfl, own_nb h2.row h2.r.lg⟩, h2.r.rd, h2.r.le⟩⟩)
  obtain ⟨i5, h5a, h5b, h5c, h5d⟩ := info_parts Tryz.info5
  have H5 := Lib.hid (And.intro h5a (And.intro h5b (And.intro h5c h5d)))
  have HN := Lib.hid hn
  clear h hs ha hR h5a h5b h5c h5d
  go_enter Tryz.func295, Tryz.ntmps295
  go_wp2_with fail
  go_loopw [6] (fun v wr => ∃ (acc : List Int) (a : Nat) (A : Option Addr) (c : Nat), v = .slice A acc.length c ∧ acc.length ≤ n ∧ flgs s.data.toList n acc a = R ∧ RwS 278 5 .u8 w wr g s a false (.slice A acc.length c) acc) (fun v _ => n - lenV v)
  case atStart => exact ⟨[], a0, none, 0, rfl, Nat.zero_le _, HR0.out, S.out⟩
  case round =>
    obtain ⟨acc, a, A, c, rfl, hk, hR, hS⟩ := hrel
    have hle := hS.r.le
    have HS1 := Lib.hid hS
    by_cases hgo : acc.length < n
    · by_cases c2 : s.size < a + 1
      · have CU := Lib.hid (u8_out g s a wr hS.r.rd HS.out hle c2)
        have HX := Lib.hid (fun w' ho => HE.out 3 _ w' (hR.symm.trans (flgs_none hgo (by rw [size_list]; exact c2))) (by decide) ho)
        have e1 : (bits .and .u8 0 128 != 0) = false := by decide
        have e2 : (bits .and .u8 0 8 != 0) = false := by decide
        obtain ⟨k, hk2⟩ : ∃ k, k = acc.length := ⟨_, rfl⟩
        rw [← hk2] at hgo ⊢
        clear hS hR hle c2 hk2 hk
        go_wp2_with (first
          | (go_at_call 300; (with_reducible refine CU.out.mono ?_); rintro e w2 ⟨rfl, hr, ho⟩; have H2 := Lib.hid (HS1.out.read hr ho HS1.out.r.le); clear hr ho)
          | (go_at_call 211; (with_reducible refine (err_bad _ _ _ _ H2.out.r.rd).mono ?_); rintro e w3 ⟨rfl, rfl⟩))
        go_ret2
        exact HX.out _ H2.out.r.onl
      · have c2' : ¬ s.data.toList.length < a + 1 := by rw [size_list]; exact c2
        have CU := Lib.hid (u8_in g s a wr hS.r.rd HS.out (by omega))
        have hf := bat_lt s.data.toList a
        by_cases c3 : 128 ≤ bat s.data.toList a
        · have HX := Lib.hid (fun w' ho => HE.out 4 _ w' (hR.symm.trans (flgs_high hgo c2' c3)) (by decide) ho)
          have e1 := and_bit (bat s.data.toList a) hf 128 (by simp)
          have e2 : isS (bat s.data.toList a : Int) 128 = true := by unfold isS; exact decide_eq_true (by omega)
          rw [e2] at e1
          obtain ⟨f, hff⟩ : ∃ f, f = bat s.data.toList a := ⟨_, rfl⟩
          rw [← hff] at CU e1
          have e1 : (bits .and .u8 (f : Int) 128 != 0) = true := e1
          obtain ⟨k, hk2⟩ : ∃ k, k = acc.length := ⟨_, rfl⟩
          rw [← hk2] at hgo ⊢
          have hA1 : a + 1 ≤ s.size := by omega
          have HA1 := Lib.hid hA1
          clear hS hR hle c2 c2' c3 hf e2 hff hk2 hk hA1
          go_wp2_with (go_at_call 300; (with_reducible refine CU.out.mono ?_); rintro e w2 ⟨rfl, hr, ho⟩; have H2 := Lib.hid (HS1.out.read hr ho HA1.out); clear hr ho)
          go_ret2
          exact HX.out _ H2.out.r.onl
        · have e1 := and_bit (bat s.data.toList a) hf 128 (by simp)
          have e2 : isS (bat s.data.toList a : Int) 128 = false := by unfold isS; exact decide_eq_false (by omega)
          rw [e2] at e1
          have e3 := and_bit (bat s.data.toList a) hf 8 (by simp)
          have HA1 := Lib.hid (show a + 1 ≤ s.size by omega)
          by_cases c4 : bat s.data.toList a / 8 % 2 = 1
          · have e4 : isS (bat s.data.toList a : Int) 8 = true := by unfold isS; exact decide_eq_true (by omega)
            rw [e4] at e3
            by_cases c5 : s.size < a + 1 + 1
            · have HX := Lib.hid (fun w' ho => HE.out 3 _ w' (hR.symm.trans (flgs_none2 hgo c2' c3 c4 (by rw [size_list]; exact c5))) (by decide) ho)
              have C5 := Lib.hid c5
              obtain ⟨f, hff⟩ : ∃ f, f = bat s.data.toList a := ⟨_, rfl⟩
              rw [← hff] at CU e1 e3
              have e1 : (bits .and .u8 (f : Int) 128 != 0) = false := e1
              have e3 : (bits .and .u8 (f : Int) 8 != 0) = true := e3
              obtain ⟨k, hk2⟩ : ∃ k, k = acc.length := ⟨_, rfl⟩
              rw [← hk2] at hgo ⊢
              clear hS hR hle c2 c2' c3 c4 c5 hf e2 e4 hff hk2 hk
              go_wp2_with (first
                | (go_at_call 300; (with_reducible refine CU.out.mono ?_); rintro e w2 ⟨rfl, hr, ho⟩; have H2 := Lib.hid (HS1.out.read hr ho HA1.out); clear hr ho)
                | (go_at_call 300; (with_reducible refine (u8_out _ _ _ _ H2.out.r.rd HS.out HA1.out C5.out).mono ?_); rintro e w3 ⟨rfl, hr, ho⟩; have H3 := Lib.hid (H2.out.read hr ho HA1.out); clear hr ho)
                | (go_at_call 211; (with_reducible refine (err_bad _ _ _ _ H3.out.r.rd).mono ?_); rintro e w4 ⟨rfl, rfl⟩))
              go_ret2
              exact HX.out _ H3.out.r.onl
            · have c5' : ¬ s.data.toList.length < a + 1 + 1 := by rw [size_list]; exact c5
              have hm2 := bat_lt s.data.toList (a + 1)
              have HA2 := Lib.hid (show a + 1 + 1 ≤ s.size by omega)
              have CV := Lib.hid (fun W (h : Rd 278 W g s (a + 1) false) => u8_in g s (a + 1) W h HS.out (by omega))
              have HM := Lib.hid (show n < acc.length + 1 + bat s.data.toList (a + 1) → flgs s.data.toList n acc a = (4, [], 0) from fun h => flgs_many hgo c2' c3 c4 c5' h)
              have HM2 := Lib.hid (show ¬ n < acc.length + 1 + bat s.data.toList (a + 1) → flgs s.data.toList n acc a = flgs s.data.toList n (acc ++ List.replicate (1 + bat s.data.toList (a + 1)) (bat s.data.toList a : Int)) (a + 1 + 1) from fun h => flgs_more hgo c2' c3 c4 c5' h)
              obtain ⟨f, hff⟩ : ∃ f, f = bat s.data.toList a := ⟨_, rfl⟩
              obtain ⟨m, hmm⟩ : ∃ f, f = bat s.data.toList (a + 1) := ⟨_, rfl⟩
              rw [← hff] at CU e1 e3 HM2 c3
              rw [← hmm] at CV HM HM2 hm2
              have e1 : (bits .and .u8 (f : Int) 128 != 0) = false := e1
              have e3 : (bits .and .u8 (f : Int) 8 != 0) = true := e3
              have HRx := Lib.hid hR
              obtain ⟨t, ht⟩ : ∃ t, t = 1 + m := ⟨_, rfl⟩
              rw [← ht] at HM2
              obtain ⟨k, hk2⟩ : ∃ k, k = acc.length := ⟨_, rfl⟩
              rw [← hk2] at hgo hk HM HM2 ⊢
              have e6 : IntKind.i64.wrap ((n : Int) - (k : Int)) = ((n - k : Nat) : Int) := by rw [i64_in _ (by omega)]; omega
              obtain ⟨d, hd⟩ : ∃ d, d = n - k := ⟨_, rfl⟩
              rw [← hd] at e6
              have HK := Lib.hid hk2
              by_cases c6 : n < k + 1 + m
              · have HX := Lib.hid (fun w' ho => HE.out 4 _ w' (hR.symm.trans (HM.out c6)) (by decide) ho)
                have c7 : (d : Int) < 1 + (m : Int) := by omega
                clear hS hR hle c2 c2' c3 c4 c5 c5' hf e2 e4 hff hmm hk2 hk c6 ht hd HM HM2
                go_wp2_with (first
                  | (go_at_call 300; (with_reducible refine CU.out.mono ?_); rintro e w2 ⟨rfl, hr, ho⟩; have H2 := Lib.hid (HS1.out.read hr ho HA1.out); clear hr ho)
                  | (go_at_call 300; (with_reducible refine (CV.out _ H2.out.r.rd).mono ?_); rintro e w3 ⟨rfl, hr, ho⟩; have H3 := Lib.hid (H2.out.read hr ho HA2.out); clear hr ho)
                  | (go_at_call 211; (with_reducible refine (err_ok _ _ _ _ H3.out.r.rd).mono ?_); rintro e w4 ⟨rfl, rfl⟩))
                go_ret2
                exact HX.out _ H3.out.r.onl
              · have HX := Lib.hid (HM2.out c6)
                have c7 : ¬ (d : Int) < 1 + (m : Int) := by omega
                have HTM := Lib.hid ht
                have HT := Lib.hid (show k + t ≤ n ∧ 1 ≤ t by omega)
                clear hS hR hle c2 c2' c3 c4 c5 c5' hf e2 e4 hff hmm hk2 hk c6 ht hd HM HM2
                go_wp2_with (first
                  | (go_at_call 300; (with_reducible refine CU.out.mono ?_); rintro e w2 ⟨rfl, hr, ho⟩; have H2 := Lib.hid (HS1.out.read hr ho HA1.out); clear hr ho)
                  | (go_at_call 300; (with_reducible refine (CV.out _ H2.out.r.rd).mono ?_); rintro e w3 ⟨rfl, hr, ho⟩; have H3 := Lib.hid (H2.out.read hr ho HA2.out); clear hr ho)
                  | (go_at_call 211; (with_reducible refine (err_ok _ _ _ _ H3.out.r.rd).mono ?_); rintro e w4 ⟨rfl, rfl⟩))
                have HRow : Hid (RwS 278 5 .u8 w w3 g s (a + 1 + 1) false (.slice A k c) acc) := by rw [HK.out]; exact H3
                go_loopw [6, 36] (fun v u wi => ∃ (j : Nat) (A' : Option Addr) (c' : Nat), u = .int .i64 (j : Int) ∧ j ≤ t ∧ v = .slice A' (k + j) c' ∧ RwS 278 5 .u8 w wi g s (a + 1 + 1) false (.slice A' (k + j) c') (acc ++ List.replicate j (f : Int))) (fun _ u _ => t - (intOf u).toNat)
                case atStart => exact ⟨0, A, c, rfl, Nat.zero_le _, rfl, by simpa using HRow.out⟩
                case round =>
                  obtain ⟨j, A', c', rfl, hj, rfl, hSj⟩ := hrel
                  have hnk := HT.out
                  have hn1 := HN.out
                  have HSj := Lib.hid hSj
                  by_cases hgj : j < t
                  · have hgj2 : (j : Int) < 1 + (m : Int) := by have := HTM.out; omega
                    have hll : (acc ++ List.replicate j (f : Int)).length = k + j := by rw [List.length_append, List.length_replicate, ← HK.out]
                    have HLL := Lib.hid hll
                    have HB3 := Lib.hid (hSj.next ((Below.refl _ wr).alloc (Nat.le_refl _) (.cells #[.int .u8 (f : Int)] 5)))
                    have HR3 := Lib.hid (show (wr.alloc (.cells #[.int .u8 (f : Int)] 5)).ownsRow w.heap.size 5 1 (.slice A' (k + j) c') (k + j) (ci .u8 (acc ++ List.replicate j (f : Int))) by have h := HB3.out.row; rw [hll] at h; exact h)
                    have HBs := Lib.hid HB3.out.r.onl.size
                    clear hSj hll
                    go_wp2_with (at_builtin; go_must (refine wpList_append_own _ rfl (.tmp 38) (.tmp 40) 166 rfl w.heap.size 5 i5 _ 1 1 Tryz.underlying166 H5.out.1 H5.out.2.1 H5.out.2.2.1 H5.out.2.2.2 rfl (by decide) (.slice A' (k + j) c') (k + j) (ci .u8 (acc ++ List.replicate j (f : Int))) rfl HR3.out ⟨wr.heap.size, 0, none⟩ 1 1 [.int .u8 (f : Int)] rfl rfl (cells_new _ _ _) (by intro u hu; simp at hu; subst hu; rfl) (by unfold maxLen; omega) (by omega) HBs.out ?_); intro v' w7 hown' hg' _; obtain ⟨A7, c7, rfl⟩ := own_form hown'; have H7 := Lib.hid (HB3.out.push (by decide) (x := (f : Int)) (by rw [HLL.out]; exact hown') hg'); clear hown' hg')
                    exact ⟨⟨j + 1, A7, c7, by simp, by omega, rfl, by rw [List.replicate_succ', ← List.append_assoc]; exact H7.out⟩, by simp [intOf]; omega⟩
                  · have hgj2 : ¬ (j : Int) < 1 + (m : Int) := by have := HTM.out; omega
                    have hjt : j = t := by omega
                    subst hjt
                    have hll : (acc ++ List.replicate j (f : Int)).length = k + j := by rw [List.length_append, List.length_replicate, ← HK.out]
                    clear hSj
                    go_wp2_with fail
                    exact ⟨⟨acc ++ List.replicate j (f : Int), (a + 1 + 1), A', c', by rw [hll], by rw [hll]; exact hnk.1, HX.out.symm.trans HRx.out, by rw [hll]; exact HSj.out⟩, by rw [show lenV (_ : Value) = k + j from rfl]; show n - (k + j) < n - lenV (.slice A k c); simp only [lenV]; omega⟩
          · have e4 : isS (bat s.data.toList a : Int) 8 = false := by unfold isS; exact decide_eq_false (by omega)
            rw [e4] at e3
            have HX := Lib.hid (flgs_one hgo c2' c3 c4)
            obtain ⟨f, hff⟩ : ∃ f, f = bat s.data.toList a := ⟨_, rfl⟩
            rw [← hff] at CU e1 e3 HX c3
            have e1 : (bits .and .u8 (f : Int) 128 != 0) = false := e1
            have e3 : (bits .and .u8 (f : Int) 8 != 0) = false := e3
            have HRx := Lib.hid hR
            obtain ⟨k, hk2⟩ : ∃ k, k = acc.length := ⟨_, rfl⟩
            rw [← hk2] at hgo hk ⊢
            have e6 : IntKind.i64.wrap ((n : Int) - (k : Int)) = ((n - k : Nat) : Int) := by rw [i64_in _ (by omega)]; omega
            obtain ⟨d, hd⟩ : ∃ d, d = n - k := ⟨_, rfl⟩
            rw [← hd] at e6
            have HK := Lib.hid hk2
            have HT := Lib.hid (show k + 1 ≤ n ∧ 1 ≤ 1 by omega)
            have c7 : ¬ d < 1 := by omega
            clear hS hR hle c2 c2' c3 c4 hf e2 e4 hff hk2 hk hd
            go_wp2_with (first
              | (go_at_call 300; (with_reducible refine CU.out.mono ?_); rintro e w2 ⟨rfl, hr, ho⟩; have H3 := Lib.hid (HS1.out.read hr ho HA1.out); clear hr ho)
              | (go_at_call 211; (with_reducible refine (err_ok _ _ _ _ H3.out.r.rd).mono ?_); rintro e w4 ⟨rfl, rfl⟩))
            have HRow : Hid (RwS 278 5 .u8 w w2 g s (a + 1) false (.slice A k c) acc) := by rw [HK.out]; exact H3
            go_loopw [6, 36] (fun v u wi => ∃ (j : Nat) (A' : Option Addr) (c' : Nat), u = .int .i64 (j : Int) ∧ j ≤ 1 ∧ v = .slice A' (k + j) c' ∧ RwS 278 5 .u8 w wi g s (a + 1) false (.slice A' (k + j) c') (acc ++ List.replicate j (f : Int))) (fun _ u _ => 1 - (intOf u).toNat)
            case atStart => exact ⟨0, A, c, rfl, Nat.zero_le _, rfl, by simpa using HRow.out⟩
            case round =>
              obtain ⟨j, A', c', rfl, hj, rfl, hSj⟩ := hrel
              have hnk := HT.out
              have hn1 := HN.out
              have HSj := Lib.hid hSj
              by_cases hgj : j < 1
              · have hll : (acc ++ List.replicate j (f : Int)).length = k + j := by rw [List.length_append, List.length_replicate, ← HK.out]
                have HLL := Lib.hid hll
                have HB3 := Lib.hid (hSj.next ((Below.refl _ wr).alloc (Nat.le_refl _) (.cells #[.int .u8 (f : Int)] 5)))
                have HR3 := Lib.hid (show (wr.alloc (.cells #[.int .u8 (f : Int)] 5)).ownsRow w.heap.size 5 1 (.slice A' (k + j) c') (k + j) (ci .u8 (acc ++ List.replicate j (f : Int))) by have h := HB3.out.row; rw [hll] at h; exact h)
                have HBs := Lib.hid HB3.out.r.onl.size
                clear hSj hll
                go_wp2_with (at_builtin; go_must (refine wpList_append_own _ rfl (.tmp 38) (.tmp 40) 166 rfl w.heap.size 5 i5 _ 1 1 Tryz.underlying166 H5.out.1 H5.out.2.1 H5.out.2.2.1 H5.out.2.2.2 rfl (by decide) (.slice A' (k + j) c') (k + j) (ci .u8 (acc ++ List.replicate j (f : Int))) rfl HR3.out ⟨wr.heap.size, 0, none⟩ 1 1 [.int .u8 (f : Int)] rfl rfl (cells_new _ _ _) (by intro u hu; simp at hu; subst hu; rfl) (by unfold maxLen; omega) (by omega) HBs.out ?_); intro v' w7 hown' hg' _; obtain ⟨A7, c7, rfl⟩ := own_form hown'; have H7 := Lib.hid (HB3.out.push (by decide) (x := (f : Int)) (by rw [HLL.out]; exact hown') hg'); clear hown' hg')
                exact ⟨⟨j + 1, A7, c7, by simp, by omega, rfl, by rw [List.replicate_succ', ← List.append_assoc]; exact H7.out⟩, by simp [intOf]; omega⟩
              · obtain rfl : j = 1 := by omega
                have hll : (acc ++ List.replicate 1 (f : Int)).length = k + 1 := by rw [List.length_append, List.length_replicate, ← HK.out]
                clear hSj
                go_wp2_with fail
                exact ⟨⟨acc ++ List.replicate 1 (f : Int), (a + 1), A', c', by rw [hll], by rw [hll]; exact hnk.1, HX.out.symm.trans HRx.out, by rw [hll]; exact HSj.out⟩, by rw [show lenV (_ : Value) = k + 1 from rfl]; show n - (k + 1) < n - lenV (.slice A k c); simp only [lenV]; omega⟩
    · obtain rfl : acc.length = n := by omega
      have HX := Lib.hid (HF.out acc a A c wr (hR.symm.trans (flgs_end hgo)) hS)
      obtain ⟨k, hk2⟩ : ∃ k, k = acc.length := ⟨_, rfl⟩
      rw [← hk2] at HX hgo ⊢
      clear hS hR hle hk2
      go_wp2_with fail
      go_ret2
      exact HX.out
end N15
end Go.Proofs.YtfhaloclbbmbeaaGreat
