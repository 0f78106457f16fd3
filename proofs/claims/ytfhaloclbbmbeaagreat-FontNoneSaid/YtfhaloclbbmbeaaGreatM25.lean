/- Proved here: what Parse answers: the pairs of any table, or the error that is met first. Condition: a text of at most a billion bytes · Proved here (plain): runs stand for the pairs that they were made of; numbers in a text are found where they were written. Condition: pairs that may be · Proved here (plain): what is made of pairs, with a part of 12, is parsed to the pairs. Condition: pairs that may be · Proved here (plain): what is made of pairs, with a part of 4, is parsed to the pairs. Condition: pairs that may be, of codes up to 65534 · the laws' awake returns true, in whatever memory. No condition · what a reader is in memory, and what New, Err, At and Left answer. Condition: the reader lies in a bl. -/
import Derived.Test.YtfhaloclbbmbeaaGreatM24
import Derived.Test.YtfhaloclbbmbeaaGreatM22
import Derived.Test.YtfhaloclbbmbeaaGreatM19
import Derived.Deep.RegionLaw
import Derived.BigRegion
import Derived.WalkKit
import Derived.WalkSpells
import Derived.WalkLawsBesides
import Derived.Deep.DeepFit
import Derived.Deep.QuietTactic
import Derived.BigQuiet
import Derived.Lib.Hide
import Derived.StillTailTactics
import Derived.Deep.RegionHeld3
import Derived.ChangeAlike
import Derived.RegionTactic
import Derived.IntWalk
import Derived.Laws.BitsAllLaws
import Derived.Laws.Bits64b
import Derived.Laws.IdiomStrings
import Derived.Deep.CutBlock
import Derived.Deep.CutRange
import Derived.Deep.DeepCutAuto
namespace Go.Proofs.YtfhaloclbbmbeaaGreat
open Go.RowKit Go.Maps
attribute [local irreducible] kw
def P1 (i : Nat) : Nat := if i = 0 then 3 else 0
def E1 (i : Nat) : Nat := if i = 0 then 10 else 4
def E2 (i : Nat) : Nat := if i = 0 then 1 else 3
def chosen (l : List UInt8) : Option (Bool × Nat) := match fst2 l (nR l) P1 E1 with
  | some a => some (true, a)
  | none => match fst2 l (nR l) P1 E2 with
    | some a => some (false, a)
    | none => none
def partS (g : Int) (l : List UInt8) : Int × List (Int × Int) := match chosen l with
  | some (true, a) => longS g l a
  | some (false, a) => shortS g l a
  | none => (7, [])
theorem part_long {g : Int} {l : List UInt8} {a : Nat} (h : fst2 l (nR l) P1 E1 = some a) : partS g l = longS g l a := by unfold partS chosen; rw [h]
theorem part_short {g : Int} {l : List UInt8} {a : Nat} (h : fst2 l (nR l) P1 E1 = none) (h2 : fst2 l (nR l) P1 E2 = some a) : partS g l = shortS g l a := by unfold partS chosen; rw [h, h2]
theorem part_none {g : Int} {l : List UInt8} (h : fst2 l (nR l) P1 E1 = none) (h2 : fst2 l (nR l) P1 E2 = none) : partS g l = (7, []) := by unfold partS chosen; rw [h, h2]
def parS (g : Int) (l : List UInt8) : Int × List (Int × Int) := if 1 ≤ g ∧ g ≤ 1024 then (if rowsE l = 0 then partS g l else (rowsE l, [])) else (1, [])
def PaP (r : Int × List (Int × Int)) (w : World) (e : Ending) (w' : World) : Prop := Below w.heap.size w w' ∧ ∃ A n c, e = .returned (.tuple #[.slice A n c, .int .i64 r.1]) ∧ Pl w' A n (if r.1 = 0 then r.2 else [])
theorem paP_err {r : Int × List (Int × Int)} {x : Int} {w w' : World} (h : r.1 = x) (hx : x ≠ 0) (hb : Below w.heap.size w w') : PaP r w (.returned (.tuple #[.slice none 0 0, .int .i64 x])) w' := by
  subst h
  exact ⟨hb, none, 0, 0, rfl, by rw [if_neg hx]; exact Pl.nil _⟩
theorem wl_new (w : World) (p1 e1 p2 e2 : Nat) (P E : Nat → Nat) (h : P 0 = p1 ∧ E 0 = e1 ∧ P 1 = p2 ∧ E 1 = e2) : Wl (w.alloc (.cells #[.int .u16 (p1 : Int), .int .u16 (e1 : Int), .int .u16 (p2 : Int), .int .u16 (e2 : Int)] 232)) ⟨w.heap.size, 0, none⟩ P E := by
  obtain ⟨rfl, rfl, rfl, rfl⟩ := h
  refine ⟨by show w.heap.size < _; simp, fun i hi => ?_⟩
  have hn := heap_alloc_new w (.cells #[.int .u16 (P 0 : Int), .int .u16 (E 0 : Int), .int .u16 (P 1 : Int), .int .u16 (E 1 : Int)] 232)
  rw [add_at, add_at, cell_of_row _ _ _ _ 232 (0, 0) hn, cell_of_row _ _ _ _ 232 (0, 0) hn]
  match i, hi with
  | 0, _ => exact ⟨rfl, rfl⟩
  | 1, _ => exact ⟨rfl, rfl⟩
theorem wl_a (w : World) : Wl (w.alloc (.cells #[.int .u16 3, .int .u16 10, .int .u16 0, .int .u16 4] 232)) ⟨w.heap.size, 0, none⟩ P1 E1 := wl_new w 3 10 0 4 P1 E1 ⟨rfl, rfl, rfl, rfl⟩
theorem wl_b (w : World) : Wl (w.alloc (.cells #[.int .u16 3, .int .u16 1, .int .u16 0, .int .u16 3] 232)) ⟨w.heap.size, 0, none⟩ P1 E2 := wl_new w 3 1 0 3 P1 E2 ⟨rfl, rfl, rfl, rfl⟩
structure PrS (w W : World) (b : Nat) (g : Int) (B n : Nat) (D : DataW Unit) : Prop where
  bel : Below w.heap.size w W
  ob : w.heap.size ≤ b
  gt : Gt w.heap.size W b g []
  own : W.ownsMap Tryz.prog 232 (plainElem Tryz.prog 3) B n D
section
variable {w W W' : World} {b B n : Nat} {g : Int} {D : DataW Unit}
theorem PrS.next (h : PrS w W b g B n D) (hb : Below W.heap.size W W') : PrS w W' b g B n D := ⟨h.bel.trans (hb.mono h.bel.size), h.ob, h.gt.next hb, h.own.kept (grown_below hb) (by simp)⟩
theorem PrS.alloc (h : PrS w W b g B n D) (o : Obj) : PrS w (W.alloc o) b g B n D := h.next ((Below.refl _ _).alloc (Nat.le_refl _) o)
end
namespace N12
theorem parse_bad (s : ByteArray) (g : Int) (w : World) (hg : ¬ (1 ≤ g ∧ g ≤ 1024)) : Calls Tryz.prog 77 #[.string s, .int .i64 g] w (PaP (parS g s.data.toList) w) := by
  have CG := Lib.hid (fun W => glyphs_any g W)
  rw [decide_eq_false hg] at CG
  have HQ := Lib.hid (fun w' => paP_err (w := w) (w' := w') (show (parS g s.data.toList).1 = 1 by unfold parS; rw [if_neg hg]) (by decide))
  clear hg
  go_enter Tryz.func77, Tryz.ntmps77
  go_wp2_with (go_at_call 95; (with_reducible refine (CG.out _).mono ?_); rintro e w' ⟨rfl, rfl⟩)
  go_ret2
  exact HQ.out _ (Below.refl _ _)
end N12
theorem parse_rows (s : ByteArray) (g : Int) (w : World) (hg : 1 ≤ g ∧ g ≤ 1024) (hs : s.size ≤ 1000000000) (hr : rowsE s.data.toList ≠ 0) : Calls Tryz.prog 77 #[.string s, .int .i64 g] w (PaP (parS g s.data.toList) w) := by
  have CG := Lib.hid (fun W => glyphs_any g W)
  rw [decide_eq_true hg] at CG
  have CR := Lib.hid (show Calls Tryz.prog 152 #[.string s] w fun e w' => e = .returned (.tuple #[.map none, .int .i64 (rowsE s.data.toList)]) ∧ Below w.heap.size w w' from (rows_any s w hs).mono fun e w' ⟨h1, h2, _⟩ => ⟨h2 hr, h1⟩)
  have HQ := Lib.hid (fun w' => paP_err (w := w) (w' := w') (show (parS g s.data.toList).1 = rowsE s.data.toList by unfold parS; rw [if_pos hg, if_neg hr]) hr)
  obtain ⟨x, hx⟩ : ∃ x, x = rowsE s.data.toList := ⟨_, rfl⟩
  rw [← hx] at CR HQ hr
  have e1 : (x != 0) = true := by simp [hr]
  clear hg hx hr hs
  go_enter Tryz.func77, Tryz.ntmps77
  go_wp2_with (first
    | (go_at_call 95; (with_reducible refine (CG.out _).mono ?_); rintro e w' ⟨rfl, rfl⟩)
    | (go_at_call 152; (with_reducible refine CR.out.mono ?_); rintro e w1 ⟨rfl, hb⟩; have HB := Lib.hid hb; clear hb))
  go_ret2
  exact HQ.out _ HB.out
namespace N12
set_option maxHeartbeats 8000000 in
set_option maxRecDepth 100000 in
theorem parse_good (s : ByteArray) (g : Int) (w : World) (hg : 1 ≤ g ∧ g ≤ 1024) (hs : s.size ≤ 1000000000) (hr : rowsE s.data.toList = 0) : Calls Tryz.prog 77 #[.string s, .int .i64 g] w (PaP (parS g s.data.toList) w) := by
  have CG := Lib.hid (fun W => glyphs_any g W)
  rw [decide_eq_true hg] at CG
  have CR := Lib.hid (show Calls Tryz.prog 152 #[.string s] w fun e w' => ∃ B D, e = .returned (.tuple #[.map (some B), .int .i64 0]) ∧ Below w.heap.size w w' ∧ w'.ownsMap Tryz.prog 232 (plainElem (H := Unit) Tryz.prog 3) B (nR s.data.toList) D ∧ LinkM s.data.toList (nR s.data.toList) D from (rows_any s w hs).mono fun e w' ⟨h1, _, h2⟩ => by
    obtain ⟨B, D, h3, h4, h5⟩ := h2 hr
    exact ⟨B, D, h3, h1, h4, h5⟩)
  have HPS := Lib.hid (show parS g s.data.toList = partS g s.data.toList by unfold parS; rw [if_pos hg, if_pos hr])
  have HC : Hid (∀ a, a < 4294967296 ∨ True) := Lib.hid (fun a => .inr trivial)
  have HL := Lib.hid (fun B b a W (h : Gt B W b g []) (hB : B ≤ W.heap.size) (ha : a < 4294967296) => readLong_any B b g s a W h hB hs ha hg.2)
  have HSh := Lib.hid (fun B b a W (h : Gt B W b g []) (hB : B ≤ W.heap.size) (ha : a < 4294967296) => readShort_any B b g s a W h hB hs ha)
  have HFr := Lib.hid (show ∀ p e k x, fr s.data.toList p e k = some x → x < 4294967296 from fun p e k => by
    induction k with
    | zero => intro x h; cases h
    | succ k ih =>
      intro x h
      cases hf : fr s.data.toList p e k with
      | some y => rw [fr_some hf] at h; injection h with h; rw [← h]; exact ih y hf
      | none =>
        rw [fr_none hf] at h
        split at h
        · injection h with h; rw [← h]; exact n4_lt _ _
        · cases h)
  have HF2 := Lib.hid (show ∀ n P E x, fst2 s.data.toList n P E = some x → x < 4294967296 from fun n P E x h => by
    unfold fst2 at h
    cases hf : fr s.data.toList (P 0) (E 0) n with
    | some y => rw [hf] at h; injection h with h; rw [← h]; exact HFr.out _ _ _ _ hf
    | none => rw [hf] at h; exact HFr.out _ _ _ _ h)
  have hP : ∀ i, P1 i < 65536 := fun i => by unfold P1; split <;> decide
  have hE1 : ∀ i, E1 i < 65536 := fun i => by unfold E1; split <;> decide
  have hE2 : ∀ i, E2 i < 65536 := fun i => by unfold E2; split <;> decide
  have CF1 := Lib.hid (fun B D (hL : LinkM s.data.toList (nR s.data.toList) D) a W (ho : W.ownsMap Tryz.prog 232 (plainElem Tryz.prog 3) B (nR s.data.toList) D) (hW : Wl W a P1 E1) => first_any s.data.toList (nR s.data.toList) B D a P1 E1 W ho hL hW hP hE1)
  have CF2 := Lib.hid (fun B D (hL : LinkM s.data.toList (nR s.data.toList) D) a W (ho : W.ownsMap Tryz.prog 232 (plainElem Tryz.prog 3) B (nR s.data.toList) D) (hW : Wl W a P1 E2) => first_any s.data.toList (nR s.data.toList) B D a P1 E2 W ho hL hW hP hE2)
  obtain ⟨n, hn⟩ : ∃ n, n = nR s.data.toList := ⟨_, rfl⟩
  obtain ⟨o1, ho1⟩ : ∃ o, o = fst2 s.data.toList (nR s.data.toList) P1 E1 := ⟨_, rfl⟩
  obtain ⟨o2, ho2⟩ : ∃ o, o = fst2 s.data.toList (nR s.data.toList) P1 E2 := ⟨_, rfl⟩
  have HCH1 := Lib.hid (show ∀ a, o1 = some a → partS g s.data.toList = longS g s.data.toList a from fun a h => part_long (ho1.symm.trans h))
  have HCH2 := Lib.hid (show ∀ a, o1 = none → o2 = some a → partS g s.data.toList = shortS g s.data.toList a from fun a h h2 => part_short (ho1.symm.trans h) (ho2.symm.trans h2))
  have HCH3 := Lib.hid (show o1 = none → o2 = none → partS g s.data.toList = (7, []) from fun h h2 => part_none (ho1.symm.trans h) (ho2.symm.trans h2))
  have HO1 := Lib.hid (show ∀ a, o1 = some a → a < 4294967296 from fun a h => HF2.out _ _ _ _ (ho1.symm.trans h))
  have HO2 := Lib.hid (show ∀ a, o2 = some a → a < 4294967296 from fun a h => HF2.out _ _ _ _ (ho2.symm.trans h))
  rw [← ho1] at CF1
  rw [← ho2] at CF2
  rw [← hn] at CF1 CF2 CR
  have HErr := Lib.hid (fun x w' (h : (partS g s.data.toList).1 = x) => paP_err (w := w) (w' := w') (show (parS g s.data.toList).1 = x by rw [HPS.out]; exact h))
  have HOk := Lib.hid (show ∀ r A m c w', partS g s.data.toList = r → r.1 = 0 → Below w.heap.size w w' → Pl w' A m r.2 → PaP (parS g s.data.toList) w (.returned (.tuple #[.slice A m c, .int .i64 0])) w' from fun r A m c w' h1 h2 h3 h4 => by
    rw [HPS.out, h1]
    exact ⟨h3, A, m, c, by rw [h2], by rw [if_pos h2]; exact h4⟩)
  clear hg hs hr hn ho1 ho2 hP hE1 hE2 HC HFr HF2
  go_enter Tryz.func77, Tryz.ntmps77
  go_upto_region 7 with (first
    | (go_at_call 95; (with_reducible refine (CG.out _).mono ?_); rintro e w' ⟨rfl, rfl⟩)
    | (go_at_call 152; (with_reducible refine CR.out.mono ?_); rintro e w1 ⟨B, D, rfl, hb, ho, hl⟩; have H1 := Lib.hid (And.intro hb ho); have HLk := Lib.hid hl; clear hb ho hl))
  have H2 := Lib.hid (show PrS w (w1.alloc (.cells #[.int .i64 g, .slice none 0 0] 228)) w1.heap.size g B n D from ⟨H1.out.1.alloc H1.out.1.size _, H1.out.1.size, ⟨_, heap_alloc_new w1 _, World.ownsRow_nil _ _ _ _⟩, H1.out.2.alloc _⟩)
  obtain ⟨b, hb⟩ : ∃ b, b = w1.heap.size := ⟨_, rfl⟩
  obtain ⟨W2, hW2⟩ : ∃ W, W = w1.alloc (.cells #[.int .i64 g, .slice none 0 0] 228) := ⟨_, rfl⟩
  rw [← hW2, ← hb] at H2
  rw [← hW2, ← hb]
  clear hW2 hb H1
  cases o1 with
  | some a =>
    have HA := Lib.hid (HO1.out a rfl)
    have HCH := Lib.hid (HCH1.out a rfl)
    have C1 := Lib.hid (show ∀ W, W.ownsMap Tryz.prog 232 (plainElem Tryz.prog 3) B n D → Wl W ⟨W2.heap.size, 0, none⟩ P1 E1 → Calls Tryz.prog 153 #[.map (some B), .slice (some ⟨W2.heap.size, 0, none⟩) 2 2] W fun e w' => e = .returned (.tuple #[.int .i64 (a : Int), .bool true]) ∧ Below W.heap.size W w' from fun W h1 h2 => CF1.out B D HLk.out _ W h1 h2)
    have CQ := Lib.hid (fun W h hB => HL.out w.heap.size b a W h hB HA.out)
    obtain ⟨r, hr⟩ : ∃ r, r = longS g s.data.toList a := ⟨_, rfl⟩
    rw [← hr] at CQ HCH
    obtain ⟨r1, r2⟩ := r
    clear hr
    by_cases hr0 : r1 = 0
    · subst hr0
      go_wp2_with (first
        | (go_at_call 153; (with_reducible refine (C1.out _ (H2.out.alloc _).own (wl_a _)).mono ?_); rintro e w4 ⟨rfl, hb⟩; have H4 := Lib.hid ((H2.out.alloc _).next hb); clear hb)
        | (go_at_call 154; (with_reducible refine (CQ.out _ H4.out.gt H4.out.bel.size).mono ?_); rintro e w6 ⟨rfl, hk6, hg6⟩; obtain ⟨v, hx⟩ := hg6 rfl; obtain ⟨A, c, rfl⟩ := own_form hx.own; obtain ⟨d0, d1⟩ := hx.cells; have H6 := Lib.hid (And.intro (H4.out.bel.trans (hk6.below (Nat.le_refl _) H4.out.ob H4.out.bel.size)) (own_pl hx.own rfl)); clear hk6 hg6 hx))
      go_ret2
      exact HOk.out _ A _ c _ HCH.out rfl H6.out.1 H6.out.2
    · have e9 : (r1 != 0) = true := by simp [hr0]
      have HQ := Lib.hid (fun w' => HErr.out r1 w' (by rw [HCH.out]) hr0)
      clear hr0
      go_wp2_with (first
        | (go_at_call 153; (with_reducible refine (C1.out _ (H2.out.alloc _).own (wl_a _)).mono ?_); rintro e w4 ⟨rfl, hb⟩; have H4 := Lib.hid ((H2.out.alloc _).next hb); clear hb)
        | (go_at_call 154; (with_reducible refine (CQ.out _ H4.out.gt H4.out.bel.size).mono ?_); rintro e w6 ⟨rfl, hk6, hg6⟩; have H6 := Lib.hid (H4.out.bel.trans (hk6.below (Nat.le_refl _) H4.out.ob H4.out.bel.size)); clear hk6 hg6))
      go_ret2
      exact HQ.out _ H6.out
  | none =>
    have C1 := Lib.hid (show ∀ W, W.ownsMap Tryz.prog 232 (plainElem Tryz.prog 3) B n D → Wl W ⟨W2.heap.size, 0, none⟩ P1 E1 → Calls Tryz.prog 153 #[.map (some B), .slice (some ⟨W2.heap.size, 0, none⟩) 2 2] W fun e w' => e = .returned (.tuple #[.int .i64 0, .bool false]) ∧ Below W.heap.size W w' from fun W h1 h2 => CF1.out B D HLk.out _ W h1 h2)
    cases o2 with
    | some a =>
      have HA := Lib.hid (HO2.out a rfl)
      have HCH := Lib.hid (HCH2.out a rfl rfl)
      have C2 := Lib.hid (show ∀ x W, W.ownsMap Tryz.prog 232 (plainElem Tryz.prog 3) B n D → Wl W ⟨x, 0, none⟩ P1 E2 → Calls Tryz.prog 153 #[.map (some B), .slice (some ⟨x, 0, none⟩) 2 2] W fun e w' => e = .returned (.tuple #[.int .i64 (a : Int), .bool true]) ∧ Below W.heap.size W w' from fun x W h1 h2 => CF2.out B D HLk.out _ W h1 h2)
      have CQ := Lib.hid (fun W h hB => HSh.out w.heap.size b a W h hB HA.out)
      obtain ⟨r, hr⟩ : ∃ r, r = shortS g s.data.toList a := ⟨_, rfl⟩
      rw [← hr] at CQ HCH
      obtain ⟨r1, r2⟩ := r
      clear hr
      by_cases hr0 : r1 = 0
      · subst hr0
        go_wp2_with (first
          | (go_at_call 153; (with_reducible refine (C1.out _ (H2.out.alloc _).own (wl_a _)).mono ?_); rintro e w4 ⟨rfl, hb⟩; have H4 := Lib.hid ((H2.out.alloc _).next hb); clear hb)
          | (go_at_call 153; (with_reducible refine (C2.out _ _ (H4.out.alloc _).own (wl_b _)).mono ?_); rintro e w5 ⟨rfl, hb⟩; have H5 := Lib.hid ((H4.out.alloc _).next hb); clear hb)
          | (go_at_call 155; (with_reducible refine (CQ.out _ H5.out.gt H5.out.bel.size).mono ?_); rintro e w6 ⟨rfl, hk6, hg6⟩; obtain ⟨v, hx⟩ := hg6 rfl; obtain ⟨A, c, rfl⟩ := own_form hx.own; obtain ⟨d0, d1⟩ := hx.cells; have H6 := Lib.hid (And.intro (H5.out.bel.trans (hk6.below (Nat.le_refl _) H5.out.ob H5.out.bel.size)) (own_pl hx.own rfl)); clear hk6 hg6 hx))
        go_ret2
        exact HOk.out _ A _ c _ HCH.out rfl H6.out.1 H6.out.2
      · have e9 : (r1 != 0) = true := by simp [hr0]
        have HQ := Lib.hid (fun w' => HErr.out r1 w' (by rw [HCH.out]) hr0)
        clear hr0
        go_wp2_with (first
          | (go_at_call 153; (with_reducible refine (C1.out _ (H2.out.alloc _).own (wl_a _)).mono ?_); rintro e w4 ⟨rfl, hb⟩; have H4 := Lib.hid ((H2.out.alloc _).next hb); clear hb)
          | (go_at_call 153; (with_reducible refine (C2.out _ _ (H4.out.alloc _).own (wl_b _)).mono ?_); rintro e w5 ⟨rfl, hb⟩; have H5 := Lib.hid ((H4.out.alloc _).next hb); clear hb)
          | (go_at_call 155; (with_reducible refine (CQ.out _ H5.out.gt H5.out.bel.size).mono ?_); rintro e w6 ⟨rfl, hk6, hg6⟩; have H6 := Lib.hid (H5.out.bel.trans (hk6.below (Nat.le_refl _) H5.out.ob H5.out.bel.size)); clear hk6 hg6))
        go_ret2
        exact HQ.out _ H6.out
    | none =>
      have HQ := Lib.hid (fun w' => HErr.out 7 w' (by rw [HCH3.out rfl rfl]) (by decide))
      have C2 := Lib.hid (show ∀ x W, W.ownsMap Tryz.prog 232 (plainElem Tryz.prog 3) B n D → Wl W ⟨x, 0, none⟩ P1 E2 → Calls Tryz.prog 153 #[.map (some B), .slice (some ⟨x, 0, none⟩) 2 2] W fun e w' => e = .returned (.tuple #[.int .i64 0, .bool false]) ∧ Below W.heap.size W w' from fun x W h1 h2 => CF2.out B D HLk.out _ W h1 h2)
      go_wp2_with (first
        | (go_at_call 153; (with_reducible refine (C1.out _ (H2.out.alloc _).own (wl_a _)).mono ?_); rintro e w4 ⟨rfl, hb⟩; have H4 := Lib.hid ((H2.out.alloc _).next hb); clear hb)
        | (go_at_call 153; (with_reducible refine (C2.out _ _ (H4.out.alloc _).own (wl_b _)).mono ?_); rintro e w5 ⟨rfl, hb⟩; have H5 := Lib.hid ((H4.out.alloc _).next hb); clear hb))
      go_ret2
      exact HQ.out _ H5.out.bel
theorem parse_any (s : ByteArray) (g : Int) (w : World) (hs : s.size ≤ 1000000000) : Calls Tryz.prog 77 #[.string s, .int .i64 g] w (PaP (parS g s.data.toList) w) := by
  by_cases hg : 1 ≤ g ∧ g ≤ 1024
  · by_cases hr : rowsE s.data.toList = 0
    · exact parse_good s g w hg hs hr
    · exact parse_rows s g w hg hs hr
  · exact parse_bad s g w hg
end N12
end Go.Proofs.YtfhaloclbbmbeaaGreat



namespace Go.Proofs.YtfhaloclbbmbeaaGreat
open Go.RowKit
theorem Pl.one {W : World} {a : Addr} {L : List (Int × Int)} (h : Pl W (some a) 2 L) : W.cell? { block := a.block, off := a.off + 2 } = some (.int .i64 (cd L 1)) ∧ W.cell? { block := a.block, off := a.off + 2 + 1 } = some (.int .i64 (gy L 1)) ∧ W.cell? a = some (.int .i64 (cd L 0)) ∧ W.cell? { block := a.block, off := a.off + 1 } = some (.int .i64 (gy L 0)) := by
  obtain ⟨x, hx, _, h1, h2⟩ := h.get 1 (by omega)
  injection hx with hx
  subst hx
  obtain ⟨x, hx, _, h3, h4⟩ := h.get 0 (by omega)
  injection hx with hx
  subst hx
  exact ⟨h1, h2, h3, h4⟩
end Go.Proofs.YtfhaloclbbmbeaaGreat
namespace Go.Proofs.YtfhaloclbbmbeaaGreat
open Go.RowKit
namespace N15
def Rd (T : TypeId) (w : World) (g : Nat) (s : ByteArray) (a : Nat) (f : Bool) : Prop := w.heap[g]? = some (.cells #[.string s, .int .i64 (a : Int), .bool f] T (0, 0))
structure Onl (g : Nat) (w w' : World) : Prop where
  os : w'.os = w.os
  tape : w'.tape = w.tape
  output : w'.output = w.output
  size : w.heap.size ≤ w'.heap.size
  block : ∀ k, k < w.heap.size → k ≠ g → w'.heap[k]? = w.heap[k]?
theorem Onl.below {g B : Nat} {w w' : World} (h : Onl g w w') (h1 : B ≤ g) (h2 : B ≤ w.heap.size) : Below B w w' := ⟨h.os, h.tape, h.output, h.size, fun k hk => h.block k (by omega) (by omega)⟩
theorem Onl.of {g : Nat} {w w' : World} (h : Below w.heap.size w w') : Onl g w w' := ⟨h.os, h.tape, h.output, h.size, fun k hk _ => h.block k hk⟩
theorem Onl.refl (g : Nat) (w : World) : Onl g w w := Onl.of (Below.refl _ _)
theorem Onl.trans {g : Nat} {a b c : World} (h : Onl g a b) (k : Onl g b c) : Onl g a c :=
  ⟨k.os.trans h.os, k.tape.trans h.tape, k.output.trans h.output, Nat.le_trans h.size k.size, fun i hi h2 => (k.block i (Nat.lt_of_lt_of_le hi h.size) h2).trans (h.block i hi h2)⟩
theorem Onl.set (g : Nat) (w : World) (j : Nat) (u : Value) : Onl g w (w.setCell ⟨g, j, none⟩ u) := ⟨rfl, rfl, rfl, by simp [World.setCell], fun _ _ h => Below.heap_setCell w _ u _ h⟩
section
variable {T : TypeId} {w w' : World} {g : Nat} {s : ByteArray} {a : Nat} {f : Bool}
theorem Rd.lt (h : Rd T w g s a f) : g < w.heap.size := by
  rcases Nat.lt_or_ge g w.heap.size with hl | hl
  · exact hl
  · unfold Rd at h; rw [Array.getElem?_eq_none hl] at h; cases h
theorem Rd.c0 (h : Rd T w g s a f) : w.cell? ⟨g, 0, none⟩ = some (.string s) := cell_of_row w g 0 _ T (0, 0) h
theorem Rd.c1 (h : Rd T w g s a f) : w.cell? ⟨g, 1, none⟩ = some (.int .i64 (a : Int)) := cell_of_row w g 1 _ T (0, 0) h
theorem Rd.c2 (h : Rd T w g s a f) : w.cell? ⟨g, 2, none⟩ = some (.bool f) := cell_of_row w g 2 _ T (0, 0) h
theorem Rd.fr (h : Rd T w g s a f) (j : Nat) : w.frozen? ⟨g, j, none⟩ = false := by
  unfold Rd at h
  simp [World.frozen?, h]
theorem Rd.below {B : Nat} (h : Rd T w g s a f) (hb : Below B w w') (hg : g < B) : Rd T w' g s a f := (hb.block g hg).trans h
theorem Rd.bel (h : Rd T w g s a f) (hb : Below w.heap.size w w') : Rd T w' g s a f := h.below hb h.lt
theorem Rd.onl {k : Nat} (h : Rd T w g s a f) (hb : Onl k w w') (hk : g ≠ k) : Rd T w' g s a f := (hb.block g h.lt hk).trans h
theorem Rd.new (T : TypeId) (w : World) (s : ByteArray) : Rd T (w.alloc (.cells #[.string s, .int .i64 0, .bool false] T)) w.heap.size s 0 false := heap_alloc_new w _
theorem Rd.drew (h : Rd T w g s a f) : Rd T w.drew g s a f := h
theorem Rd.set1 (h : Rd T w g s a f) (b : Nat) : Rd T (w.setCell ⟨g, 1, none⟩ (.int .i64 (b : Int))) g s b f := by
  unfold Rd at h ⊢
  simp [World.setCell, Array.getElem?_modify, h]
theorem Rd.set2 (h : Rd T w g s a f) (b : Bool) : Rd T (w.setCell ⟨g, 2, none⟩ (.bool b)) g s a b := by
  unfold Rd at h ⊢
  simp [World.setCell, Array.getElem?_modify, h]
theorem Rd.facts (h : Rd T w g s a f) : w.cell? ⟨g, 0, none⟩ = some (.string s) ∧ w.cell? ⟨g, 1, none⟩ = some (.int .i64 (a : Int)) ∧ w.cell? ⟨g, 2, none⟩ = some (.bool f) ∧ w.frozen? ⟨g, 1, none⟩ = false ∧ w.frozen? ⟨g, 2, none⟩ = false :=
  ⟨h.c0, h.c1, h.c2, h.fr 1, h.fr 2⟩
end
theorem new_any (s : ByteArray) (w : World) : Calls Tryz.prog 133 #[.string s] w fun e w' => e = .returned (.pointer (some ⟨w.heap.size, 0, none⟩)) ∧ Below w.heap.size w w' ∧ Rd 278 w' w.heap.size s 0 false ∧ w'.heap.size = w.heap.size + 1 := by
  go_enter Tryz.func133, Tryz.ntmps133
  go_wp2_with fail
  go_ret
  exact ⟨rfl, (Below.refl _ _).alloc (Nat.le_refl _) _, Rd.new 278 w s, by simp⟩
theorem err_any (g : Nat) (s : ByteArray) (a : Nat) (f : Bool) (w : World) (h : Rd 278 w g s a f) : Calls Tryz.prog 211 #[.pointer (some ⟨g, 0, none⟩)] w fun e w' => e = .returned (.int .i64 (if f then 3 else 0)) ∧ w = w' := by
  obtain ⟨f1, f2, f3, _, _⟩ := h.facts
  clear h
  cases f
  all_goals
    go_enter Tryz.func211, Tryz.ntmps211
    go_wp2_with fail
    go_ret
    exact ⟨rfl, rfl⟩
end N15
end Go.Proofs.YtfhaloclbbmbeaaGreat
namespace Go.Proofs.YtfhaloclbbmbeaaGreat
open Go.RowKit
namespace N15
def PsE (T : TypeId) (g : Nat) (s : ByteArray) (a : Nat) (f : Bool) (n : Int) (w w' : World) : Prop := Rd T w' g s (nxA s.size a f n) (!okR s.size a f n) ∧ Onl g w w'
set_option maxHeartbeats 2000000 in
theorem pass_any (g : Nat) (s : ByteArray) (a : Nat) (f : Bool) (n : Int) (w : World) (h : Rd 278 w g s a f) (hs : s.size ≤ 1000000000) (ha : a ≤ s.size) :
    Calls Tryz.prog 202 #[.pointer (some ⟨g, 0, none⟩), .int .i64 n] w fun e w' => e = .returned (.bool (okR s.size a f n)) ∧ PsE 278 g s a f n w w' := by
  have HR := Lib.hid h
  have HE := Lib.hid (fun W hW => err_any g s a f W hW)
  have HH := Lib.hid (fun W => (has_any s (a : Int) n W hs (by omega)).mono fun _ _ h => And.intro h.1 h.2.symm)
  have HO := Lib.hid (Onl.refl g w)
  obtain ⟨f1, f2, f3, f4, f5⟩ := HR.out.facts
  cases f
  · by_cases hn : Has s.size a n
    · have e1 : okR s.size a false n = true := by unfold okR; simp [hn]
      have e2 : nxA s.size a false n = a + n.toNat := by unfold nxA; rw [if_pos e1]
      unfold PsE
      rw [e1, e2]
      rw [decide_eq_true hn] at HH
      have hw : IntKind.i64.wrap ((a : Int) + n) = ((a + n.toNat : Nat) : Int) := by
        obtain ⟨h1, h2, h3⟩ := hn
        rw [i64_in _ (by omega)]; omega
      obtain ⟨b, hb⟩ : ∃ b, b = a + n.toNat := ⟨_, rfl⟩
      rw [← hb] at hw ⊢
      clear hb hn h
      go_enter Tryz.func202, Tryz.ntmps202
      go_wp2_with (go_at_call 211; (with_reducible refine (HE.out _ HR.out).mono ?_); rintro e w' ⟨rfl, rfl⟩)
      go_quiet ((go_at_call 199; exact Calls.quiet_of_same (HH.out _)))
      all_goals
        go_wp2_with fail
        go_ret
        exact ⟨rfl, Rd.set1 (w := w.drewN _) HR.out b, (Onl.of (below_drewN (Below.refl _ _) _)).trans (Onl.set g (w.drewN _) 1 _)⟩
    · have e1 : okR s.size a false n = false := by unfold okR; simp [hn]
      have e2 : nxA s.size a false n = a := by unfold nxA; rw [if_neg (by rw [e1]; simp)]
      unfold PsE
      rw [e1, e2]
      rw [decide_eq_false hn] at HH
      clear hn h
      go_enter Tryz.func202, Tryz.ntmps202
      go_wp2_with (go_at_call 211; (with_reducible refine (HE.out _ HR.out).mono ?_); rintro e w' ⟨rfl, rfl⟩)
      go_quiet ((go_at_call 199; exact Calls.quiet_of_same (HH.out _)))
      all_goals
        go_wp2_with fail
        go_ret
        exact ⟨rfl, Rd.set2 (w := w.drewN _) HR.out true, (Onl.of (below_drewN (Below.refl _ _) _)).trans (Onl.set g (w.drewN _) 2 _)⟩
  · have e1 : okR s.size a true n = false := rfl
    have e2 : nxA s.size a true n = a := rfl
    unfold PsE
    rw [e1, e2]
    clear h
    go_enter Tryz.func202, Tryz.ntmps202
    go_wp2_with (go_at_call 211; (with_reducible refine (HE.out _ HR.out).mono ?_); rintro e w' ⟨rfl, rfl⟩)
    go_ret
    exact ⟨rfl, HR.out, HO.out⟩
end N15
end Go.Proofs.YtfhaloclbbmbeaaGreat
