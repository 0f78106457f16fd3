/- Proved here: what Parse answers: the pairs of any table, or the error that is met first. Condition: a text of at most a billion bytes. -/
import Derived.Test.YtbmpdpajnmjfpaaVe
namespace Go.Proofs.Ytbmpdpajnmjfpaa
open Go.RowKit Go.Maps

attribute [local irreducible] kw
def P1 (i : Nat) : Nat := if i = 0 then 3 else 0
def E1 (i : Nat) : Nat := if i = 0 then 10 else 4
def E2 (i : Nat) : Nat := if i = 0 then 1 else 3
/-- The part that counts: its place, and whether it is one of 12. -/
def chosen (l : List UInt8) : Option (Bool × Nat) := match fst2 l (nR l) P1 E1 with
  | some a => some (true, a)
  | none => match fst2 l (nR l) P1 E2 with
    | some a => some (false, a)
    | none => none
/-- What Parse answers: an error, and the pairs. -/
def partS (g : Int) (l : List UInt8) : Int × List (Int × Int) := match chosen l with
  | some (true, a) => longS g l a
  | some (false, a) => shortS g l a
  | none => (7, [])
theorem part_long {g : Int} {l : List UInt8} {a : Nat} (h : fst2 l (nR l) P1 E1 = some a) : partS g l = longS g l a := by unfold partS chosen; rw [h]
theorem part_short {g : Int} {l : List UInt8} {a : Nat} (h : fst2 l (nR l) P1 E1 = none) (h2 : fst2 l (nR l) P1 E2 = some a) : partS g l = shortS g l a := by unfold partS chosen; rw [h, h2]
theorem part_none {g : Int} {l : List UInt8} (h : fst2 l (nR l) P1 E1 = none) (h2 : fst2 l (nR l) P1 E2 = none) : partS g l = (7, []) := by unfold partS chosen; rw [h, h2]
def parS (g : Int) (l : List UInt8) : Int × List (Int × Int) := if 1 ≤ g ∧ g ≤ 1024 then (if rowsE l = 0 then partS g l else (rowsE l, [])) else (1, [])
def PaP (r : Int × List (Int × Int)) (w : World) (e : Ending) (w' : World) : Prop := Below w.heap.size w w' ∧ ∃ A n c, e = .returned (.tuple #[.slice A n c, .int .i64 r.1]) ∧ Pl w' A n (if r.1 = 0 then r.2 else [])
theorem paP_err {r : Int × List (Int × Int)} {x : Int} {w w' : World} (h : r.1 = x) (hx : x ≠ 0) (hb : Below w.heap.size w w') : PaP r w (.returned (.tuple #[.slice none 0 0, .int .i64 x])) w' := by
  subst h
  exact ⟨hb, none, 0, 0, rfl, by rw [if_neg hx]; exact Pl.nil _⟩
theorem wl_new (w : World) (p1 e1 p2 e2 : Nat) (P E : Nat → Nat) (h : P 0 = p1 ∧ E 0 = e1 ∧ P 1 = p2 ∧ E 1 = e2) : Wl (w.alloc (.cells #[.int .u16 (p1 : Int), .int .u16 (e1 : Int), .int .u16 (p2 : Int), .int .u16 (e2 : Int)] 42)) ⟨w.heap.size, 0, none⟩ P E := by
  obtain ⟨rfl, rfl, rfl, rfl⟩ := h
  refine ⟨by show w.heap.size < _; simp, fun i hi => ?_⟩
  have hn := heap_alloc_new w (.cells #[.int .u16 (P 0 : Int), .int .u16 (E 0 : Int), .int .u16 (P 1 : Int), .int .u16 (E 1 : Int)] 42)
  rw [add_at, add_at, cell_of_row _ _ _ _ 42 (0, 0) hn, cell_of_row _ _ _ _ 42 (0, 0) hn]
  match i, hi with
  | 0, _ => exact ⟨rfl, rfl⟩
  | 1, _ => exact ⟨rfl, rfl⟩
theorem wl_a (w : World) : Wl (w.alloc (.cells #[.int .u16 3, .int .u16 10, .int .u16 0, .int .u16 4] 42)) ⟨w.heap.size, 0, none⟩ P1 E1 := wl_new w 3 10 0 4 P1 E1 ⟨rfl, rfl, rfl, rfl⟩
theorem wl_b (w : World) : Wl (w.alloc (.cells #[.int .u16 3, .int .u16 1, .int .u16 0, .int .u16 3] 42)) ⟨w.heap.size, 0, none⟩ P1 E2 := wl_new w 3 1 0 3 P1 E2 ⟨rfl, rfl, rfl, rfl⟩
/-- While the part is looked for: the map, and the box of what will be gathered. -/
structure PrS (w W : World) (b : Nat) (g : Int) (B n : Nat) (D : DataW Unit) : Prop where
  bel : Below w.heap.size w W
  ob : w.heap.size ≤ b
  gt : Gt w.heap.size W b g []
  own : W.ownsMap Try.prog 42 (plainElem Try.prog 3) B n D
section
variable {w W W' : World} {b B n : Nat} {g : Int} {D : DataW Unit}
theorem PrS.next (h : PrS w W b g B n D) (hb : Below W.heap.size W W') : PrS w W' b g B n D := ⟨h.bel.trans (hb.mono h.bel.size), h.ob, h.gt.next hb, h.own.kept (grown_below hb) (by simp)⟩
theorem PrS.alloc (h : PrS w W b g B n D) (o : Obj) : PrS w (W.alloc o) b g B n D := h.next ((Below.refl _ _).alloc (Nat.le_refl _) o)
end
theorem parse_bad (s : ByteArray) (g : Int) (w : World) (hg : ¬ (1 ≤ g ∧ g ≤ 1024)) : Calls Try.prog 12 #[.string s, .int .i64 g] w (PaP (parS g s.data.toList) w) := by
  have CG := Lib.hid (fun W => glyphs_any g W)
  rw [decide_eq_false hg] at CG
  have HQ := Lib.hid (fun w' => paP_err (w := w) (w' := w') (show (parS g s.data.toList).1 = 1 by unfold parS; rw [if_neg hg]) (by decide))
  clear hg
  go_enter Try.func12, Try.ntmps12
  go_wp2_with (go_at_call 22; (with_reducible refine (CG.out _).mono ?_); rintro e w' ⟨rfl, rfl⟩)
  go_ret2
  exact HQ.out _ (Below.refl _ _)
theorem parse_rows (s : ByteArray) (g : Int) (w : World) (hg : 1 ≤ g ∧ g ≤ 1024) (hs : s.size ≤ 1000000000) (hr : rowsE s.data.toList ≠ 0) : Calls Try.prog 12 #[.string s, .int .i64 g] w (PaP (parS g s.data.toList) w) := by
  have CG := Lib.hid (fun W => glyphs_any g W)
  rw [decide_eq_true hg] at CG
  have CR := Lib.hid (show Calls Try.prog 25 #[.string s] w fun e w' => e = .returned (.tuple #[.map none, .int .i64 (rowsE s.data.toList)]) ∧ Below w.heap.size w w' from (rows_any s w hs).mono fun e w' ⟨h1, h2, _⟩ => ⟨h2 hr, h1⟩)
  have HQ := Lib.hid (fun w' => paP_err (w := w) (w' := w') (show (parS g s.data.toList).1 = rowsE s.data.toList by unfold parS; rw [if_pos hg, if_neg hr]) hr)
  obtain ⟨x, hx⟩ : ∃ x, x = rowsE s.data.toList := ⟨_, rfl⟩
  rw [← hx] at CR HQ hr
  have e1 : (x != 0) = true := by simp [hr]
  clear hg hx hr hs
  go_enter Try.func12, Try.ntmps12
  go_wp2_with (first
    | (go_at_call 22; (with_reducible refine (CG.out _).mono ?_); rintro e w' ⟨rfl, rfl⟩)
    | (go_at_call 25; (with_reducible refine CR.out.mono ?_); rintro e w1 ⟨rfl, hb⟩; have HB := Lib.hid hb; clear hb))
  go_ret2
  exact HQ.out _ HB.out
set_option maxHeartbeats 8000000 in
set_option maxRecDepth 100000 in
theorem parse_good (s : ByteArray) (g : Int) (w : World) (hg : 1 ≤ g ∧ g ≤ 1024) (hs : s.size ≤ 1000000000) (hr : rowsE s.data.toList = 0) : Calls Try.prog 12 #[.string s, .int .i64 g] w (PaP (parS g s.data.toList) w) := by
  have CG := Lib.hid (fun W => glyphs_any g W)
  rw [decide_eq_true hg] at CG
  have CR := Lib.hid (show Calls Try.prog 25 #[.string s] w fun e w' => ∃ B D, e = .returned (.tuple #[.map (some B), .int .i64 0]) ∧ Below w.heap.size w w' ∧ w'.ownsMap Try.prog 42 (plainElem (H := Unit) Try.prog 3) B (nR s.data.toList) D ∧ LinkM s.data.toList (nR s.data.toList) D from (rows_any s w hs).mono fun e w' ⟨h1, _, h2⟩ => by
    obtain ⟨B, D, h3, h4, h5⟩ := h2 hr
    exact ⟨B, D, h3, h1, h4, h5⟩)
  have HPS := Lib.hid (show parS g s.data.toList = partS g s.data.toList by unfold parS; rw [if_pos hg, if_pos hr])
  have HC : Hid (∀ a, a < 4294967296 ∨ True) := Lib.hid (fun a => .inr trivial)
  have HL := Lib.hid (fun B b a W (h : Gt B W b g []) (hB : B ≤ W.heap.size) (ha : a < 4294967296) => readLong_any B b g s a W h hB hs ha hg.2)
  have HSh := Lib.hid (fun B b a W (h : Gt B W b g []) (hB : B ≤ W.heap.size) (ha : a < 4294967296) => readShort_any B b g s a W h hB hs ha)
  have HFr := Lib.hid (show ∀ p e k x, fr s.data.toList p e k = some x → x < 4294967296 from fun p e k => by
    induction k with
    | zero => intro x h; cases h
    | succ k ih =>
      intro x h
      cases hf : fr s.data.toList p e k with
      | some y => rw [fr_some hf] at h; injection h with h; rw [← h]; exact ih y hf
      | none =>
        rw [fr_none hf] at h
        split at h
        · injection h with h; rw [← h]; exact n4_lt _ _
        · cases h)
  have HF2 := Lib.hid (show ∀ n P E x, fst2 s.data.toList n P E = some x → x < 4294967296 from fun n P E x h => by
    unfold fst2 at h
    cases hf : fr s.data.toList (P 0) (E 0) n with
    | some y => rw [hf] at h; injection h with h; rw [← h]; exact HFr.out _ _ _ _ hf
    | none => rw [hf] at h; exact HFr.out _ _ _ _ h)
  have hP : ∀ i, P1 i < 65536 := fun i => by unfold P1; split <;> decide
  have hE1 : ∀ i, E1 i < 65536 := fun i => by unfold E1; split <;> decide
  have hE2 : ∀ i, E2 i < 65536 := fun i => by unfold E2; split <;> decide
  have CF1 := Lib.hid (fun B D (hL : LinkM s.data.toList (nR s.data.toList) D) a W (ho : W.ownsMap Try.prog 42 (plainElem Try.prog 3) B (nR s.data.toList) D) (hW : Wl W a P1 E1) => first_any s.data.toList (nR s.data.toList) B D a P1 E1 W ho hL hW hP hE1)
  have CF2 := Lib.hid (fun B D (hL : LinkM s.data.toList (nR s.data.toList) D) a W (ho : W.ownsMap Try.prog 42 (plainElem Try.prog 3) B (nR s.data.toList) D) (hW : Wl W a P1 E2) => first_any s.data.toList (nR s.data.toList) B D a P1 E2 W ho hL hW hP hE2)
  obtain ⟨n, hn⟩ : ∃ n, n = nR s.data.toList := ⟨_, rfl⟩
  obtain ⟨o1, ho1⟩ : ∃ o, o = fst2 s.data.toList (nR s.data.toList) P1 E1 := ⟨_, rfl⟩
  obtain ⟨o2, ho2⟩ : ∃ o, o = fst2 s.data.toList (nR s.data.toList) P1 E2 := ⟨_, rfl⟩
  have HCH1 := Lib.hid (show ∀ a, o1 = some a → partS g s.data.toList = longS g s.data.toList a from fun a h => part_long (ho1.symm.trans h))
  have HCH2 := Lib.hid (show ∀ a, o1 = none → o2 = some a → partS g s.data.toList = shortS g s.data.toList a from fun a h h2 => part_short (ho1.symm.trans h) (ho2.symm.trans h2))
  have HCH3 := Lib.hid (show o1 = none → o2 = none → partS g s.data.toList = (7, []) from fun h h2 => part_none (ho1.symm.trans h) (ho2.symm.trans h2))
  have HO1 := Lib.hid (show ∀ a, o1 = some a → a < 4294967296 from fun a h => HF2.out _ _ _ _ (ho1.symm.trans h))
  have HO2 := Lib.hid (show ∀ a, o2 = some a → a < 4294967296 from fun a h => HF2.out _ _ _ _ (ho2.symm.trans h))
  rw [← ho1] at CF1
  rw [← ho2] at CF2
  rw [← hn] at CF1 CF2 CR
  have HErr := Lib.hid (fun x w' (h : (partS g s.data.toList).1 = x) => paP_err (w := w) (w' := w') (show (parS g s.data.toList).1 = x by rw [HPS.out]; exact h))
  have HOk := Lib.hid (show ∀ r A m c w', partS g s.data.toList = r → r.1 = 0 → Below w.heap.size w w' → Pl w' A m r.2 → PaP (parS g s.data.toList) w (.returned (.tuple #[.slice A m c, .int .i64 0])) w' from fun r A m c w' h1 h2 h3 h4 => by
    rw [HPS.out, h1]
    exact ⟨h3, A, m, c, by rw [h2], by rw [if_pos h2]; exact h4⟩)
  clear hg hs hr hn ho1 ho2 hP hE1 hE2 HC HFr HF2
  go_enter Try.func12, Try.ntmps12
  go_upto_region 7 with (first
    | (go_at_call 22; (with_reducible refine (CG.out _).mono ?_); rintro e w' ⟨rfl, rfl⟩)
    | (go_at_call 25; (with_reducible refine CR.out.mono ?_); rintro e w1 ⟨B, D, rfl, hb, ho, hl⟩; have H1 := Lib.hid (And.intro hb ho); have HLk := Lib.hid hl; clear hb ho hl))
  have H2 := Lib.hid (show PrS w (w1.alloc (.cells #[.int .i64 g, .slice none 0 0] 59)) w1.heap.size g B n D from ⟨H1.out.1.alloc H1.out.1.size _, H1.out.1.size, ⟨_, heap_alloc_new w1 _, World.ownsRow_nil _ _ _ _⟩, H1.out.2.alloc _⟩)
  obtain ⟨b, hb⟩ : ∃ b, b = w1.heap.size := ⟨_, rfl⟩
  obtain ⟨W2, hW2⟩ : ∃ W, W = w1.alloc (.cells #[.int .i64 g, .slice none 0 0] 59) := ⟨_, rfl⟩
  rw [← hW2, ← hb] at H2
  rw [← hW2, ← hb]
  clear hW2 hb H1
  cases o1 with
  | some a =>
    have HA := Lib.hid (HO1.out a rfl)
    have HCH := Lib.hid (HCH1.out a rfl)
    have C1 := Lib.hid (show ∀ W, W.ownsMap Try.prog 42 (plainElem Try.prog 3) B n D → Wl W ⟨W2.heap.size, 0, none⟩ P1 E1 → Calls Try.prog 26 #[.map (some B), .slice (some ⟨W2.heap.size, 0, none⟩) 2 2] W fun e w' => e = .returned (.tuple #[.int .i64 (a : Int), .bool true]) ∧ Below W.heap.size W w' from fun W h1 h2 => CF1.out B D HLk.out _ W h1 h2)
    have CQ := Lib.hid (fun W h hB => HL.out w.heap.size b a W h hB HA.out)
    obtain ⟨r, hr⟩ : ∃ r, r = longS g s.data.toList a := ⟨_, rfl⟩
    rw [← hr] at CQ HCH
    obtain ⟨r1, r2⟩ := r
    clear hr
    by_cases hr0 : r1 = 0
    · subst hr0
      go_wp2_with (first
        | (go_at_call 26; (with_reducible refine (C1.out _ (H2.out.alloc _).own (wl_a _)).mono ?_); rintro e w4 ⟨rfl, hb⟩; have H4 := Lib.hid ((H2.out.alloc _).next hb); clear hb)
        | (go_at_call 27; (with_reducible refine (CQ.out _ H4.out.gt H4.out.bel.size).mono ?_); rintro e w6 ⟨rfl, hk6, hg6⟩; obtain ⟨v, hx⟩ := hg6 rfl; obtain ⟨A, c, rfl⟩ := own_form hx.own; obtain ⟨d0, d1⟩ := hx.cells; have H6 := Lib.hid (And.intro (H4.out.bel.trans (hk6.below (Nat.le_refl _) H4.out.ob H4.out.bel.size)) (own_pl hx.own rfl)); clear hk6 hg6 hx))
      go_ret2
      exact HOk.out _ A _ c _ HCH.out rfl H6.out.1 H6.out.2
    · have e9 : (r1 != 0) = true := by simp [hr0]
      have HQ := Lib.hid (fun w' => HErr.out r1 w' (by rw [HCH.out]) hr0)
      clear hr0
      go_wp2_with (first
        | (go_at_call 26; (with_reducible refine (C1.out _ (H2.out.alloc _).own (wl_a _)).mono ?_); rintro e w4 ⟨rfl, hb⟩; have H4 := Lib.hid ((H2.out.alloc _).next hb); clear hb)
        | (go_at_call 27; (with_reducible refine (CQ.out _ H4.out.gt H4.out.bel.size).mono ?_); rintro e w6 ⟨rfl, hk6, hg6⟩; have H6 := Lib.hid (H4.out.bel.trans (hk6.below (Nat.le_refl _) H4.out.ob H4.out.bel.size)); clear hk6 hg6))
      go_ret2
      exact HQ.out _ H6.out
  | none =>
    have C1 := Lib.hid (show ∀ W, W.ownsMap Try.prog 42 (plainElem Try.prog 3) B n D → Wl W ⟨W2.heap.size, 0, none⟩ P1 E1 → Calls Try.prog 26 #[.map (some B), .slice (some ⟨W2.heap.size, 0, none⟩) 2 2] W fun e w' => e = .returned (.tuple #[.int .i64 0, .bool false]) ∧ Below W.heap.size W w' from fun W h1 h2 => CF1.out B D HLk.out _ W h1 h2)
    cases o2 with
    | some a =>
      have HA := Lib.hid (HO2.out a rfl)
      have HCH := Lib.hid (HCH2.out a rfl rfl)
      have C2 := Lib.hid (show ∀ x W, W.ownsMap Try.prog 42 (plainElem Try.prog 3) B n D → Wl W ⟨x, 0, none⟩ P1 E2 → Calls Try.prog 26 #[.map (some B), .slice (some ⟨x, 0, none⟩) 2 2] W fun e w' => e = .returned (.tuple #[.int .i64 (a : Int), .bool true]) ∧ Below W.heap.size W w' from fun x W h1 h2 => CF2.out B D HLk.out _ W h1 h2)
      have CQ := Lib.hid (fun W h hB => HSh.out w.heap.size b a W h hB HA.out)
      obtain ⟨r, hr⟩ : ∃ r, r = shortS g s.data.toList a := ⟨_, rfl⟩
      rw [← hr] at CQ HCH
      obtain ⟨r1, r2⟩ := r
      clear hr
      by_cases hr0 : r1 = 0
      · subst hr0
        go_wp2_with (first
          | (go_at_call 26; (with_reducible refine (C1.out _ (H2.out.alloc _).own (wl_a _)).mono ?_); rintro e w4 ⟨rfl, hb⟩; have H4 := Lib.hid ((H2.out.alloc _).next hb); clear hb)
          | (go_at_call 26; (with_reducible refine (C2.out _ _ (H4.out.alloc _).own (wl_b _)).mono ?_); rintro e w5 ⟨rfl, hb⟩; have H5 := Lib.hid ((H4.out.alloc _).next hb); clear hb)
          | (go_at_call 28; (with_reducible refine (CQ.out _ H5.out.gt H5.out.bel.size).mono ?_); rintro e w6 ⟨rfl, hk6, hg6⟩; obtain ⟨v, hx⟩ := hg6 rfl; obtain ⟨A, c, rfl⟩ := own_form hx.own; obtain ⟨d0, d1⟩ := hx.cells; have H6 := Lib.hid (And.intro (H5.out.bel.trans (hk6.below (Nat.le_refl _) H5.out.ob H5.out.bel.size)) (own_pl hx.own rfl)); clear hk6 hg6 hx))
        go_ret2
        exact HOk.out _ A _ c _ HCH.out rfl H6.out.1 H6.out.2
      · have e9 : (r1 != 0) = true := by simp [hr0]
        have HQ := Lib.hid (fun w' => HErr.out r1 w' (by rw [HCH.out]) hr0)
        clear hr0
        go_wp2_with (first
          | (go_at_call 26; (with_reducible refine (C1.out _ (H2.out.alloc _).own (wl_a _)).mono ?_); rintro e w4 ⟨rfl, hb⟩; have H4 := Lib.hid ((H2.out.alloc _).next hb); clear hb)
          | (go_at_call 26; (with_reducible refine (C2.out _ _ (H4.out.alloc _).own (wl_b _)).mono ?_); rintro e w5 ⟨rfl, hb⟩; have H5 := Lib.hid ((H4.out.alloc _).next hb); clear hb)
          | (go_at_call 28; (with_reducible refine (CQ.out _ H5.out.gt H5.out.bel.size).mono ?_); rintro e w6 ⟨rfl, hk6, hg6⟩; have H6 := Lib.hid (H5.out.bel.trans (hk6.below (Nat.le_refl _) H5.out.ob H5.out.bel.size)); clear hk6 hg6))
        go_ret2
        exact HQ.out _ H6.out
    | none =>
      have HQ := Lib.hid (fun w' => HErr.out 7 w' (by rw [HCH3.out rfl rfl]) (by decide))
      have C2 := Lib.hid (show ∀ x W, W.ownsMap Try.prog 42 (plainElem Try.prog 3) B n D → Wl W ⟨x, 0, none⟩ P1 E2 → Calls Try.prog 26 #[.map (some B), .slice (some ⟨x, 0, none⟩) 2 2] W fun e w' => e = .returned (.tuple #[.int .i64 0, .bool false]) ∧ Below W.heap.size W w' from fun x W h1 h2 => CF2.out B D HLk.out _ W h1 h2)
      go_wp2_with (first
        | (go_at_call 26; (with_reducible refine (C1.out _ (H2.out.alloc _).own (wl_a _)).mono ?_); rintro e w4 ⟨rfl, hb⟩; have H4 := Lib.hid ((H2.out.alloc _).next hb); clear hb)
        | (go_at_call 26; (with_reducible refine (C2.out _ _ (H4.out.alloc _).own (wl_b _)).mono ?_); rintro e w5 ⟨rfl, hb⟩; have H5 := Lib.hid ((H4.out.alloc _).next hb); clear hb))
      go_ret2
      exact HQ.out _ H5.out.bel
theorem parse_any (s : ByteArray) (g : Int) (w : World) (hs : s.size ≤ 1000000000) : Calls Try.prog 12 #[.string s, .int .i64 g] w (PaP (parS g s.data.toList) w) := by
  by_cases hg : 1 ≤ g ∧ g ≤ 1024
  · by_cases hr : rowsE s.data.toList = 0
    · exact parse_good s g w hg hs hr
    · exact parse_rows s g w hg hs hr
  · exact parse_bad s g w hg
end Go.Proofs.Ytbmpdpajnmjfpaa
