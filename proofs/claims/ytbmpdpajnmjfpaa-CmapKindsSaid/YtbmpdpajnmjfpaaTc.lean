/- Proved here: what rows answers: the place of each first row, or an error. Condition: a text of at most a billion bytes. -/
import Derived.Test.YtbmpdpajnmjfpaaTb
namespace Go.Proofs.Ytbmpdpajnmjfpaa
open Go.RowKit Go.Maps

attribute [local irreducible] kw
/-- The error of a table's rows. -/
def rowsE (l : List UInt8) : Int := if l.length < 4 then 3 else if l.length < 4 + 8 * n2 l 2 then 3 else if n2 l 0 = 0 then 0 else 4
def nR (l : List UInt8) : Nat := n2 l 2
/-- What rows answers. -/
def RowsP (l : List UInt8) (w : World) (e : Ending) (w' : World) : Prop :=
  Below w.heap.size w w' ∧ (rowsE l ≠ 0 → e = .returned (.tuple #[.map none, .int .i64 (rowsE l)])) ∧
    (rowsE l = 0 → ∃ B D, e = .returned (.tuple #[.map (some B), .int .i64 0]) ∧ w'.ownsMap Try.prog 42 (plainElem (H := Unit) Try.prog 3) B (nR l) D ∧ LinkM l (nR l) D)
theorem grown_onl {g : Nat} {w w' : World} (h : Onl g w w') : w.grownBy w' (some g) := ⟨h.os, h.tape, h.output, h.size, fun k hk hn => h.block k hk fun e => hn (by rw [e])⟩
theorem grown_below {w w' : World} (h : Below w.heap.size w w') : w.grownBy w' none := ⟨h.os, h.tape, h.output, h.size, fun i hi _ => h.block i hi⟩
/-- While rows are read: the reader, and the map. -/
structure RwS (w W : World) (g : Nat) (s : ByteArray) (a k B : Nat) (D : DataW Unit) : Prop where
  bel : Below w.heap.size w W
  og : w.heap.size ≤ g
  oB : w.heap.size ≤ B
  rd : Rd 106 W g s a false
  own : W.ownsMap Try.prog 42 (plainElem Try.prog 3) B k D
section
variable {w W W' : World} {g : Nat} {s : ByteArray} {a k B : Nat} {D : DataW Unit}
theorem map_ne {T : TypeId} {cs : Array Value} {fr : Nat × Nat} {x : Nat} (h : W.ownsMap Try.prog 42 (plainElem (H := Unit) Try.prog 3) B k D) (hx : W.heap[x]? = some (.cells cs T fr)) : x ≠ B := by
  obtain ⟨es, clock, hb, _⟩ := h
  intro e
  subst e
  rw [hx] at hb
  injection hb with hb
  cases hb
theorem RwS.next (h : RwS w W g s a k B D) (hb : Below W.heap.size W W') : RwS w W' g s a k B D := ⟨h.bel.trans (hb.mono h.bel.size), h.og, h.oB, h.rd.bel hb, h.own.kept (grown_below hb) (by simp)⟩
theorem RwS.read (h : RwS w W g s a k B D) {a' : Nat} (hr : Rd 106 W' g s a' false) (ho : Onl g W W') : RwS w W' g s a' k B D :=
  ⟨h.bel.trans (ho.below h.og h.bel.size), h.og, h.oB, hr, h.own.kept (grown_onl ho) (fun e => by injection e with e; exact map_ne h.own h.rd e.symm)⟩
theorem RwS.put (h : RwS w W g s a k B D) {k' : Nat} {D' : DataW Unit} (ho : W'.ownsMap Try.prog 42 (plainElem Try.prog 3) B k' D') (hg : W.grownBy W' (some B)) : RwS w W' g s a k' B D' :=
  ⟨h.bel.grown hg h.bel.size (fun i hi => by injection hi with hi; subst hi; exact h.oB), h.og, h.oB, (hg.block g h.rd.lt (fun e => by injection e with e; exact map_ne h.own h.rd e)).trans h.rd, ho⟩
end
/-- .. with the box of a row's two numbers. -/
structure RbS (w W : World) (g : Nat) (s : ByteArray) (a k B : Nat) (D : DataW Unit) (b p e : Nat) : Prop where
  r : RwS w W g s a k B D
  ob : w.heap.size ≤ b
  box : W.heap[b]? = some (.cells #[.int .u16 (p : Int), .int .u16 (e : Int)] 42 (0, 0))
section
variable {w W W' : World} {g : Nat} {s : ByteArray} {a k B b p e : Nat} {D : DataW Unit}
theorem RbS.ng (h : RbS w W g s a k B D b p e) : b ≠ g := fun x => by
  have h1 := h.box
  have h2 := h.r.rd
  unfold Rd at h2
  rw [x, h2] at h1
  injection h1 with h1
  injection h1 with _ h1 _
  exact absurd h1 (by decide)
theorem RbS.read (h : RbS w W g s a k B D b p e) {a' : Nat} (hr : Rd 106 W' g s a' false) (ho : Onl g W W') : RbS w W' g s a' k B D b p e := ⟨h.r.read hr ho, h.ob, (ho.block b (heap_lt h.box) h.ng).trans h.box⟩
theorem RbS.set0 (h : RbS w W g s a k B D b p e) (x : Nat) : RbS w (W.setCell ⟨b, 0, none⟩ (.int .u16 (x : Int))) g s a k B D b x e := by
  have hg := h.box
  refine ⟨⟨h.r.bel.setCell h.ob _, h.r.og, h.r.oB, (Below.heap_setCell W ⟨b, 0, none⟩ _ g h.ng.symm).trans h.r.rd, h.r.own.kept (row := some b) ⟨rfl, rfl, rfl, by simp [World.setCell], fun j _ hj => Below.heap_setCell W ⟨b, 0, none⟩ _ j (fun e => hj (by rw [e]))⟩ (fun e => by injection e with e; exact map_ne h.r.own h.box e.symm)⟩, h.ob, ?_⟩
  simp [World.setCell, Array.getElem?_modify, hg]
theorem RbS.set1 (h : RbS w W g s a k B D b p e) (x : Nat) : RbS w (W.setCell ⟨b, 1, none⟩ (.int .u16 (x : Int))) g s a k B D b p x := by
  have hg := h.box
  refine ⟨⟨h.r.bel.setCell h.ob _, h.r.og, h.r.oB, (Below.heap_setCell W ⟨b, 1, none⟩ _ g h.ng.symm).trans h.r.rd, h.r.own.kept (row := some b) ⟨rfl, rfl, rfl, by simp [World.setCell], fun j _ hj => Below.heap_setCell W ⟨b, 1, none⟩ _ j (fun e => hj (by rw [e]))⟩ (fun e => by injection e with e; exact map_ne h.r.own h.box e.symm)⟩, h.ob, ?_⟩
  simp [World.setCell, Array.getElem?_modify, hg]
theorem RbS.cells (h : RbS w W g s a k B D b p e) : W.cell? ⟨b, 0, none⟩ = some (.int .u16 (p : Int)) ∧ W.cell? ⟨b, 1, none⟩ = some (.int .u16 (e : Int)) := ⟨cell_of_row W b 0 _ 42 (0, 0) h.box, cell_of_row W b 1 _ 42 (0, 0) h.box⟩
theorem RbS.frs (h : RbS w W g s a k B D b p e) : W.frozen? ⟨b, 0, none⟩ = false ∧ W.frozen? ⟨b, 1, none⟩ = false := ⟨by simp [World.frozen?, h.box], by simp [World.frozen?, h.box]⟩
theorem RwS.box (h : RwS w W g s a k B D) : RbS w (W.alloc (.cells #[.int .u16 0, .int .u16 0] 42)) g s a k B D W.heap.size 0 0 := ⟨h.next ((Below.refl _ _).alloc (Nat.le_refl _) _), h.bel.size, heap_alloc_new W _⟩
end
/-- Reading numbers that are there. -/
theorem rin16 (g : Nat) (s : ByteArray) (a : Nat) (w : World) (h : Rd 106 w g s a false) (hs : s.size ≤ 1000000000) (ha : a + 2 ≤ s.size) :
    Calls Try.prog 37 #[.pointer (some ⟨g, 0, none⟩)] w fun e w' => e = .returned (.int .u16 (n2 s.data.toList a : Int)) ∧ Rd 106 w' g s (a + 2) false ∧ Onl g w w' :=
  (rd16_any g s a false w h hs (by omega)).mono fun e w' ⟨v, a', f', h1, h2, h3, h4, h5, h6⟩ => by
    cases f'
    · obtain ⟨_, _, h7⟩ := h3.yes rfl
      subst h7
      exact ⟨by rw [h1, h4 rfl], h5, h6⟩
    · rcases h3.no rfl with h7 | h7
      · cases h7
      · omega
theorem rin32 (g : Nat) (s : ByteArray) (a : Nat) (w : World) (h : Rd 106 w g s a false) (hs : s.size ≤ 1000000000) (ha : a + 4 ≤ s.size) :
    Calls Try.prog 40 #[.pointer (some ⟨g, 0, none⟩)] w fun e w' => e = .returned (.int .u32 (n4 s.data.toList a : Int)) ∧ Rd 106 w' g s (a + 4) false ∧ Onl g w w' :=
  (rd32_any g s a false w h hs (by omega)).mono fun e w' ⟨v, a', f', h1, h2, h3, h4, h5, h6⟩ => by
    cases f'
    · obtain ⟨_, _, h7⟩ := h3.yes rfl
      subst h7
      exact ⟨by rw [h1, h4 rfl], h5, h6⟩
    · rcases h3.no rfl with h7 | h7
      · cases h7
      · omega
set_option maxHeartbeats 4000000 in
set_option maxRecDepth 100000 in
theorem rows_any (s : ByteArray) (w : World) (hs : s.size ≤ 1000000000) : Calls Try.prog 25 #[.string s] w (RowsP s.data.toList w) := by
  have HN := Lib.hid (new_any s w)
  have HS := Lib.hid hs
  obtain ⟨g, hg⟩ : ∃ g, g = w.heap.size := ⟨_, rfl⟩
  have HG := Lib.hid (show w.heap.size ≤ g by omega)
  have HR := Lib.hid (show ∀ (v1 v2 : Nat), 4 ≤ s.size → v1 = n2 s.data.toList 0 → v2 = n2 s.data.toList 2 → nR s.data.toList = v2 ∧ rowsE s.data.toList = if s.size < 4 + 8 * v2 then 3 else if v1 = 0 then 0 else 4 from fun v1 v2 h h1 h2 => by
    unfold rowsE nR
    rw [size_list, if_neg (by omega), ← h1, ← h2]
    exact ⟨rfl, rfl⟩)
  have HE := Lib.hid (show s.size < 4 → rowsE s.data.toList = 3 from fun h => by unfold rowsE; rw [size_list, if_pos h])
  have HP := Lib.hid (show ∀ (x : Int) w', rowsE s.data.toList = x → x ≠ 0 → Below w.heap.size w w' → RowsP s.data.toList w (.returned (.tuple #[.map none, .int .i64 x])) w' from fun x w' h1 h2 h3 => ⟨h3, fun _ => by rw [h1], fun h => absurd (h1.symm.trans h) h2⟩)
  have hmm := @run_makeMap Try.prog
  rw [← hg] at HN
  clear hg hs
  go_enter Try.func25, Try.ntmps25
  go_upto_region 4 with (first
    | (go_at_call 36; (with_reducible refine HN.out.mono ?_); rintro e w1 ⟨rfl, hb, hr, _⟩; have H1 := Lib.hid (show RdS w w1 g s 0 false from ⟨hb.mono HG.out, HG.out, hr, Nat.zero_le _⟩); clear hb hr)
    | (go_at_call 37; (with_reducible refine (rd16_any _ _ _ _ _ H1.out.rd HS.out H1.out.le).mono ?_); rintro e w2 ⟨v1, a1, f1, rfl, hv1, hn1, hq1, hr, ho⟩; have H2 := Lib.hid (H1.out.read hn1 hr ho); have N1 := Lib.hid (And.intro hn1 hq1); clear hr ho hn1 hq1)
    | (go_at_call 37; (with_reducible refine (rd16_any _ _ _ _ _ H2.out.rd HS.out H2.out.le).mono ?_); rintro e w3 ⟨v2, a2, f2, rfl, hv2, hn2, hq2, hr, ho⟩; have H3 := Lib.hid (H2.out.read hn2 hr ho); have N2 := Lib.hid (And.intro hn2 hq2); clear hr ho hn2 hq2))
  have CE := Lib.hid (err_any g s a2 f2 w3 H3.out.rd)
  cases f2
  · obtain ⟨hf1, h4, ha2⟩ := N2.out.1.yes rfl
    obtain ⟨_, h2, ha1⟩ := N1.out.1.yes hf1
    have hz4 : 4 ≤ s.size := by omega
    have hvv1 := N1.out.2 hf1
    have hvv2 := N2.out.2 rfl
    have ha14 : a2 = 4 := by omega
    subst ha1 ha14
    rw [show 0 + 2 = 2 from rfl] at hvv2
    obtain ⟨hnR, hrE⟩ := HR.out v1 v2 hz4 hvv1 hvv2
    have CL := Lib.hid (left_any g s 4 false w3 H3.out.rd HS.out (by omega))
    obtain ⟨z, hz⟩ : ∃ z, z = s.size - 4 := ⟨_, rfl⟩
    rw [show (s.size : Int) - ((4 : Nat) : Int) = (z : Int) by omega] at CL
    have e1 : IntKind.i64.wrap ((v2 : Int) * 8) = (v2 : Int) * 8 := i64_in _ (by omega)
    by_cases hsh : s.size < 4 + 8 * v2
    · rw [if_pos hsh] at hrE
      have hzz : (z : Int) < (v2 : Int) * 8 := by omega
      have HQ := Lib.hid (fun w' => HP.out 3 w' hrE (by decide))
      clear hf1 h4 ha2 h2 hz4 hvv1 hvv2 hnR hrE hz hsh HR HE
      go_wp2_with (first
        | (go_at_call 38; (with_reducible refine CE.out.mono ?_); rintro e w' ⟨rfl, rfl⟩)
        | (go_at_call 39; (with_reducible refine CL.out.mono ?_); rintro e w4 ⟨rfl, hb⟩; have H4 := Lib.hid (H3.out.next hb); clear hb))
      go_ret2
      exact HQ.out _ H4.out.bel
    · rw [if_neg hsh] at hrE
      have hzz : ¬ (z : Int) < (v2 : Int) * 8 := by omega
      by_cases hv0 : v1 = 0
      · rw [if_pos hv0] at hrE
        have HNR := Lib.hid hnR
        have HV2 := Lib.hid (And.intro hvv2 (show 4 + 8 * v2 ≤ s.size by omega))
        have HQ := Lib.hid (show ∀ (B : Nat) (D : DataW Unit) w', Below w.heap.size w w' → w'.ownsMap Try.prog 42 (plainElem Try.prog 3) B v2 D → LinkM s.data.toList v2 D → RowsP s.data.toList w (.returned (.tuple #[.map (some B), .int .i64 0])) w' from fun B D w' h1 h2 h3 => ⟨h1, fun h => absurd hrE h, fun _ => ⟨B, D, rfl, by rw [hnR]; exact h2, by rw [hnR]; exact h3⟩⟩)
        subst hv0
        clear hf1 h4 ha2 h2 hz4 hvv1 hvv2 hnR hrE hz hsh HR HE HP N1 N2
        go_upto_region 9 with (first
          | (go_at_call 38; (with_reducible refine CE.out.mono ?_); rintro e w' ⟨rfl, rfl⟩)
          | (go_at_call 39; (with_reducible refine CL.out.mono ?_); rintro e w4 ⟨rfl, hb⟩; have H4 := Lib.hid (H3.out.next hb); clear hb))
        have HM := Lib.hid (show RwS w (w4.alloc (.map #[] 0)) g s 4 0 w4.heap.size (.map []) from ⟨H4.out.bel.alloc H4.out.bel.size _, H4.out.og, H4.out.bel.size, H4.out.rd.bel ((Below.refl _ _).alloc (Nat.le_refl _) _), World.ownsMap_made _ _ _ _⟩)
        obtain ⟨B, hB⟩ : ∃ B, B = w4.heap.size := ⟨_, rfl⟩
        obtain ⟨W5, hW5⟩ : ∃ W, W = w4.alloc (.map #[] 0) := ⟨_, rfl⟩
        rw [← hB, ← hW5] at HM
        rw [← hB, ← hW5]
        clear hB hW5 hzz
        go_wp2_with fail
        go_loopw [33] (fun i wr => ∃ (k : Nat) (D : DataW Unit), i = .int .i64 (k : Int) ∧ k ≤ v2 ∧ RwS w wr g s (4 + 8 * k) k B D ∧ LinkM s.data.toList k D) (fun i _ => v2 - (intOf i).toNat)
        case atStart => exact ⟨0, .map [], rfl, Nat.zero_le _, HM.out, LinkM.start _⟩
        case round =>
          obtain ⟨k, D, rfl, hk, hR, hLk⟩ := hrel
          have HR := Lib.hid hR
          have HLk := Lib.hid hLk
          clear hR hLk
          by_cases hgo : k < v2
          · obtain ⟨a0, ha0⟩ : ∃ a, a = 4 + 8 * k := ⟨_, rfl⟩
            rw [← ha0] at HR
            have hsz := HV2.out.2
            have G1 := Lib.hid (fun W (h : Rd 106 W g s a0 false) => rin16 g s a0 W h HS.out (by omega))
            have G2 := Lib.hid (fun W (h : Rd 106 W g s (a0 + 2) false) => rin16 g s (a0 + 2) W h HS.out (by omega))
            have G3 := Lib.hid (fun W (h : Rd 106 W g s (a0 + 2 + 2) false) => rin32 g s (a0 + 2 + 2) W h HS.out (by omega))
            have HLy := Lib.hid (fun h => HLk.out.keep h)
            have HLn := Lib.hid (fun h => HLk.out.put h)
            have HVk := Lib.hid (show ∀ (h : (fr s.data.toList (n2 s.data.toList (4 + 8 * k)) (n2 s.data.toList (6 + 8 * k)) k).isSome = true), True from fun _ => trivial)
            rw [show 4 + 8 * k = a0 from ha0.symm, show 6 + 8 * k = a0 + 2 by omega] at HLy HLn
            rw [show 8 + 8 * k = a0 + 2 + 2 by omega] at HLn
            have bp := n2_lt s.data.toList a0
            have be := n2_lt s.data.toList (a0 + 2)
            have bq := n4_lt s.data.toList (a0 + 2 + 2)
            obtain ⟨p, hp⟩ : ∃ p, p = n2 s.data.toList a0 := ⟨_, rfl⟩
            obtain ⟨q, hq⟩ : ∃ q, q = n2 s.data.toList (a0 + 2) := ⟨_, rfl⟩
            obtain ⟨x, hx⟩ : ∃ x, x = n4 s.data.toList (a0 + 2 + 2) := ⟨_, rfl⟩
            rw [← hp] at G1 bp HLy HLn
            rw [← hq] at G2 be HLy HLn
            rw [← hx] at G3 bq HLn
            have HK := Lib.hid (show keyOf Try.prog 42 (.agg #[.int .u16 (p : Int), .int .u16 (q : Int)]) = some (kw p q) from kw_is bp be)
            have e2 : IntKind.i64.wrap (x : Int) = (x : Int) := i64_in _ (by omega)
            have HA := Lib.hid (show 4 + 8 * (k + 1) = a0 + 2 + 2 + 4 by omega)
            have hkv : k < 65536 := by omega
            have hwf : (Lit.int .i64 (x : Int)).wf = true := WalkArith.wf_i64 (by omega)
            have HWF := Lib.hid hwf
            clear ha0 hsz hp hq hx HLk hwf bp be HVk
            go_upto_region 12 with fail
            have K1 := Lib.hid HR.out.box
            obtain ⟨b, hb⟩ : ∃ b, b = wr.heap.size := ⟨_, rfl⟩
            obtain ⟨W1, hW1⟩ : ∃ W, W = wr.alloc (.cells #[.int .u16 0, .int .u16 0] 42) := ⟨_, rfl⟩
            rw [← hb, ← hW1] at K1
            rw [← hb, ← hW1]
            clear hb hW1 HR
            go_upto_region 13 with (go_at_call 37; (with_reducible refine (G1.out _ K1.out.r.rd).mono ?_); rintro e w6 ⟨rfl, hr, ho⟩; have K2 := Lib.hid (K1.out.read hr ho); clear hr ho; obtain ⟨r0, r1⟩ := K2.out.frs; obtain ⟨d0, d1⟩ := K2.out.cells)
            have K3 := Lib.hid (K2.out.set0 p)
            obtain ⟨W3, hW3⟩ : ∃ W, W = w6.setCell ⟨b, 0, none⟩ (.int .u16 (p : Int)) := ⟨_, rfl⟩
            rw [← hW3] at K3 ⊢
            clear hW3 K1 K2 r0 r1 d0 d1
            go_upto_region 14 with (go_at_call 37; (with_reducible refine (G2.out _ K3.out.r.rd).mono ?_); rintro e w7 ⟨rfl, hr, ho⟩; have K4 := Lib.hid (K3.out.read hr ho); clear hr ho; obtain ⟨r0, r1⟩ := K4.out.frs; obtain ⟨d0, d1⟩ := K4.out.cells)
            have K5 := Lib.hid (K4.out.set1 q)
            obtain ⟨W5', hW5'⟩ : ∃ W, W = w7.setCell ⟨b, 1, none⟩ (.int .u16 (q : Int)) := ⟨_, rfl⟩
            rw [← hW5'] at K5 ⊢
            clear hW5' K3 K4 r0 r1 d0 d1
            go_upto_region 15 with (go_at_call 40; (with_reducible refine (G3.out _ K5.out.r.rd).mono ?_); rintro e w8 ⟨rfl, hr, ho⟩; have K6 := Lib.hid (K5.out.read hr ho); clear hr ho)
            obtain ⟨d0, d1⟩ := K6.out.cells
            cases hh : Maps.has D (kw p q)
            · go_wp2_with (first
                | (at_lookup; refine wpList_lookup_own_ok_int _ rfl _ _ 55 rfl 42 3 .i64 lawK Try.underlying55 Try.underlying3 (zeroK _) B k D rfl K6.out.r.own _ _ rfl HK.out ?_; intro c hat hwc; rw [hh])
                | (at_mapUpdate; refine wpList_mapUpdate_own _ rfl _ _ _ 55 rfl 42 3 lawK Try.underlying55 _ B k _ rfl K6.out.r.own (by unfold maxLen; omega) _ _ _ rfl rfl HK.out _ [] (plainElem_int Try.underlying3 HWF.out) ?_; intro w9 hown9 hgrow9))
              exact ⟨⟨k + 1, _, by simp, by omega, by rw [HA.out]; exact K6.out.r.put hown9 hgrow9, HLn.out hh⟩, by simp [intOf]; omega⟩
            · go_wp2_with (at_lookup; refine wpList_lookup_own_ok_int _ rfl _ _ 55 rfl 42 3 .i64 lawK Try.underlying55 Try.underlying3 (zeroK _) B k D rfl K6.out.r.own _ _ rfl HK.out ?_; intro c hat hwc; rw [hh])
              exact ⟨⟨k + 1, D, by simp, by omega, by rw [HA.out]; exact ⟨K6.out.r.bel, K6.out.r.og, K6.out.r.oB, K6.out.r.rd, K6.out.r.own.mono (Nat.le_succ k)⟩, HLy.out hh⟩, by simp [intOf]; omega⟩
          · obtain rfl : k = v2 := by omega
            go_wp2_with fail
            go_ret2
            exact HQ.out B D _ HR.out.bel HR.out.own HLk.out
      · rw [if_neg hv0] at hrE
        have HQ := Lib.hid (fun w' => HP.out 4 w' hrE (by decide))
        have hvi : ((v1 : Int) != 0) = true := by simp; omega
        clear hf1 h4 ha2 h2 hz4 hvv1 hvv2 hnR hrE hz hsh HR HE
        go_wp2_with (first
          | (go_at_call 38; (with_reducible refine CE.out.mono ?_); rintro e w' ⟨rfl, rfl⟩)
          | (go_at_call 39; (with_reducible refine CL.out.mono ?_); rintro e w4 ⟨rfl, hb⟩; have H4 := Lib.hid (H3.out.next hb); clear hb))
        go_ret2
        exact HQ.out _ H4.out.bel
  · have HQ := Lib.hid (fun w' => HP.out 3 w' (HE.out (by
      rcases N2.out.1.no rfl with h | h
      · rcases N1.out.1.no h with h | h
        · cases h
        · omega
      · cases f1
        · have := (N1.out.1.yes rfl).2.2; omega
        · rcases N1.out.1.no rfl with h3 | h3
          · cases h3
          · omega)) (by decide))
    clear HR HE N1 N2
    go_wp2_with (go_at_call 38; (with_reducible refine CE.out.mono ?_); rintro e w' ⟨rfl, rfl⟩)
    go_ret2
    exact HQ.out _ H3.out.bel
end Go.Proofs.Ytbmpdpajnmjfpaa
