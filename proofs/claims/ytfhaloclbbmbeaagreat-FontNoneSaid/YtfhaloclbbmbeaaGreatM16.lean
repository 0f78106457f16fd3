/- Proved here: what rows answers: the place of each first row, or an error. Condition: a text of at most a billion bytes · what first answers: the place of the first of two that the map holds. Condition: a map that holds the places of first rows. -/
import Derived.Test.YtfhaloclbbmbeaaGreatM15
namespace Go.Proofs.YtfhaloclbbmbeaaGreat
open Go.RowKit Go.Maps
attribute [local irreducible] kw
def rowsE (l : List UInt8) : Int := if l.length < 4 then 3 else if l.length < 4 + 8 * n2 l 2 then 3 else if n2 l 0 = 0 then 0 else 4
def nR (l : List UInt8) : Nat := n2 l 2
def RowsP (l : List UInt8) (w : World) (e : Ending) (w' : World) : Prop :=
  Below w.heap.size w w' ∧ (rowsE l ≠ 0 → e = .returned (.tuple #[.map none, .int .i64 (rowsE l)])) ∧
    (rowsE l = 0 → ∃ B D, e = .returned (.tuple #[.map (some B), .int .i64 0]) ∧ w'.ownsMap Tryz.prog 232 (plainElem (H := Unit) Tryz.prog 3) B (nR l) D ∧ LinkM l (nR l) D)
theorem grown_onl {g : Nat} {w w' : World} (h : Onl g w w') : w.grownBy w' (some g) := ⟨h.os, h.tape, h.output, h.size, fun k hk hn => h.block k hk fun e => hn (by rw [e])⟩
theorem grown_below {w w' : World} (h : Below w.heap.size w w') : w.grownBy w' none := ⟨h.os, h.tape, h.output, h.size, fun i hi _ => h.block i hi⟩
structure RwS (w W : World) (g : Nat) (s : ByteArray) (a k B : Nat) (D : DataW Unit) : Prop where
  bel : Below w.heap.size w W
  og : w.heap.size ≤ g
  oB : w.heap.size ≤ B
  rd : Rd 278 W g s a false
  own : W.ownsMap Tryz.prog 232 (plainElem Tryz.prog 3) B k D
section
variable {w W W' : World} {g : Nat} {s : ByteArray} {a k B : Nat} {D : DataW Unit}
theorem map_ne {T : TypeId} {cs : Array Value} {fr : Nat × Nat} {x : Nat} (h : W.ownsMap Tryz.prog 232 (plainElem (H := Unit) Tryz.prog 3) B k D) (hx : W.heap[x]? = some (.cells cs T fr)) : x ≠ B := by
  obtain ⟨es, clock, hb, _⟩ := h
  intro e
  subst e
  rw [hx] at hb
  injection hb with hb
  cases hb
theorem RwS.next (h : RwS w W g s a k B D) (hb : Below W.heap.size W W') : RwS w W' g s a k B D := ⟨h.bel.trans (hb.mono h.bel.size), h.og, h.oB, h.rd.bel hb, h.own.kept (grown_below hb) (by simp)⟩
theorem RwS.read (h : RwS w W g s a k B D) {a' : Nat} (hr : Rd 278 W' g s a' false) (ho : Onl g W W') : RwS w W' g s a' k B D :=
  ⟨h.bel.trans (ho.below h.og h.bel.size), h.og, h.oB, hr, h.own.kept (grown_onl ho) (fun e => by injection e with e; exact map_ne h.own h.rd e.symm)⟩
theorem RwS.put (h : RwS w W g s a k B D) {k' : Nat} {D' : DataW Unit} (ho : W'.ownsMap Tryz.prog 232 (plainElem Tryz.prog 3) B k' D') (hg : W.grownBy W' (some B)) : RwS w W' g s a k' B D' :=
  ⟨h.bel.grown hg h.bel.size (fun i hi => by injection hi with hi; subst hi; exact h.oB), h.og, h.oB, (hg.block g h.rd.lt (fun e => by injection e with e; exact map_ne h.own h.rd e)).trans h.rd, ho⟩
end
structure RbS (w W : World) (g : Nat) (s : ByteArray) (a k B : Nat) (D : DataW Unit) (b p e : Nat) : Prop where
  r : RwS w W g s a k B D
  ob : w.heap.size ≤ b
  box : W.heap[b]? = some (.cells #[.int .u16 (p : Int), .int .u16 (e : Int)] 232 (0, 0))
section
variable {w W W' : World} {g : Nat} {s : ByteArray} {a k B b p e : Nat} {D : DataW Unit}
theorem RbS.ng (h : RbS w W g s a k B D b p e) : b ≠ g := fun x => by
  have h1 := h.box
  have h2 := h.r.rd
  unfold Rd at h2
  rw [x, h2] at h1
  injection h1 with h1
  injection h1 with _ h1 _
  exact absurd h1 (by decide)
theorem RbS.read (h : RbS w W g s a k B D b p e) {a' : Nat} (hr : Rd 278 W' g s a' false) (ho : Onl g W W') : RbS w W' g s a' k B D b p e := ⟨h.r.read hr ho, h.ob, (ho.block b (heap_lt h.box) h.ng).trans h.box⟩
theorem RbS.set0 (h : RbS w W g s a k B D b p e) (x : Nat) : RbS w (W.setCell ⟨b, 0, none⟩ (.int .u16 (x : Int))) g s a k B D b x e := by
  have hg := h.box
  refine ⟨⟨h.r.bel.setCell h.ob _, h.r.og, h.r.oB, (Below.heap_setCell W ⟨b, 0, none⟩ _ g h.ng.symm).trans h.r.rd, h.r.own.kept (row := some b) ⟨rfl, rfl, rfl, by simp [World.setCell], fun j _ hj => Below.heap_setCell W ⟨b, 0, none⟩ _ j (fun e => hj (by rw [e]))⟩ (fun e => by injection e with e; exact map_ne h.r.own h.box e.symm)⟩, h.ob, ?_⟩
  simp [World.setCell, Array.getElem?_modify, hg]
theorem RbS.set1 (h : RbS w W g s a k B D b p e) (x : Nat) : RbS w (W.setCell ⟨b, 1, none⟩ (.int .u16 (x : Int))) g s a k B D b p x := by
  have hg := h.box
  refine ⟨⟨h.r.bel.setCell h.ob _, h.r.og, h.r.oB, (Below.heap_setCell W ⟨b, 1, none⟩ _ g h.ng.symm).trans h.r.rd, h.r.own.kept (row := some b) ⟨rfl, rfl, rfl, by simp [World.setCell], fun j _ hj => Below.heap_setCell W ⟨b, 1, none⟩ _ j (fun e => hj (by rw [e]))⟩ (fun e => by injection e with e; exact map_ne h.r.own h.box e.symm)⟩, h.ob, ?_⟩
  simp [World.setCell, Array.getElem?_modify, hg]
theorem RbS.cells (h : RbS w W g s a k B D b p e) : W.cell? ⟨b, 0, none⟩ = some (.int .u16 (p : Int)) ∧ W.cell? ⟨b, 1, none⟩ = some (.int .u16 (e : Int)) := ⟨cell_of_row W b 0 _ 232 (0, 0) h.box, cell_of_row W b 1 _ 232 (0, 0) h.box⟩
theorem RbS.frs (h : RbS w W g s a k B D b p e) : W.frozen? ⟨b, 0, none⟩ = false ∧ W.frozen? ⟨b, 1, none⟩ = false := ⟨by simp [World.frozen?, h.box], by simp [World.frozen?, h.box]⟩
theorem RwS.box (h : RwS w W g s a k B D) : RbS w (W.alloc (.cells #[.int .u16 0, .int .u16 0] 232)) g s a k B D W.heap.size 0 0 := ⟨h.next ((Below.refl _ _).alloc (Nat.le_refl _) _), h.bel.size, heap_alloc_new W _⟩
end
theorem rin16 (g : Nat) (s : ByteArray) (a : Nat) (w : World) (h : Rd 278 w g s a false) (hs : s.size ≤ 1000000000) (ha : a + 2 ≤ s.size) :
    Calls Tryz.prog 210 #[.pointer (some ⟨g, 0, none⟩)] w fun e w' => e = .returned (.int .u16 (n2 s.data.toList a : Int)) ∧ Rd 278 w' g s (a + 2) false ∧ Onl g w w' :=
  (rd16_any g s a false w h hs (by omega)).mono fun e w' ⟨v, a', f', h1, h2, h3, h4, h5, h6⟩ => by
    cases f'
    · obtain ⟨_, _, h7⟩ := h3.yes rfl
      subst h7
      exact ⟨by rw [h1, h4 rfl], h5, h6⟩
    · rcases h3.no rfl with h7 | h7
      · cases h7
      · omega
theorem rin32 (g : Nat) (s : ByteArray) (a : Nat) (w : World) (h : Rd 278 w g s a false) (hs : s.size ≤ 1000000000) (ha : a + 4 ≤ s.size) :
    Calls Tryz.prog 135 #[.pointer (some ⟨g, 0, none⟩)] w fun e w' => e = .returned (.int .u32 (n4 s.data.toList a : Int)) ∧ Rd 278 w' g s (a + 4) false ∧ Onl g w w' :=
  (rd32_any g s a false w h hs (by omega)).mono fun e w' ⟨v, a', f', h1, h2, h3, h4, h5, h6⟩ => by
    cases f'
    · obtain ⟨_, _, h7⟩ := h3.yes rfl
      subst h7
      exact ⟨by rw [h1, h4 rfl], h5, h6⟩
    · rcases h3.no rfl with h7 | h7
      · cases h7
      · omega
set_option maxHeartbeats 4000000 in
set_option maxRecDepth 100000 in
theorem rows_any (s : ByteArray) (w : World) (hs : s.size ≤ 1000000000) : Calls Tryz.prog 152 #[.string s] w (RowsP s.data.toList w) := by
  have HN := Lib.hid (new_any s w)
  have HS := Lib.hid hs
  obtain ⟨g, hg⟩ : ∃ g, g = w.heap.size := ⟨_, rfl⟩
  have HG := Lib.hid (show w.heap.size ≤ g by omega)
  have HR := Lib.hid (show ∀ (v1 v2 : Nat), 4 ≤ s.size → v1 = n2 s.data.toList 0 → v2 = n2 s.data.toList 2 → nR s.data.toList = v2 ∧ rowsE s.data.toList = if s.size < 4 + 8 * v2 then 3 else if v1 = 0 then 0 else 4 from fun v1 v2 h h1 h2 => by
    unfold rowsE nR
    rw [size_list, if_neg (by omega), ← h1, ← h2]
    exact ⟨rfl, rfl⟩)
  have HE := Lib.hid (show s.size < 4 → rowsE s.data.toList = 3 from fun h => by unfold rowsE; rw [size_list, if_pos h])
  have HP := Lib.hid (show ∀ (x : Int) w', rowsE s.data.toList = x → x ≠ 0 → Below w.heap.size w w' → RowsP s.data.toList w (.returned (.tuple #[.map none, .int .i64 x])) w' from fun x w' h1 h2 h3 => ⟨h3, fun _ => by rw [h1], fun h => absurd (h1.symm.trans h) h2⟩)
  have hmm := @run_makeMap Tryz.prog
  rw [← hg] at HN
  clear hg hs
  go_enter Tryz.func152, Tryz.ntmps152
  go_upto_region 4 with (first
    | (go_at_call 133; (with_reducible refine HN.out.mono ?_); rintro e w1 ⟨rfl, hb, hr, _⟩; have H1 := Lib.hid (show RdS w w1 g s 0 false from ⟨hb.mono HG.out, HG.out, hr, Nat.zero_le _⟩); clear hb hr)
    | (go_at_call 210; (with_reducible refine (rd16_any _ _ _ _ _ H1.out.rd HS.out H1.out.le).mono ?_); rintro e w2 ⟨v1, a1, f1, rfl, hv1, hn1, hq1, hr, ho⟩; have H2 := Lib.hid (H1.out.read hn1 hr ho); have N1 := Lib.hid (And.intro hn1 hq1); clear hr ho hn1 hq1)
    | (go_at_call 210; (with_reducible refine (rd16_any _ _ _ _ _ H2.out.rd HS.out H2.out.le).mono ?_); rintro e w3 ⟨v2, a2, f2, rfl, hv2, hn2, hq2, hr, ho⟩; have H3 := Lib.hid (H2.out.read hn2 hr ho); have N2 := Lib.hid (And.intro hn2 hq2); clear hr ho hn2 hq2))
  have CE := Lib.hid (err_any g s a2 f2 w3 H3.out.rd)
  cases f2
  · obtain ⟨hf1, h4, ha2⟩ := N2.out.1.yes rfl
    obtain ⟨_, h2, ha1⟩ := N1.out.1.yes hf1
    have hz4 : 4 ≤ s.size := by omega
    have hvv1 := N1.out.2 hf1
    have hvv2 := N2.out.2 rfl
    have ha14 : a2 = 4 := by omega
    subst ha1 ha14
    rw [show 0 + 2 = 2 from rfl] at hvv2
    obtain ⟨hnR, hrE⟩ := HR.out v1 v2 hz4 hvv1 hvv2
    have CL := Lib.hid (left_any g s 4 false w3 H3.out.rd HS.out (by omega))
    obtain ⟨z, hz⟩ : ∃ z, z = s.size - 4 := ⟨_, rfl⟩
    rw [show (s.size : Int) - ((4 : Nat) : Int) = (z : Int) by omega] at CL
    have e1 : IntKind.i64.wrap ((v2 : Int) * 8) = (v2 : Int) * 8 := i64_in _ (by omega)
    by_cases hsh : s.size < 4 + 8 * v2
    · rw [if_pos hsh] at hrE
      have hzz : (z : Int) < (v2 : Int) * 8 := by omega
      have HQ := Lib.hid (fun w' => HP.out 3 w' hrE (by decide))
      clear hf1 h4 ha2 h2 hz4 hvv1 hvv2 hnR hrE hz hsh HR HE
      go_wp2_with (first
        | (go_at_call 211; (with_reducible refine CE.out.mono ?_); rintro e w' ⟨rfl, rfl⟩)
        | (go_at_call 212; (with_reducible refine CL.out.mono ?_); rintro e w4 ⟨rfl, hb⟩; have H4 := Lib.hid (H3.out.next hb); clear hb))
      go_ret2
      exact HQ.out _ H4.out.bel
    · rw [if_neg hsh] at hrE
      have hzz : ¬ (z : Int) < (v2 : Int) * 8 := by omega
      by_cases hv0 : v1 = 0
      · rw [if_pos hv0] at hrE
        have HNR := Lib.hid hnR
        have HV2 := Lib.hid (And.intro hvv2 (show 4 + 8 * v2 ≤ s.size by omega))
        have HQ := Lib.hid (show ∀ (B : Nat) (D : DataW Unit) w', Below w.heap.size w w' → w'.ownsMap Tryz.prog 232 (plainElem Tryz.prog 3) B v2 D → LinkM s.data.toList v2 D → RowsP s.data.toList w (.returned (.tuple #[.map (some B), .int .i64 0])) w' from fun B D w' h1 h2 h3 => ⟨h1, fun h => absurd hrE h, fun _ => ⟨B, D, rfl, by rw [hnR]; exact h2, by rw [hnR]; exact h3⟩⟩)
        subst hv0
        clear hf1 h4 ha2 h2 hz4 hvv1 hvv2 hnR hrE hz hsh HR HE HP N1 N2
        go_upto_region 9 with (first
          | (go_at_call 211; (with_reducible refine CE.out.mono ?_); rintro e w' ⟨rfl, rfl⟩)
          | (go_at_call 212; (with_reducible refine CL.out.mono ?_); rintro e w4 ⟨rfl, hb⟩; have H4 := Lib.hid (H3.out.next hb); clear hb))
        have HM := Lib.hid (show RwS w (w4.alloc (.map #[] 0)) g s 4 0 w4.heap.size (.map []) from ⟨H4.out.bel.alloc H4.out.bel.size _, H4.out.og, H4.out.bel.size, H4.out.rd.bel ((Below.refl _ _).alloc (Nat.le_refl _) _), World.ownsMap_made _ _ _ _⟩)
        obtain ⟨B, hB⟩ : ∃ B, B = w4.heap.size := ⟨_, rfl⟩
        obtain ⟨W5, hW5⟩ : ∃ W, W = w4.alloc (.map #[] 0) := ⟨_, rfl⟩
        rw [← hB, ← hW5] at HM
        rw [← hB, ← hW5]
        clear hB hW5 hzz
        go_wp2_with fail
        go_loopw [33] (fun i wr => ∃ (k : Nat) (D : DataW Unit), i = .int .i64 (k : Int) ∧ k ≤ v2 ∧ RwS w wr g s (4 + 8 * k) k B D ∧ LinkM s.data.toList k D) (fun i _ => v2 - (intOf i).toNat)
        case atStart => exact ⟨0, .map [], rfl, Nat.zero_le _, HM.out, LinkM.start _⟩
        case round =>
          obtain ⟨k, D, rfl, hk, hR, hLk⟩ := hrel
          have HR := Lib.hid hR
          have HLk := Lib.hid hLk
          clear hR hLk
          by_cases hgo : k < v2
          · obtain ⟨a0, ha0⟩ : ∃ a, a = 4 + 8 * k := ⟨_, rfl⟩
            rw [← ha0] at HR
            have hsz := HV2.out.2
            have G1 := Lib.hid (fun W (h : Rd 278 W g s a0 false) => rin16 g s a0 W h HS.out (by omega))
            have G2 := Lib.hid (fun W (h : Rd 278 W g s (a0 + 2) false) => rin16 g s (a0 + 2) W h HS.out (by omega))
            have G3 := Lib.hid (fun W (h : Rd 278 W g s (a0 + 2 + 2) false) => rin32 g s (a0 + 2 + 2) W h HS.out (by omega))
            have HLy := Lib.hid (fun h => HLk.out.keep h)
            have HLn := Lib.hid (fun h => HLk.out.put h)
            have HVk := Lib.hid (show ∀ (h : (fr s.data.toList (n2 s.data.toList (4 + 8 * k)) (n2 s.data.toList (6 + 8 * k)) k).isSome = true), True from fun _ => trivial)
            rw [show 4 + 8 * k = a0 from ha0.symm, show 6 + 8 * k = a0 + 2 by omega] at HLy HLn
            rw [show 8 + 8 * k = a0 + 2 + 2 by omega] at HLn
            have bp := n2_lt s.data.toList a0
            have be := n2_lt s.data.toList (a0 + 2)
            have bq := n4_lt s.data.toList (a0 + 2 + 2)
            obtain ⟨p, hp⟩ : ∃ p, p = n2 s.data.toList a0 := ⟨_, rfl⟩
            obtain ⟨q, hq⟩ : ∃ q, q = n2 s.data.toList (a0 + 2) := ⟨_, rfl⟩
            obtain ⟨x, hx⟩ : ∃ x, x = n4 s.data.toList (a0 + 2 + 2) := ⟨_, rfl⟩
            rw [← hp] at G1 bp HLy HLn
            rw [← hq] at G2 be HLy HLn
            rw [← hx] at G3 bq HLn
            have HK := Lib.hid (show keyOf Tryz.prog 232 (.agg #[.int .u16 (p : Int), .int .u16 (q : Int)]) = some (kw p q) from kw_is bp be)
            have e2 : IntKind.i64.wrap (x : Int) = (x : Int) := i64_in _ (by omega)
            have HA := Lib.hid (show 4 + 8 * (k + 1) = a0 + 2 + 2 + 4 by omega)
            have hkv : k < 65536 := by omega
            have hwf : (Lit.int .i64 (x : Int)).wf = true := WalkArith.wf_i64 (by omega)
            have HWF := Lib.hid hwf
            clear ha0 hsz hp hq hx HLk hwf bp be HVk
            go_upto_region 12 with fail
            have K1 := Lib.hid HR.out.box
            obtain ⟨b, hb⟩ : ∃ b, b = wr.heap.size := ⟨_, rfl⟩
            obtain ⟨W1, hW1⟩ : ∃ W, W = wr.alloc (.cells #[.int .u16 0, .int .u16 0] 232) := ⟨_, rfl⟩
            rw [← hb, ← hW1] at K1
            rw [← hb, ← hW1]
            clear hb hW1 HR
            go_upto_region 13 with (go_at_call 210; (with_reducible refine (G1.out _ K1.out.r.rd).mono ?_); rintro e w6 ⟨rfl, hr, ho⟩; have K2 := Lib.hid (K1.out.read hr ho); clear hr ho; obtain ⟨r0, r1⟩ := K2.out.frs; obtain ⟨d0, d1⟩ := K2.out.cells)
            have K3 := Lib.hid (K2.out.set0 p)
            obtain ⟨W3, hW3⟩ : ∃ W, W = w6.setCell ⟨b, 0, none⟩ (.int .u16 (p : Int)) := ⟨_, rfl⟩
            rw [← hW3] at K3 ⊢
            clear hW3 K1 K2 r0 r1 d0 d1
            go_upto_region 14 with (go_at_call 210; (with_reducible refine (G2.out _ K3.out.r.rd).mono ?_); rintro e w7 ⟨rfl, hr, ho⟩; have K4 := Lib.hid (K3.out.read hr ho); clear hr ho; obtain ⟨r0, r1⟩ := K4.out.frs; obtain ⟨d0, d1⟩ := K4.out.cells)
            have K5 := Lib.hid (K4.out.set1 q)
            obtain ⟨W5', hW5'⟩ : ∃ W, W = w7.setCell ⟨b, 1, none⟩ (.int .u16 (q : Int)) := ⟨_, rfl⟩
            rw [← hW5'] at K5 ⊢
            clear hW5' K3 K4 r0 r1 d0 d1
            go_upto_region 15 with (go_at_call 135; (with_reducible refine (G3.out _ K5.out.r.rd).mono ?_); rintro e w8 ⟨rfl, hr, ho⟩; have K6 := Lib.hid (K5.out.read hr ho); clear hr ho)
            obtain ⟨d0, d1⟩ := K6.out.cells
            cases hh : Maps.has D (kw p q)
            · go_wp2_with (first
                | (at_lookup; refine wpList_lookup_own_ok_int _ rfl _ _ 224 rfl 232 3 .i64 lawK Tryz.underlying224 Tryz.underlying3 (zeroK _) B k D rfl K6.out.r.own _ _ rfl HK.out ?_; intro c hat hwc; rw [hh])
                | (at_mapUpdate; refine wpList_mapUpdate_own _ rfl _ _ _ 224 rfl 232 3 lawK Tryz.underlying224 _ B k _ rfl K6.out.r.own (by unfold maxLen; omega) _ _ _ rfl rfl HK.out _ [] (plainElem_int Tryz.underlying3 HWF.out) ?_; intro w9 hown9 hgrow9))
              exact ⟨⟨k + 1, _, by simp, by omega, by rw [HA.out]; exact K6.out.r.put hown9 hgrow9, HLn.out hh⟩, by simp [intOf]; omega⟩
            · go_wp2_with (at_lookup; refine wpList_lookup_own_ok_int _ rfl _ _ 224 rfl 232 3 .i64 lawK Tryz.underlying224 Tryz.underlying3 (zeroK _) B k D rfl K6.out.r.own _ _ rfl HK.out ?_; intro c hat hwc; rw [hh])
              exact ⟨⟨k + 1, D, by simp, by omega, by rw [HA.out]; exact ⟨K6.out.r.bel, K6.out.r.og, K6.out.r.oB, K6.out.r.rd, K6.out.r.own.mono (Nat.le_succ k)⟩, HLy.out hh⟩, by simp [intOf]; omega⟩
          · obtain rfl : k = v2 := by omega
            go_wp2_with fail
            go_ret2
            exact HQ.out B D _ HR.out.bel HR.out.own HLk.out
      · rw [if_neg hv0] at hrE
        have HQ := Lib.hid (fun w' => HP.out 4 w' hrE (by decide))
        have hvi : ((v1 : Int) != 0) = true := by simp; omega
        clear hf1 h4 ha2 h2 hz4 hvv1 hvv2 hnR hrE hz hsh HR HE
        go_wp2_with (first
          | (go_at_call 211; (with_reducible refine CE.out.mono ?_); rintro e w' ⟨rfl, rfl⟩)
          | (go_at_call 212; (with_reducible refine CL.out.mono ?_); rintro e w4 ⟨rfl, hb⟩; have H4 := Lib.hid (H3.out.next hb); clear hb))
        go_ret2
        exact HQ.out _ H4.out.bel
  · have HQ := Lib.hid (fun w' => HP.out 3 w' (HE.out (by
      rcases N2.out.1.no rfl with h | h
      · rcases N1.out.1.no h with h | h
        · cases h
        · omega
      · cases f1
        · have := (N1.out.1.yes rfl).2.2; omega
        · rcases N1.out.1.no rfl with h3 | h3
          · cases h3
          · omega)) (by decide))
    clear HR HE N1 N2
    go_wp2_with (go_at_call 211; (with_reducible refine CE.out.mono ?_); rintro e w' ⟨rfl, rfl⟩)
    go_ret2
    exact HQ.out _ H3.out.bel
end Go.Proofs.YtfhaloclbbmbeaaGreat
namespace Go.Proofs.YtfhaloclbbmbeaaGreat
open Go.RowKit Go.Maps
attribute [local irreducible] kw
structure Wl (w : World) (a : Addr) (P E : Nat → Nat) : Prop where
  lt : a.block < w.heap.size
  get : ∀ i, i < 2 → w.cell? (a.add (i * 2)) = some (.int .u16 (P i : Int)) ∧ w.cell? (a.add (i * 2 + 1)) = some (.int .u16 (E i : Int))
theorem Wl.bel {w w' : World} {a : Addr} {P E : Nat → Nat} (h : Wl w a P E) (hb : Below w.heap.size w w') : Wl w' a P E :=
  ⟨Nat.lt_of_lt_of_le h.lt hb.size, fun i hi => by
    obtain ⟨h3, h4⟩ := h.get i hi
    exact ⟨by rw [hb.cell (by rw [block_of_add]; exact h.lt)]; exact h3, by rw [hb.cell (by rw [block_of_add]; exact h.lt)]; exact h4⟩⟩
def fst2 (l : List UInt8) (n : Nat) (P E : Nat → Nat) : Option Nat := match fr l (P 0) (E 0) n with
  | some x => some x
  | none => fr l (P 1) (E 1) n
theorem fst2_hit {l : List UInt8} {n k x : Nat} {P E : Nat → Nat} (hk : k < 2) (h : ∀ j, j < k → fr l (P j) (E j) n = none) (h2 : fr l (P k) (E k) n = some x) : fst2 l n P E = some x := by
  match k, hk with
  | 0, _ => unfold fst2; rw [h2]
  | 1, _ => unfold fst2; rw [h 0 (by omega)]; exact h2
theorem fst2_none {l : List UInt8} {n : Nat} {P E : Nat → Nat} (h : ∀ j, j < 2 → fr l (P j) (E j) n = none) : fst2 l n P E = none := by
  unfold fst2; rw [h 0 (by omega)]; exact h 1 (by omega)
def FstP (o : Option Nat) : Value := match o with
  | some x => .tuple #[.int .i64 (x : Int), .bool true]
  | none => .tuple #[.int .i64 0, .bool false]
set_option maxHeartbeats 2000000 in
set_option maxRecDepth 100000 in
theorem first_any (l : List UInt8) (n B : Nat) (D : DataW Unit) (a : Addr) (P E : Nat → Nat) (w : World) (ho : w.ownsMap Tryz.prog 232 (plainElem Tryz.prog 3) B n D) (hL : LinkM l n D) (hW : Wl w a P E) (hP : ∀ i, P i < 65536) (hE : ∀ i, E i < 65536) :
    Calls Tryz.prog 153 #[.map (some B), .slice (some a) 2 2] w fun e w' => e = .returned (FstP (fst2 l n P E)) ∧ Below w.heap.size w w' := by
  have HO := Lib.hid ho
  have HL := Lib.hid hL
  have HW := Lib.hid hW
  have HK := Lib.hid (show ∀ k, keyOf Tryz.prog 232 (.agg #[.int .u16 (P k : Int), .int .u16 (E k : Int)]) = some (kw (P k) (E k)) from fun k => kw_is (hP k) (hE k))
  have HH := Lib.hid (fun k => hL.has (P k) (E k) (hP k) (hE k))
  have HV := Lib.hid (fun k => hL.val (P k) (E k) (hP k) (hE k))
  clear ho hL hW hP hE
  go_enter Tryz.func153, Tryz.ntmps153
  go_wp2_with fail
  go_loopw [12] (fun i wr => ∃ k : Nat, i = .int .i64 (k : Int) ∧ k ≤ 2 ∧ (∀ j, j < k → fr l (P j) (E j) n = none) ∧ Below w.heap.size w wr) (fun i _ => 2 - (intOf i).toNat)
  case atStart => exact ⟨0, rfl, Nat.zero_le _, fun j hj => by omega, Below.refl _ _⟩
  case round =>
    obtain ⟨k, rfl, hk, hno, hb⟩ := hrel
    have HB := Lib.hid hb
    have HN := Lib.hid hno
    clear hb hno
    by_cases hgo : k < 2
    · obtain ⟨c0, c1⟩ := (HW.out.bel HB.out).get k hgo
      rw [← add_next] at c1
      have HKk := Lib.hid (HK.out k)
      have HHk := Lib.hid (HH.out k)
      have HVk := Lib.hid (HV.out k)
      have HF1 := Lib.hid (fun x h => fst2_hit (x := x) hgo HN.out h)
      have HF2 := Lib.hid (show fr l (P k) (E k) n = none → ∀ j, j < k + 1 → fr l (P j) (E j) n = none from fun h j hj => by
        rcases Nat.lt_or_ge j k with h1 | h1
        · exact HN.out j h1
        · rw [show j = k by omega]; exact h)
      obtain ⟨p, hp⟩ : ∃ p, p = P k := ⟨_, rfl⟩
      obtain ⟨q, hq⟩ : ∃ q, q = E k := ⟨_, rfl⟩
      obtain ⟨o, hoo⟩ : ∃ o, o = fr l (P k) (E k) n := ⟨_, rfl⟩
      rw [← hp] at c0
      rw [← hq] at c1
      rw [← hp, ← hq] at HKk
      rw [← hp, ← hq] at hoo
      rw [← hp, ← hq] at HHk
      rw [← hp, ← hq] at HVk
      rw [← hp, ← hq] at HF1
      rw [← hp, ← hq] at HF2
      rw [← hoo] at HHk HVk HF1 HF2
      have HB1 := Lib.hid (HB.out.alloc HB.out.size (.cells #[.int .u16 (p : Int), .int .u16 (q : Int)] 232))
      have HO1 := Lib.hid (show (wr.alloc (.cells #[.int .u16 (p : Int), .int .u16 (q : Int)] 232)).ownsMap Tryz.prog 232 (plainElem Tryz.prog 3) B n D from (HO.out.kept (grown_below HB.out) (by simp)).alloc _)
      clear hp hq hoo
      cases o with
      | none =>
        have HX := Lib.hid (HF2.out rfl)
        have hh : Maps.has D (kw p q) = false := HHk.out
        have HHH := Lib.hid hh
        clear hh
        go_wp2_with (at_lookup; refine wpList_lookup_own_ok_int _ rfl _ _ 224 rfl 232 3 .i64 lawK Tryz.underlying224 Tryz.underlying3 (zeroK _) B n D rfl HO1.out _ _ rfl HKk.out ?_; intro c hat hwc; rw [HHH.out])
        exact ⟨⟨k + 1, by simp, by omega, HX.out, HB1.out⟩, by simp [intOf]; omega⟩
      | some x =>
        have HX := Lib.hid (HF1.out x rfl)
        have HHH := Lib.hid (show Maps.has D (kw p q) = true from HHk.out)
        have HVV := Lib.hid (HVk.out x rfl)
        go_wp2_with (at_lookup; refine wpList_lookup_own_ok_int _ rfl _ _ 224 rfl 232 3 .i64 lawK Tryz.underlying224 Tryz.underlying3 (zeroK _) B n D rfl HO1.out _ _ rfl HKk.out ?_; intro c hat hwc; rw [HHH.out]; have hc : c = (x : Int) := (by have h1 := HVV.out (.lit (.int .i64 0)); rw [hat] at h1; unfold num64 at h1; injection h1 with h1; injection h1); rw [hc])
        go_ret2
        exact ⟨by rw [HX.out]; rfl, HB1.out⟩
    · obtain rfl : k = 2 := by omega
      have HX := Lib.hid (fst2_none HN.out)
      go_wp2_with fail
      go_ret2
      exact ⟨by rw [HX.out]; rfl, HB.out⟩
end Go.Proofs.YtfhaloclbbmbeaaGreat
