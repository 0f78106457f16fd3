/- Proved here: the outlines of shapes without parts, one by one. Condition: at most 1024 shapes that may be · the outlines of shapes without parts, in a list. Condition: at most 1024 shapes that may be · what the font's find answers. Condition: tables of at most a million bytes · what the font's readWidths and readPairs answer. Condition: tables of at most a million bytes · the outlines of a font's tables, where all is right and no glyph has parts. Condition: that. -/
import Derived.Test.YtfhaloclbbmbeaaGreatM46
import Derived.Test.YtfhaloclbbmbeaaGreatM40
import Derived.Test.YtfhaloclbbmbeaaGreatM08
import Derived.Test.YtfhaloclbbmbeaaGreatM12
import Derived.Test.YtfhaloclbbmbeaaGreatM25
namespace Go.Proofs.YtfhaloclbbmbeaaGreat
open Go.RowKit
namespace N15
theorem may_only {SS : List Shp} {g : Nat} (hM : MayS SS) (hg : g < SS.length) : MayS (onlyS SS g) := by
  refine ⟨by rw [onlyS_len]; exact hM.1, fun i hi => ?_⟩
  rw [onlyS_len] at hi ⊢
  by_cases h : i = g
  · subst h; rw [sh_self hi]; exact hM.2 i hi
  · rw [sh_not h]
    exact ⟨by simp, ⟨by simp, fun j hj => absurd hj (by simp)⟩, fun h => absurd h (by simp)⟩
theorem lim_only {SS : List Shp} {g : Nat} (hL : LimS SS) (hg : g < SS.length) : LimS (onlyS SS g) := by
  intro i hi
  rw [onlyS_len] at hi
  by_cases h : i = g
  · subst h; rw [sh_self hi]; exact hL i hi
  · rw [sh_not h]
    exact ⟨by simp, fun j hj => absurd hj (by simp), by simp⟩
theorem out_leaf {SS : List Shp} {g : Nat} (hM : MayS SS) (hL : Leaf SS) (hg : g < SS.length) : okG15 (onlyS SS g) (g : Int) ∧ outA (onlyS SS g) (g : Int) = (0, (sh SS g).1) := by
  have h1 : okG15 (onlyS SS g) (g : Int) := ⟨may_only hM hg, by omega, by rw [onlyS_len]; omega⟩
  refine ⟨h1, ?_⟩
  unfold outA
  rw [if_pos h1]
  unfold goP
  rw [Int.toNat_natCast, if_pos (by rw [sh_self hg]; exact hL g hg), sh_self hg]
set_option maxHeartbeats 4000000 in
set_option maxRecDepth 100000 in
theorem outlineK_any (A : Option Addr) (m c : Nat) (SS : List Shp) (i : Nat) (w : World) (hP : Shl w A m SS) (hL : LimS SS) (hm : m ≤ 100000) (hG : okG15 SS (i : Int)) (LL : List (List Pt)) (hR0 : outA SS (i : Int) = (0, LL)) :
    Calls Tryz.prog 150 #[.slice A m c, .int .i64 (i : Int)] w fun e w' => ∃ A' c' cs bs, e = .returned (.tuple #[.slice A' LL.length c', .int .i64 0]) ∧ Below w.heap.size w w' ∧ Dc w' w.heap.size A' LL.length c' (ct LL) cs bs := by
  have hlen := hP.len
  have CM := Lib.hid (mayAsk_any A m c SS (i : Int) w hP hL hm)
  rw [decide_eq_true hG] at CM
  have hX : (goP SS false 9 (i : Int) [] 0).1 = 0 ∧ (goP SS false 9 (i : Int) [] 0).2.1 = LL := by
    unfold outA at hR0
    rw [if_pos hG] at hR0
    exact ⟨congrArg Prod.fst hR0, congrArg Prod.snd hR0⟩
  have CG := Lib.hid (fun W (hb : Below w.heap.size w W) => outline_rec SS hG.1 W A m c (hP.bel hb) 8 i [] 0 _ none 0 0 (by have := hG.2.2; omega) rfl (WkS.start W A m c))
  obtain ⟨R, hR⟩ : ∃ R, R = goP SS false 9 (i : Int) [] 0 := ⟨_, rfl⟩
  rw [← hR] at hX
  have CG : Hid (∀ W, Below w.heap.size w W → Calls Tryz.prog 209 #[.pointer (some ⟨W.heap.size, 0, none⟩), .int .i64 (i : Int)] (W.alloc (.cells #[.slice A m c, .slice none 0 0, .int .i64 0] 288)) (OuP W A m c [] none R (W.alloc (.cells #[.slice A m c, .slice none 0 0, .int .i64 0] 288)))) := by rw [hR]; exact CG
  obtain ⟨E, L, d, v⟩ := R
  obtain ⟨h0, h1⟩ := hX
  dsimp only at h0 h1
  subst h0 h1
  clear hP hL hlen hR hG hR0
  go_enter Tryz.func150, Tryz.ntmps150
  go_wp2_with (first
    | (go_at_call 208; (with_reducible refine CM.out.mono ?_); rintro e w1 ⟨rfl, hb⟩; have HB := Lib.hid hb; clear hb)
    | (go_at_call 209; (with_reducible refine (CG.out _ HB.out).mono ?_); rintro e w2 ⟨A', k', c', rfl, hf, hy, hn⟩; have HF := Lib.hid hf; have HY := Lib.hid hy; clear hf hy hn))
  go_ret2
  have hb1 : Below w1.heap.size w1 w2 := HF.out.below (w0 := w1) ((Below.refl _ _).alloc (Nat.le_refl _) _) (Nat.le_refl _) (by simp) (fun g hg => by cases hg)
  have hb2 := HB.out.trans (hb1.mono HB.out.size)
  obtain ⟨⟨cs, bs, hd⟩, hl, _⟩ := HY.out (by trivial)
  have hl : L.length = k' := hl
  subst hl
  exact ⟨A', c', cs, bs, rfl, hb2, hd.rebase (by have := HB.out.size; simp; omega)⟩
end N15
end Go.Proofs.YtfhaloclbbmbeaaGreat
namespace Go.Proofs.YtfhaloclbbmbeaaGreat
open Go.RowKit
namespace N15
def og (OO : List (List (List Pt))) (i : Nat) : List (List Pt) := OO.getD i []
structure Otl (w : World) (A : Option Addr) (m : Nat) (OO : List (List (List Pt))) : Prop where
  len : OO.length = m
  get : ∀ i, i < m → ∃ ad B c, A = some ad ∧ ad.block < w.heap.size ∧ w.cell? (ad.add i) = some (.slice B (og OO i).length c) ∧ Ctl w B (og OO i).length (og OO i)
  typ : 0 < m → ∃ ad cs fr, A = some ad ∧ w.heap[ad.block]? = some (.cells cs 49 fr)
theorem Otl.bel {w w' : World} {A : Option Addr} {m : Nat} {OO : List (List (List Pt))} (h : Otl w A m OO) (hb : Below w.heap.size w w') : Otl w' A m OO :=
  ⟨h.len, fun i hi => by
    obtain ⟨ad, B, c, h1, h2, h3, h4⟩ := h.get i hi
    exact ⟨ad, B, c, h1, Nat.lt_of_lt_of_le h2 hb.size, (hb.cell (by rw [block_of_add]; exact h2)).trans h3, h4.bel hb⟩, fun hm => by
    obtain ⟨ad, cs, fr, h1, h2⟩ := h.typ hm
    exact ⟨ad, cs, fr, h1, (hb.block _ (heap_lt h2)).trans h2⟩⟩
theorem Otl.put {W : World} {A : Option Addr} {m g j : Nat} {OO : List (List (List Pt))} (h : Otl W A m OO) (h1 : ∀ i, i < m → ∀ q, q < (og OO i).length → 1 ≤ (ct (og OO i) q).length) {cs : Array Value} {fr : Nat × Nat} (hg : W.heap[g]? = some (.cells cs 82 fr))
    (hz : W.cell? ⟨g, j, none⟩ = some (.slice none 0 0)) (u : Value) : Otl (W.setCell ⟨g, j, none⟩ u) A m OO := by
  have z := Zr.set hz u
  have hne : ∀ ad, A = some ad → 0 < m → ad.block ≠ g := fun ad ha hm e => by
    obtain ⟨ad2, cs2, fr2, k1, k2⟩ := h.typ hm
    rw [ha] at k1
    injection k1 with k1
    rw [← k1, e, hg] at k2
    injection k2 with k2
    injection k2 with _ k2
    exact absurd k2 (by decide)
  have hs : (W.setCell ⟨g, j, none⟩ u).heap.size = W.heap.size := by simp [World.setCell]
  refine ⟨h.len, fun i hi => ?_, fun hm => ?_⟩
  · obtain ⟨ad, B, c, k1, k2, k3, k4⟩ := h.get i hi
    refine ⟨ad, B, c, k1, by rw [hs]; exact k2, ?_, Ctl.zr z k4 (h1 i hi)⟩
    rw [World.cell?_of_block (Below.heap_setCell W ⟨g, j, none⟩ u _ (by rw [block_of_add]; exact hne ad k1 (by omega)))]
    exact k3
  · obtain ⟨ad, cs2, fr2, k1, k2⟩ := h.typ hm
    exact ⟨ad, cs2, fr2, k1, (Below.heap_setCell W ⟨g, j, none⟩ u _ (hne ad k1 hm)).trans k2⟩
structure OtS (w W : World) (v : Value) (k : Nat) (SS : List Shp) (ls : List Value) : Prop where
  bel : Below w.heap.size w W
  own : W.ownsRow w.heap.size 49 1 v k ls
  get : ∀ i, i < k → ∃ A c cs bs, ls[i]? = some (.slice A (sh SS i).1.length c) ∧ Dc W w.heap.size A (sh SS i).1.length c (ct (sh SS i).1) cs bs
section
variable {w W W' : World} {v : Value} {k : Nat} {SS : List Shp} {ls : List Value}
theorem OtS.next (h : OtS w W v k SS ls) (hb : Below W.heap.size W W') : OtS w W' v k SS ls :=
  ⟨h.bel.trans (hb.mono h.bel.size), own_bel h.own hb, fun i hi => by
    obtain ⟨A, c, cs, bs, h1, h2⟩ := h.get i hi
    exact ⟨A, c, cs, bs, h1, h2.bel hb⟩⟩
theorem OtS.len (h : OtS w W v k SS ls) : ls.length = k := by have := h.own.1; omega
theorem OtS.push (h : OtS w W v k SS ls) {A : Option Addr} {c : Nat} {cs : List Value} {bs : Nat → Nat} (hd : Dc W w.heap.size A (sh SS k).1.length c (ct (sh SS k).1) cs bs) {v' : Value} (ho : W'.ownsRow w.heap.size 49 1 v' (k + 1) (ls ++ [.slice A (sh SS k).1.length c])) (hg : W.grownBy W' v.ownBlock) :
    OtS w W' v' (k + 1) SS (ls ++ [.slice A (sh SS k).1.length c]) := by
  have hk : ∀ g cs' T fr, w.heap.size ≤ g → W.heap[g]? = some (.cells cs' T fr) → T = 75 ∨ T = 76 → W'.heap[g]? = W.heap[g]? := fun g cs' T fr _ h2 h3 =>
    hg.block g (heap_lt h2) (fun e => own_not h.own h2 (by rcases h3 with rfl | rfl <;> decide) e)
  have hl := h.len
  refine ⟨below_grown h.bel h.own hg, ho, fun i hi => ?_⟩
  rcases Nat.lt_or_ge i k with h2 | h2
  · obtain ⟨A1, c1, cs1, bs1, h3, h4⟩ := h.get i h2
    exact ⟨A1, c1, cs1, bs1, by rw [List.getElem?_append_left (by omega)]; exact h3, h4.keep hk⟩
  · obtain rfl : i = k := by omega
    exact ⟨A, c, cs, bs, by rw [List.getElem?_append_right (by omega), hl, Nat.sub_self]; rfl, hd.keep hk⟩
theorem OtS.otl {A : Option Addr} {c : Nat} (h : OtS w W (.slice A k c) k SS ls) (hk : SS.length = k) : Otl W A k (SS.map (·.1)) := by
  have he : ∀ i, i < k → og (SS.map (·.1)) i = (sh SS i).1 := fun i hi => by
    unfold og sh
    rw [List.getD_eq_getElem?_getD, List.getD_eq_getElem?_getD, List.getElem?_map, List.getElem?_eq_getElem (by omega)]
    rfl
  refine ⟨by rw [List.length_map, hk], fun i hi => ?_, fun hm => ?_⟩
  rotate_left 1
  · rcases h.own.2 with ⟨_, h0⟩ | ⟨b, cap, cur, hv, _, hh, _⟩
    · omega
    · injection hv with hv
      exact ⟨⟨b, 0, none⟩, cur, (0, 0), hv, hh⟩
  obtain ⟨ad, h1, h2, h3⟩ := own_cell h.own (by omega)
  obtain ⟨A1, c1, cs1, bs1, h4, h5⟩ := h.get i hi
  rw [he i hi]
  exact ⟨ad, A1, c1, h1, h2, h3 i _ h4, h5.ctl rfl⟩
end
theorem info49 : (Tryz.prog.info? 49).map (fun i => (i.zero, i.size, i.bytes)) = some (some (.slice none 0 0), 1, 24) := by kernel_rfl
set_option maxHeartbeats 4000000 in
set_option maxRecDepth 100000 in
theorem outlines_any (A : Option Addr) (m c : Nat) (SS : List Shp) (w : World) (hP : Shl w A m SS) (hL : LimS SS) (hM : MayS SS) (hF : Leaf SS) :
    Calls Tryz.prog 76 #[.slice A m c] w fun e w' => ∃ A' c', e = .returned (.tuple #[.slice A' m c', .int .i64 0]) ∧ Otl w' A' m (SS.map (·.1)) ∧ Below w.heap.size w w' := by
  have hlen := hP.len
  have hm : m ≤ 1024 := by have := hM.1.2; omega
  have HI := Lib.hid hP
  have HC := Lib.hid (fun k (hk : k < m) W (hb : Below w.heap.size w W) => only_any A m c SS k W (hP.bel hb) (by omega) hk hF)
  have HO := Lib.hid (fun k (hk : k < m) W A' c' (hS : Shl W A' m (onlyS SS k)) => outlineK_any A' m c' (onlyS SS k) k W hS (lim_only hL (by omega)) (by omega) (out_leaf hM hF (by omega)).1 _ (out_leaf hM hF (by omega)).2)
  obtain ⟨i0, hi0, hz0, hz1, hz2⟩ := info_parts info49
  have H49 := Lib.hid (And.intro hi0 (And.intro hz0 (And.intro hz1 hz2)))
  have HLn := Lib.hid hlen
  clear hP hL hM hF hi0 hz0 hz1 hz2 hlen
  go_enter Tryz.func76, Tryz.ntmps76
  go_wp2_with fail
  go_loopw [4, 10] (fun v i wr => ∃ (k : Nat) (A' : Option Addr) (c' : Nat) (ls : List Value), i = .int .i64 (k : Int) ∧ k ≤ m ∧ v = .slice A' k c' ∧ OtS w wr (.slice A' k c') k SS ls) (fun _ i _ => m - (intOf i).toNat)
  case atStart => exact ⟨0, none, 0, [], rfl, Nat.zero_le _, rfl, Below.refl _ _, World.ownsRow_nil _ _ _ _, fun i hi => by omega⟩
  case round =>
    obtain ⟨k, A', c', ls, rfl, hk, rfl, hS⟩ := hrel
    have HS := Lib.hid hS
    clear hS
    by_cases hgo : k < m
    · have HC := Lib.hid (HC.out k hgo wr HS.out.bel)
      have HO := Lib.hid (HO.out k hgo)
      go_upto_region 6 with (first
        | (go_at_call 151; (with_reducible refine HC.out.mono ?_); rintro e w1 ⟨A1, c1, rfl, hs1, hb1⟩; have HS1 := Lib.hid hs1; have HS := Lib.hid (HS.out.next hb1); clear hs1 hb1)
        | (go_at_call 150; (with_reducible refine (HO.out _ _ _ HS1.out).mono ?_); rintro e w2 ⟨A2, c2, cs2, bs2, rfl, hb2, hd2⟩; have HD := Lib.hid (hd2.rebase HS.out.bel.size); have HS := Lib.hid (HS.out.next hb2); clear hb2 hd2))
      have hA := (Below.refl w2.heap.size w2).alloc (Nat.le_refl _) (.cells #[.slice A2 (sh SS k).1.length c2] 49)
      have HSx := Lib.hid (HS.out.next hA)
      have HDx := Lib.hid (HD.out.bel hA)
      clear hA
      go_wp2_with (at_builtin; go_must (refine wpList_append_own _ rfl (.tmp 24) (.tmp 26) 55 rfl w.heap.size 49 i0 _ 1 24 Tryz.underlying55 H49.out.1 H49.out.2.1 H49.out.2.2.1 H49.out.2.2.2 rfl (by decide) (.slice A' k c') k ls rfl HSx.out.own ⟨w2.heap.size, 0, none⟩ 1 1 [.slice A2 (sh SS k).1.length c2] rfl rfl (cells_new _ _ _) (by intro u hu; simp at hu; subst hu; rfl) (by unfold maxLen; omega) (by omega) HSx.out.bel.size ?_); intro v' w7 hown' hg' _; obtain ⟨A7, c7, rfl⟩ := own_form hown'; have HS7 := Lib.hid (HSx.out.push HDx.out hown' hg'); clear hown' hg')
      exact ⟨⟨k + 1, A7, c7, _, by simp, by omega, rfl, HS7.out⟩, by simp [intOf]; omega⟩
    · obtain rfl : k = m := by omega
      go_wp2_with fail
      go_ret2
      exact ⟨A', c', rfl, HS.out.otl HLn.out, HS.out.bel⟩
end N15
end Go.Proofs.YtfhaloclbbmbeaaGreat
namespace Go.Proofs.YtfhaloclbbmbeaaGreat
open Go.RowKit
namespace Ft
def tHmtx : List UInt8 := [104, 109, 116, 120]
def tGlyf : List UInt8 := [103, 108, 121, 102]
def tLoca : List UInt8 := [108, 111, 99, 97]
def tCmap : List UInt8 := [99, 109, 97, 112]
def fnE (L : List (List UInt8 × List UInt8)) (t : List UInt8) : Int := if (findL L t).2 then 0 else 7
theorem findL_none {L : List (List UInt8 × List UInt8)} {t : List UInt8} (h : (findL L t).2 = false) : (findL L t).1 = [] := by
  unfold findL at h ⊢
  split at h
  · simp at h
  · rfl
theorem find_any (A : Option Addr) (m c : Nat) (L : List (List UInt8 × List UInt8)) (t : List UInt8) (w : World) (h : Tl w A m L) (hm : m ≤ 1000000) (hd : ∀ i, i < m → (dt L i).length ≤ 1000000) :
    Calls Tryz.prog 72 #[.slice A m c, .string ⟨t.toArray⟩] w fun e w' => e = .returned (.tuple #[.string ⟨(findL L t).1.toArray⟩, .int .i64 (fnE L t)]) ∧ Below w.heap.size w w' := by
  have hf := Go.Proofs.YtfhaloclbbmbeaaGreat.find_any A m c L t w h hm hd
  have hn := fun h => findL_none (L := L) (t := t) h
  unfold fnE
  obtain ⟨d, hd1⟩ : ∃ d, d = (findL L t).1 := ⟨_, rfl⟩
  obtain ⟨b, hb1⟩ : ∃ b, b = (findL L t).2 := ⟨_, rfl⟩
  rw [← hd1, ← hb1] at hf ⊢
  rw [← hd1, ← hb1] at hn
  obtain ⟨T, hT⟩ : ∃ T : ByteArray, T = ⟨t.toArray⟩ := ⟨_, rfl⟩
  rw [← hT] at hf ⊢
  cases b
  · rw [hn rfl] at hf ⊢
    have HF := Lib.hid hf
    clear h hm hd hd1 hb1 hT hf hn
    go_enter Tryz.func72, Tryz.ntmps72
    go_wp2_with (go_at_call 145; (with_reducible refine HF.out.mono ?_); rintro e w1 ⟨rfl, hb⟩; have HB := Lib.hid hb; clear hb)
    go_ret2
    exact ⟨rfl, HB.out⟩
  · obtain ⟨D, hD⟩ : ∃ D : ByteArray, D = ⟨d.toArray⟩ := ⟨_, rfl⟩
    rw [← hD] at hf ⊢
    have HF := Lib.hid hf
    clear h hm hd hd1 hb1 hT hf hn hD
    go_enter Tryz.func72, Tryz.ntmps72
    go_wp2_with (go_at_call 145; (with_reducible refine HF.out.mono ?_); rintro e w1 ⟨rfl, hb⟩; have HB := Lib.hid hb; clear hb)
    go_ret2
    exact ⟨rfl, HB.out⟩
end Ft
end Go.Proofs.YtfhaloclbbmbeaaGreat
namespace Go.Proofs.YtfhaloclbbmbeaaGreat
open Go.RowKit
namespace Ft
theorem fn_cases (L : List (List UInt8 × List UInt8)) (t : List UInt8) : fnE L t = 0 ∨ (fnE L t = 7 ∧ (findL L t).1 = []) := by
  unfold fnE
  cases h : (findL L t).2
  · exact .inr ⟨rfl, findL_none h⟩
  · exact .inl rfl
theorem find_size {L : List (List UInt8 × List UInt8)} {t : List UInt8} {N : Nat} (h : ∀ i, i < L.length → (dt L i).length ≤ N) : (findL L t).1.length ≤ N := findL_len h
def rwE (L : List (List UInt8 × List UInt8)) (h : Hd) : Int := if fnE L tHmtx = 0 then WE h (findL L tHmtx).1 else 7
def rwL (L : List (List UInt8 × List UInt8)) (h : Hd) : List Int := if fnE L tHmtx = 0 then WL h (findL L tHmtx).1 else []
def rpR (L : List (List UInt8 × List UInt8)) (g : Int) : Int × List (Int × Int) := if fnE L tCmap = 0 then parS g (findL L tCmap).1 else (7, [])
theorem readWidths_any (A : Option Addr) (m c : Nat) (L : List (List UInt8 × List UInt8)) (h : Hd) (w : World) (hT : Tl w A m L) (hm : m ≤ 1000000) (hd : ∀ i, i < m → (dt L i).length ≤ 1000000) :
    Calls Tryz.prog 28 #[.slice A m c, .agg #[.int .i64 h.em, .bool h.lg, .int .i64 h.gl, .int .i64 h.me, .int .i64 h.a1, .int .i64 h.a2, .int .i64 h.a3]] w (LsE (rwE L h) (rwL L h) w) := by
  have S := Lib.hid (N11.MS.start w h)
  have HF := Lib.hid (fun W (hW : Tl W A m L) => show Calls Tryz.prog 72 #[.slice A m c, .string ⟨#[104, 109, 116, 120]⟩] W fun e w' => e = .returned (.tuple #[.string ⟨(findL L tHmtx).1.toArray⟩, .int .i64 (fnE L tHmtx)]) ∧ Below W.heap.size W w' from find_any A m c L tHmtx W hW hm hd)
  have HT := Lib.hid (hT.bel S.out.bel)
  have hl : (findL L tHmtx).1.length ≤ 1000000 := find_size (fun i hi => hd i (by rw [← hT.len]; exact hi))
  have HW := Lib.hid (fun W => N11.widths_any h ⟨(findL L tHmtx).1.toArray⟩ W (by show (findL L tHmtx).1.toArray.size ≤ _; rw [List.size_toArray]; omega))
  unfold rwE rwL
  have hc := fn_cases L tHmtx
  obtain ⟨d, hdd⟩ : ∃ d, d = (findL L tHmtx).1 := ⟨_, rfl⟩
  obtain ⟨x, hx⟩ : ∃ x, x = fnE L tHmtx := ⟨_, rfl⟩
  rw [← hdd] at HF HW hc ⊢
  rw [← hx] at HF hc ⊢
  obtain ⟨D, hD⟩ : ∃ D : ByteArray, D = ⟨d.toArray⟩ := ⟨_, rfl⟩
  have e1 : D.data.toList = d := by rw [hD]
  rw [← hD] at HF HW
  rw [e1] at HW
  obtain ⟨f0, f1, f2, f3, f4, f5, f6⟩ := S.out.cells
  rcases hc with h0 | ⟨h0, h1⟩
  · rw [h0] at HF ⊢
    rw [if_pos rfl, if_pos rfl]
    clear hT hm hd hl hdd hx hD e1 h0
    go_enter Tryz.func28, Tryz.ntmps28
    go_wp2_with (first
      | (go_at_call 72; (with_reducible refine (HF.out _ HT.out).mono ?_); rintro e w1 ⟨rfl, hb⟩; have S := Lib.hid (S.out.next hb); obtain ⟨g0, g1, g2, g3, g4, g5, g6⟩ := S.out.cells; clear hb)
      | (go_at_call 73; (with_reducible refine (HW.out _).mono ?_); rintro e w2 ⟨A2, n2, c2, rfl, hI, hb⟩; have HI := Lib.hid hI; have S := Lib.hid (S.out.next hb); clear hb hI))
    go_ret2
    exact ⟨_, _, _, rfl, HI.out, S.out.bel⟩
  · subst h1
    rw [h0] at HF ⊢
    rw [if_neg (by decide), if_neg (by decide)]
    clear hT hm hd hl hdd hx e1 h0
    go_enter Tryz.func28, Tryz.ntmps28
    go_wp2_with (go_at_call 72; (with_reducible refine (HF.out _ HT.out).mono ?_); rintro e w1 ⟨rfl, hb⟩; have S := Lib.hid (S.out.next hb); clear hb)
    go_ret2
    exact lsE_err rfl rfl S.out.bel
theorem readPairs_any (A : Option Addr) (m c : Nat) (L : List (List UInt8 × List UInt8)) (h : Hd) (w : World) (hT : Tl w A m L) (hm : m ≤ 1000000) (hd : ∀ i, i < m → (dt L i).length ≤ 1000000) :
    Calls Tryz.prog 30 #[.slice A m c, .agg #[.int .i64 h.em, .bool h.lg, .int .i64 h.gl, .int .i64 h.me, .int .i64 h.a1, .int .i64 h.a2, .int .i64 h.a3]] w (PaP (rpR L h.gl) w) := by
  have S := Lib.hid (N11.MS.start w h)
  have HF := Lib.hid (fun W (hW : Tl W A m L) => show Calls Tryz.prog 72 #[.slice A m c, .string ⟨#[99, 109, 97, 112]⟩] W fun e w' => e = .returned (.tuple #[.string ⟨(findL L tCmap).1.toArray⟩, .int .i64 (fnE L tCmap)]) ∧ Below W.heap.size W w' from find_any A m c L tCmap W hW hm hd)
  have HT := Lib.hid (hT.bel S.out.bel)
  have hl : (findL L tCmap).1.length ≤ 1000000 := find_size (fun i hi => hd i (by rw [← hT.len]; exact hi))
  have HW := Lib.hid (fun W => N12.parse_any ⟨(findL L tCmap).1.toArray⟩ h.gl W (by show (findL L tCmap).1.toArray.size ≤ _; rw [List.size_toArray]; omega))
  unfold rpR
  have hc := fn_cases L tCmap
  obtain ⟨d, hdd⟩ : ∃ d, d = (findL L tCmap).1 := ⟨_, rfl⟩
  obtain ⟨x, hx⟩ : ∃ x, x = fnE L tCmap := ⟨_, rfl⟩
  rw [← hdd] at HF HW hc ⊢
  rw [← hx] at HF hc ⊢
  obtain ⟨D, hD⟩ : ∃ D : ByteArray, D = ⟨d.toArray⟩ := ⟨_, rfl⟩
  have e1 : D.data.toList = d := by rw [hD]
  rw [← hD] at HF HW
  rw [e1] at HW
  obtain ⟨f0, f1, f2, f3, f4, f5, f6⟩ := S.out.cells
  rcases hc with h0 | ⟨h0, h1⟩
  · rw [h0] at HF ⊢
    rw [if_pos rfl]
    clear hT hm hd hl hdd hx hD e1 h0
    go_enter Tryz.func30, Tryz.ntmps30
    go_wp2_with (first
      | (go_at_call 72; (with_reducible refine (HF.out _ HT.out).mono ?_); rintro e w1 ⟨rfl, hb⟩; have S := Lib.hid (S.out.next hb); obtain ⟨g0, g1, g2, g3, g4, g5, g6⟩ := S.out.cells; clear hb)
      | (go_at_call 77; (with_reducible refine (HW.out _).mono ?_); rintro e w2 ⟨hb, A2, n2, c2, rfl, hI⟩; have HI := Lib.hid hI; have S := Lib.hid (S.out.next hb); clear hb hI))
    go_ret2
    exact ⟨S.out.bel, _, _, _, rfl, HI.out⟩
  · subst h1
    rw [h0] at HF ⊢
    rw [if_neg (by decide)]
    clear hT hm hd hl hdd hx e1 h0
    go_enter Tryz.func30, Tryz.ntmps30
    go_wp2_with (go_at_call 72; (with_reducible refine (HF.out _ HT.out).mono ?_); rintro e w1 ⟨rfl, hb⟩; have S := Lib.hid (S.out.next hb); clear hb)
    go_ret2
    exact paP_err rfl (by decide) S.out.bel
end Ft
end Go.Proofs.YtfhaloclbbmbeaaGreat
namespace Go.Proofs.YtfhaloclbbmbeaaGreat
open Go.RowKit
theorem il_15 {w : World} {A : Option Addr} {m : Nat} {xs : List Int} (h : Il w A m xs) : N15.Il .i64 w A m xs := ⟨h.len, fun i hi => h.get i hi⟩
namespace N15
set_option maxHeartbeats 1000000 in
theorem readOutlines_ok (A : Option Addr) (m c : Nat) (L : List (List UInt8 × List UInt8)) (h : Hd) (w : World) (hT : Tl w A m L) (hm : m ≤ 1000000) (hd : ∀ i, i < m → (dt L i).length ≤ 1000000)
    (d la : List UInt8) (h1 : findL L Ft.tGlyf = (d, true)) (h2 : findL L Ft.tLoca = (la, true)) (h3 : PlE h la (d.length : Int) = 0) (SS : List Shp) (h4 : PF d (PlL h la (d.length : Int)) = (0, SS)) (hF : Leaf SS) (hM : MayS SS) (hL : LimS SS) :
    Calls Tryz.prog 29 #[.slice A m c, .agg #[.int .i64 h.em, .bool h.lg, .int .i64 h.gl, .int .i64 h.me, .int .i64 h.a1, .int .i64 h.a2, .int .i64 h.a3]] w fun e w' => ∃ A' c', e = .returned (.tuple #[.slice A' SS.length c', .int .i64 0]) ∧ Otl w' A' SS.length (SS.map (·.1)) ∧ Below w.heap.size w w' := by
  have S := Lib.hid (N11.MS.start w h)
  have HT := Lib.hid hT
  have hfd : ∀ t, (findL L t).1.length ≤ 1000000 := fun t => Ft.find_size (fun i hi => hd i (by rw [← hT.len]; exact hi))
  have hdl : d.length ≤ 1000000 := by have := hfd Ft.tGlyf; rw [h1] at this; exact this
  have hll : la.length ≤ 1000000 := by have := hfd Ft.tLoca; rw [h2] at this; exact this
  have HF1 := Lib.hid (fun W (hW : Tl W A m L) => show Calls Tryz.prog 72 #[.slice A m c, .string ⟨#[103, 108, 121, 102]⟩] W fun e w' => e = .returned (.tuple #[.string ⟨d.toArray⟩, .int .i64 0]) ∧ Below W.heap.size W w' from by
    have := Ft.find_any A m c L Ft.tGlyf W hW hm hd
    unfold Ft.fnE at this
    rw [h1] at this
    exact this)
  have HF2 := Lib.hid (fun W (hW : Tl W A m L) => show Calls Tryz.prog 72 #[.slice A m c, .string ⟨#[108, 111, 99, 97]⟩] W fun e w' => e = .returned (.tuple #[.string ⟨la.toArray⟩, .int .i64 0]) ∧ Below W.heap.size W w' from by
    have := Ft.find_any A m c L Ft.tLoca W hW hm hd
    unfold Ft.fnE at this
    rw [h2] at this
    exact this)
  have HPl := Lib.hid (fun W => N11.places_any h ⟨la.toArray⟩ (d.length : Int) W (by show la.toArray.size ≤ _; rw [List.size_toArray]; omega))
  obtain ⟨ps, hps⟩ : ∃ ps, ps = PlL h la (d.length : Int) := ⟨_, rfl⟩
  rw [← hps] at h4
  have HSh := Lib.hid (fun W A2 n2 c2 (hI : Go.Proofs.YtfhaloclbbmbeaaGreat.Il W A2 n2 ps) (hn : n2 ≤ 100000) => parseShapes_any ⟨d.toArray⟩ A2 n2 c2 ps W (by show d.toArray.size ≤ _; rw [List.size_toArray]; omega) (il_15 hI) hn)
  have hpl : ps.length ≤ 100000 := by
    have := hM.1.2
    have hx : okPl d ps := by
      by_cases hx : okPl d ps
      · exact hx
      · unfold PF at h4; rw [if_neg hx] at h4; exact absurd (congrArg Prod.fst h4) (by show ¬ (1 : Int) = 0; decide)
    have := hx.1.2
    omega
  obtain ⟨D, hD⟩ : ∃ D : ByteArray, D = ⟨d.toArray⟩ := ⟨_, rfl⟩
  obtain ⟨LA, hLA⟩ : ∃ D : ByteArray, D = ⟨la.toArray⟩ := ⟨_, rfl⟩
  obtain ⟨n, hn⟩ : ∃ n, n = d.length := ⟨_, rfl⟩
  have e1 : D.data.toList = d := by rw [hD]
  have e2 : LA.data.toList = la := by rw [hLA]
  have e3 : D.size = n := by rw [hD, hn]; exact List.size_toArray
  rw [← hD] at HF1 HSh
  rw [← hLA] at HF2 HPl
  rw [e1] at HSh
  rw [e2] at HPl
  rw [← hn] at HPl h3 hps
  rw [h3, ← hps] at HPl
  rw [h4] at HSh
  have HOt := Lib.hid (fun W A2 m2 c2 (hP : Shl W A2 m2 SS) => outlines_any A2 m2 c2 SS W hP hL hM hF)
  have HPn := Lib.hid hpl
  obtain ⟨f0, f1, f2, f3, f4, f5, f6⟩ := S.out.cells
  clear hT hm hd h1 h2 h3 h4 hF hM hL hfd hdl hll hps hpl hD hLA hn e1 e2
  go_enter Tryz.func29, Tryz.ntmps29
  go_wp2_with (first
    | (go_at_call 72; (with_reducible refine (HF1.out _ (HT.out.bel S.out.bel)).mono ?_); rintro e w1 ⟨rfl, hb⟩; have S := Lib.hid (S.out.next hb); clear hb)
    | (go_at_call 72; (with_reducible refine (HF2.out _ (HT.out.bel S.out.bel)).mono ?_); rintro e w2 ⟨rfl, hb⟩; have S := Lib.hid (S.out.next hb); obtain ⟨g0, g1, g2, g3, g4, g5, g6⟩ := S.out.cells; clear hb)
    | (go_at_call 74; (with_reducible refine (HPl.out _).mono ?_); rintro e w3 ⟨A3, n3, c3, rfl, hI, hb⟩; have HI := Lib.hid hI; have S := Lib.hid (S.out.next hb); have HN3 := Lib.hid (show n3 ≤ 100000 by have := hI.len; have := HPn.out; omega); clear hb hI)
    | (go_at_call 75; (with_reducible refine (HSh.out _ _ _ _ HI.out HN3.out).mono ?_); rintro e w4 ⟨A4, n4, c4, rfl, hP, hb⟩; have HP := Lib.hid hP; have S := Lib.hid (S.out.next hb); clear hb hP)
    | (go_at_call 76; (with_reducible refine (HOt.out _ _ _ _ HP.out).mono ?_); rintro e w5 ⟨A5, c5, rfl, hO, hb⟩; have HO := Lib.hid hO; have S := Lib.hid (S.out.next hb); clear hb hO))
  go_ret2
  have hl := HP.out.len
  have hl : SS.length = n4 := hl
  subst hl
  exact ⟨A5, c5, rfl, HO.out, S.out.bel⟩
end N15
end Go.Proofs.YtfhaloclbbmbeaaGreat
