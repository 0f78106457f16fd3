/- Proved here: what New answers of the bytes of a font that is right and none of whose glyphs has parts, and of bytes without a directory. Condition: at most a million bytes · what a glyph's bytes tell (plain). No condition · what split answers. Condition: points that lie in memory; places that rise, up to the last point · Proved here (plain): what is parsed may be; bytes at a place; a flag's bits, and the steps that they tell. No condition · Proved here (plain): what is made is parsed to itself. No condition · what stands in memory while the document's contours are put together; its last loops' steps. No condition · what the law GlyfBounds answers, over memory. Condition: a contour that lies in memory · l. -/
import Derived.Test.YtfhaloclbbmbeaaGreatM47
import Derived.Test.YtfhaloclbbmbeaaGreatM09
import Derived.Test.YtfhaloclbbmbeaaGreatM42
import Derived.Test.YtfhaloclbbmbeaaGreatM46
import Derived.Laws.AppendOwn
import Derived.Laws.Append
import Derived.Laws.OwnMore
import Derived.Lib.Builder
import Derived.Lib.AppendStr
import Derived.WalkKit
import Derived.WalkSpells
import Derived.WalkLawsBesides
import Derived.Deep.DeepFit
import Derived.Deep.QuietTactic
import Derived.BigQuiet
import Derived.Lib.Hide
import Derived.StillTailTactics
import Derived.Deep.RegionHeld3
import Derived.ChangeAlike
import Derived.RegionTactic
import Derived.IntWalk
import Derived.Laws.BitsAllLaws
import Derived.Laws.Bits64b
import Derived.Laws.IdiomStrings
import Derived.Deep.CutBlock
import Derived.Deep.CutRange
import Derived.Deep.DeepCutAuto
import Derived.LoadGo2
namespace Go.Proofs.YtfhaloclbbmbeaaGreat
open Go.RowKit
namespace Ft
structure FnS (w W : World) (g : Nat) (cs : List Value) : Prop where
  bel : Below w.heap.size w W
  ge : w.heap.size ≤ g
  blk : W.heap[g]? = some (.cells cs.toArray 82 (0, 0))
section
variable {w W W' : World} {g : Nat} {cs : List Value}
theorem FnS.next (h : FnS w W g cs) (hb : Below W.heap.size W W') : FnS w W' g cs := ⟨h.bel.trans (hb.mono h.bel.size), h.ge, (hb.block g (heap_lt h.blk)).trans h.blk⟩
theorem FnS.set (h : FnS w W g cs) (j : Nat) (u : Value) : FnS w (W.setCell ⟨g, j, none⟩ u) g (cs.set j u) :=
  ⟨below_st h.bel h.ge, h.ge, by simp [World.setCell, Array.getElem?_modify, h.blk]⟩
theorem FnS.get (h : FnS w W g cs) {j : Nat} {u : Value} (hu : cs[j]? = some u) : W.cell? ⟨g, j, none⟩ = some u := by
  rw [cell_of_row W g j _ 82 (0, 0) h.blk]
  simpa using hu
theorem FnS.fr (h : FnS w W g cs) (j : Nat) : W.frozen? ⟨g, j, none⟩ = false := by have := h.blk; simp [World.frozen?, this]
end
theorem FnS.ten {w W : World} {g : Nat} {a0 a1 a2 a3 a4 a5 a6 a7 a8 a9 : Value} (h : FnS w W g [a0, a1, a2, a3, a4, a5, a6, a7, a8, a9]) : W.cell? ⟨g, 0, none⟩ = some a0 ∧ W.cell? ⟨g, 1, none⟩ = some a1 ∧ W.cell? ⟨g, 2, none⟩ = some a2 ∧ W.cell? ⟨g, 3, none⟩ = some a3 ∧ W.cell? ⟨g, 4, none⟩ = some a4 ∧ W.cell? ⟨g, 5, none⟩ = some a5 ∧ W.cell? ⟨g, 6, none⟩ = some a6 ∧ W.cell? ⟨g, 7, none⟩ = some a7 ∧ W.cell? ⟨g, 8, none⟩ = some a8 ∧ W.cell? ⟨g, 9, none⟩ = some a9 :=
  ⟨h.get rfl, h.get rfl, h.get rfl, h.get rfl, h.get rfl, h.get rfl, h.get rfl, h.get rfl, h.get rfl, h.get rfl⟩
theorem FnS.tenF {w W : World} {g : Nat} {cs : List Value} (h : FnS w W g cs) : W.frozen? ⟨g, 0, none⟩ = false ∧ W.frozen? ⟨g, 1, none⟩ = false ∧ W.frozen? ⟨g, 2, none⟩ = false ∧ W.frozen? ⟨g, 3, none⟩ = false ∧ W.frozen? ⟨g, 4, none⟩ = false ∧ W.frozen? ⟨g, 5, none⟩ = false ∧ W.frozen? ⟨g, 6, none⟩ = false ∧ W.frozen? ⟨g, 7, none⟩ = false ∧ W.frozen? ⟨g, 8, none⟩ = false ∧ W.frozen? ⟨g, 9, none⟩ = false :=
  ⟨h.fr _, h.fr _, h.fr _, h.fr _, h.fr _, h.fr _, h.fr _, h.fr _, h.fr _, h.fr _⟩
theorem il_zr {W W' : World} (z : N15.Zr W W') {A : Option Addr} {m : Nat} {xs : List Int} (h : Il W A m xs) : Il W' A m xs := ⟨h.len, fun i hi => by
  obtain ⟨ad, h1, h2, h3⟩ := h.get i hi
  exact ⟨ad, h1, Nat.lt_of_lt_of_le h2 z.size, z.cell _ _ h3 (by simp)⟩⟩
theorem pl_zr {W W' : World} (z : N15.Zr W W') {A : Option Addr} {m : Nat} {L : List (Int × Int)} (h : Pl W A m L) : Pl W' A m L := ⟨h.len, fun i hi => by
  obtain ⟨ad, h1, h2, h3, h4⟩ := h.get i hi
  exact ⟨ad, h1, Nat.lt_of_lt_of_le h2 z.size, z.cell _ _ h3 (by simp), z.cell _ _ h4 (by simp)⟩⟩
def FnB (W : World) (g : Nat) (h : Hd) (ws : List Int) (os : List (List (List Pt))) (ps : List (Int × Int)) : Prop :=
  ∃ A1 k1 c1 A2 k2 c2 A3 k3 c3, W.heap[g]? = some (.cells #[.int .i64 h.em, .bool h.lg, .int .i64 h.gl, .int .i64 h.me, .int .i64 h.a1, .int .i64 h.a2, .int .i64 h.a3, .slice A1 k1 c1, .slice A2 k2 c2, .slice A3 k3 c3] 82 (0, 0))
    ∧ Il W A1 k1 ws ∧ N15.Otl W A2 k2 os ∧ Pl W A3 k3 ps
theorem new_none (w : World) : Calls Tryz.prog 8 #[.string ⟨#[]⟩] w fun e w' => e = .returned (.tuple #[.pointer none, .int .i64 3]) ∧ Below w.heap.size w w' := by
  have h := parse_any ⟨#[]⟩ w (by decide)
  have HP := Lib.hid (show Calls Tryz.prog 26 #[.string ⟨#[]⟩] w fun e w' => ∃ A n c, e = .returned (.tuple #[.slice A n c, .int .i64 3]) ∧ Below w.heap.size w w' from h.mono fun e w' ⟨A, n, c, h1, _, h3⟩ => ⟨A, n, c, h1, h3⟩)
  clear h
  go_enter Tryz.func8, Tryz.ntmps8
  go_wp2_with (go_at_call 26; (with_reducible refine HP.out.mono ?_); rintro e w1 ⟨A, n, c, rfl, hb⟩; have HB := Lib.hid hb; clear hb)
  go_ret2
  exact ⟨rfl, HB.out⟩
set_option maxHeartbeats 4000000 in
set_option maxRecDepth 100000 in
theorem new_ok (s : ByteArray) (w : World) (L : List (List UInt8 × List UInt8)) (h : Hd) (ws : List Int) (os : List (List (List Pt))) (ps : List (Int × Int)) (HE : Hid (∀ i, i < os.length → ∀ q, q < (N15.og os i).length → 1 ≤ (ct (N15.og os i) q).length))
    (HP : Hid (∀ W, Calls Tryz.prog 26 #[.string s] W fun e w' => ∃ A n c, e = .returned (.tuple #[.slice A n c, .int .i64 0]) ∧ Tl w' A n L ∧ Below W.heap.size W w'))
    (HH : Hid (∀ W A n c, Tl W A n L → Calls Tryz.prog 27 #[.slice A n c] W fun e w' => e = .returned (.tuple #[.agg #[.int .i64 h.em, .bool h.lg, .int .i64 h.gl, .int .i64 h.me, .int .i64 h.a1, .int .i64 h.a2, .int .i64 h.a3], .int .i64 0]) ∧ Below W.heap.size W w'))
    (HW : Hid (∀ W A n c, Tl W A n L → Calls Tryz.prog 28 #[.slice A n c, .agg #[.int .i64 h.em, .bool h.lg, .int .i64 h.gl, .int .i64 h.me, .int .i64 h.a1, .int .i64 h.a2, .int .i64 h.a3]] W fun e w' => ∃ A k c, e = .returned (.tuple #[.slice A k c, .int .i64 0]) ∧ Il w' A k ws ∧ Below W.heap.size W w'))
    (HO : Hid (∀ W A n c, Tl W A n L → Calls Tryz.prog 29 #[.slice A n c, .agg #[.int .i64 h.em, .bool h.lg, .int .i64 h.gl, .int .i64 h.me, .int .i64 h.a1, .int .i64 h.a2, .int .i64 h.a3]] W fun e w' => ∃ A k c, e = .returned (.tuple #[.slice A k c, .int .i64 0]) ∧ N15.Otl w' A k os ∧ Below W.heap.size W w'))
    (HQ : Hid (∀ W A n c, Tl W A n L → Calls Tryz.prog 30 #[.slice A n c, .agg #[.int .i64 h.em, .bool h.lg, .int .i64 h.gl, .int .i64 h.me, .int .i64 h.a1, .int .i64 h.a2, .int .i64 h.a3]] W fun e w' => ∃ A k c, e = .returned (.tuple #[.slice A k c, .int .i64 0]) ∧ Pl w' A k ps ∧ Below W.heap.size W w')) :
    Calls Tryz.prog 8 #[.string s] w fun e w' => ∃ g, e = .returned (.tuple #[.pointer (some ⟨g, 0, none⟩), .int .i64 0]) ∧ FnB w' g h ws os ps ∧ Below w.heap.size w w' := by
  go_enter Tryz.func8, Tryz.ntmps8
  go_upto_region 5 with (go_at_call 26; (with_reducible refine (HP.out _).mono ?_); rintro e w1 ⟨A0, n0, c0, rfl, ht, hb⟩; have HT := Lib.hid ht; have HB := Lib.hid hb; clear ht hb)
  obtain ⟨g, hg⟩ : ∃ g, g = w1.heap.size := ⟨_, rfl⟩
  have hS1 : FnS w1 (w1.alloc (.cells #[.int .i64 0, .bool false, .int .i64 0, .int .i64 0, .int .i64 0, .int .i64 0, .int .i64 0, .slice none 0 0, .slice none 0 0, .slice none 0 0] 82)) g [.int .i64 0, .bool false, .int .i64 0, .int .i64 0, .int .i64 0, .int .i64 0, .int .i64 0, .slice none 0 0, .slice none 0 0, .slice none 0 0] :=
    ⟨(Below.refl _ _).alloc (Nat.le_refl _) _, by rw [hg]; exact Nat.le_refl _, by rw [hg]; exact heap_alloc_new w1 _⟩
  obtain ⟨W1, hW1⟩ : ∃ W, W = w1.alloc (.cells #[.int .i64 0, .bool false, .int .i64 0, .int .i64 0, .int .i64 0, .int .i64 0, .int .i64 0, .slice none 0 0, .slice none 0 0, .slice none 0 0] 82) := ⟨_, rfl⟩
  rw [← hW1] at hS1 ⊢
  rw [← hg]
  have S := Lib.hid hS1
  clear hS1 hW1 hg
  go_upto_region 8 with (go_at_call 27; (with_reducible refine (HH.out _ _ _ _ (HT.out.bel S.out.bel)).mono ?_); rintro e v0 ⟨rfl, hb⟩; have S := Lib.hid (S.out.next hb); obtain ⟨f0, f1, f2, f3, f4, f5, f6, f7, f8, f9⟩ := S.out.ten; obtain ⟨z0, z1, z2, z3, z4, z5, z6, z7, z8, z9⟩ := S.out.tenF; clear hb)
  have hS2 : FnS w1 (((((((v0.setCell ⟨g, 0, none⟩ (.int .i64 h.em)).setCell ⟨g, 1, none⟩ (.bool h.lg)).setCell ⟨g, 2, none⟩ (.int .i64 h.gl)).setCell ⟨g, 3, none⟩ (.int .i64 h.me)).setCell ⟨g, 4, none⟩ (.int .i64 h.a1)).setCell ⟨g, 5, none⟩ (.int .i64 h.a2)).setCell ⟨g, 6, none⟩ (.int .i64 h.a3)) g [.int .i64 h.em, .bool h.lg, .int .i64 h.gl, .int .i64 h.me, .int .i64 h.a1, .int .i64 h.a2, .int .i64 h.a3, .slice none 0 0, .slice none 0 0, .slice none 0 0] := (((((((S.out.set 0 (.int .i64 h.em)).set 1 (.bool h.lg)).set 2 (.int .i64 h.gl)).set 3 (.int .i64 h.me)).set 4 (.int .i64 h.a1)).set 5 (.int .i64 h.a2)).set 6 (.int .i64 h.a3))
  obtain ⟨W2, hW⟩ : ∃ W, W = (((((((v0.setCell ⟨g, 0, none⟩ (.int .i64 h.em)).setCell ⟨g, 1, none⟩ (.bool h.lg)).setCell ⟨g, 2, none⟩ (.int .i64 h.gl)).setCell ⟨g, 3, none⟩ (.int .i64 h.me)).setCell ⟨g, 4, none⟩ (.int .i64 h.a1)).setCell ⟨g, 5, none⟩ (.int .i64 h.a2)).setCell ⟨g, 6, none⟩ (.int .i64 h.a3)) := ⟨_, rfl⟩
  rw [← hW] at hS2 ⊢
  clear f0 f1 f2 f3 f4 f5 f6 f7 f8 f9 z0 z1 z2 z3 z4 z5 z6 z7 z8 z9
  have S := Lib.hid hS2
  clear hS2 hW
  obtain ⟨f0, f1, f2, f3, f4, f5, f6, f7, f8, f9⟩ := S.out.ten
  go_upto_region 11 with (go_at_call 28; (with_reducible refine (HW.out _ _ _ _ (HT.out.bel S.out.bel)).mono ?_); rintro e v1 ⟨A1, k1, c1, rfl, hx, hb⟩; have HX1 := Lib.hid hx; have S := Lib.hid (S.out.next hb); obtain ⟨f0, f1, f2, f3, f4, f5, f6, f7, f8, f9⟩ := S.out.ten; obtain ⟨z0, z1, z2, z3, z4, z5, z6, z7, z8, z9⟩ := S.out.tenF; clear hb hx)
  have hS2 : FnS w1 (v1.setCell ⟨g, 7, none⟩ (.slice A1 k1 c1)) g [.int .i64 h.em, .bool h.lg, .int .i64 h.gl, .int .i64 h.me, .int .i64 h.a1, .int .i64 h.a2, .int .i64 h.a3, .slice A1 k1 c1, .slice none 0 0, .slice none 0 0] := (S.out.set 7 (.slice A1 k1 c1))
  obtain ⟨W3, hW⟩ : ∃ W, W = (v1.setCell ⟨g, 7, none⟩ (.slice A1 k1 c1)) := ⟨_, rfl⟩
  have HX1 := Lib.hid (il_zr (N15.Zr.set f7 (.slice A1 k1 c1)) HX1.out)
  rw [← hW] at HX1
  rw [← hW] at hS2 ⊢
  clear f0 f1 f2 f3 f4 f5 f6 f7 f8 f9 z0 z1 z2 z3 z4 z5 z6 z7 z8 z9
  have S := Lib.hid hS2
  clear hS2 hW
  obtain ⟨f0, f1, f2, f3, f4, f5, f6, f7, f8, f9⟩ := S.out.ten
  go_upto_region 14 with (go_at_call 29; (with_reducible refine (HO.out _ _ _ _ (HT.out.bel S.out.bel)).mono ?_); rintro e v2 ⟨A2, k2, c2, rfl, hx, hb⟩; have HX2 := Lib.hid hx; have HX1 := Lib.hid (HX1.out.bel hb); have S := Lib.hid (S.out.next hb); obtain ⟨f0, f1, f2, f3, f4, f5, f6, f7, f8, f9⟩ := S.out.ten; obtain ⟨z0, z1, z2, z3, z4, z5, z6, z7, z8, z9⟩ := S.out.tenF; clear hb hx)
  have hS2 : FnS w1 (v2.setCell ⟨g, 8, none⟩ (.slice A2 k2 c2)) g [.int .i64 h.em, .bool h.lg, .int .i64 h.gl, .int .i64 h.me, .int .i64 h.a1, .int .i64 h.a2, .int .i64 h.a3, .slice A1 k1 c1, .slice A2 k2 c2, .slice none 0 0] := (S.out.set 8 (.slice A2 k2 c2))
  obtain ⟨W4, hW⟩ : ∃ W, W = (v2.setCell ⟨g, 8, none⟩ (.slice A2 k2 c2)) := ⟨_, rfl⟩
  have HX1 := Lib.hid (il_zr (N15.Zr.set f8 (.slice A2 k2 c2)) HX1.out)
  have HX2 := Lib.hid (HX2.out.put (fun i hi => HE.out i (by have := HX2.out.len; omega)) S.out.blk f8 (.slice A2 k2 c2))
  rw [← hW] at HX1 HX2
  rw [← hW] at hS2 ⊢
  clear f0 f1 f2 f3 f4 f5 f6 f7 f8 f9 z0 z1 z2 z3 z4 z5 z6 z7 z8 z9
  have S := Lib.hid hS2
  clear hS2 hW
  obtain ⟨f0, f1, f2, f3, f4, f5, f6, f7, f8, f9⟩ := S.out.ten
  go_upto_region 17 with (go_at_call 30; (with_reducible refine (HQ.out _ _ _ _ (HT.out.bel S.out.bel)).mono ?_); rintro e v3 ⟨A3, k3, c3, rfl, hx, hb⟩; have HX3 := Lib.hid hx; have HX1 := Lib.hid (HX1.out.bel hb); have HX2 := Lib.hid (HX2.out.bel hb); have S := Lib.hid (S.out.next hb); obtain ⟨f0, f1, f2, f3, f4, f5, f6, f7, f8, f9⟩ := S.out.ten; obtain ⟨z0, z1, z2, z3, z4, z5, z6, z7, z8, z9⟩ := S.out.tenF; clear hb hx)
  have hS2 : FnS w1 (v3.setCell ⟨g, 9, none⟩ (.slice A3 k3 c3)) g [.int .i64 h.em, .bool h.lg, .int .i64 h.gl, .int .i64 h.me, .int .i64 h.a1, .int .i64 h.a2, .int .i64 h.a3, .slice A1 k1 c1, .slice A2 k2 c2, .slice A3 k3 c3] := (S.out.set 9 (.slice A3 k3 c3))
  obtain ⟨W5, hW⟩ : ∃ W, W = (v3.setCell ⟨g, 9, none⟩ (.slice A3 k3 c3)) := ⟨_, rfl⟩
  have HX1 := Lib.hid (il_zr (N15.Zr.set f9 (.slice A3 k3 c3)) HX1.out)
  have HX2 := Lib.hid (HX2.out.put (fun i hi => HE.out i (by have := HX2.out.len; omega)) S.out.blk f9 (.slice A3 k3 c3))
  have HX3 := Lib.hid (pl_zr (N15.Zr.set f9 (.slice A3 k3 c3)) HX3.out)
  rw [← hW] at HX1 HX2 HX3
  rw [← hW] at hS2 ⊢
  clear f0 f1 f2 f3 f4 f5 f6 f7 f8 f9 z0 z1 z2 z3 z4 z5 z6 z7 z8 z9
  have S := Lib.hid hS2
  clear hS2 hW
  go_wp2_with fail
  go_ret2
  exact ⟨g, rfl, ⟨A1, k1, c1, A2, k2, c2, A3, k3, c3, S.out.blk, HX1.out, HX2.out, HX3.out⟩, HB.out.trans (S.out.bel.mono HB.out.size)⟩
end Ft
end Go.Proofs.YtfhaloclbbmbeaaGreat
namespace Go.Proofs.YtfhaloclbbmbeaaGreat
open Go.RowKit
def wid (f : Int) (sh sm : Nat) : Nat := if isS f sh then 1 else if isS f sm then 0 else 2
def stp (l : List UInt8) (a : Nat) (f : Int) (sh sm : Nat) : Int := if isS f sh then (if isS f sm then (bat l a : Int) else -(bat l a : Int)) else if isS f sm then 0 else sg16 (n2 l a)
def unts (l : List UInt8) (sh sm : Nat) : List Int → List Int → Nat → Int → Int × List Int × Nat
  | [], acc, a, _ => (0, acc, a)
  | f :: r, acc, a, z => if l.length < a + wid f sh sm then (3, [], 0) else if okU (z + stp l a f sh sm) then unts l sh sm r (acc ++ [z + stp l a f sh sm]) (a + wid f sh sm) (z + stp l a f sh sm) else (2, [], 0)
namespace N13
def pnt (fl xs ys : List Int) (i : Nat) : Pt := (co xs i, co ys i, decide (co fl i % 2 = 1))
def pnts (fl xs ys : List Int) (n : Nat) : List Pt := (List.range n).map (pnt fl xs ys)
def ptR (l : List UInt8) (n a : Nat) : Int × List Pt :=
  if (flgs l n [] a).1 ≠ 0 then ((flgs l n [] a).1, [])
  else if (unts l 2 16 (flgs l n [] a).2.1 [] (flgs l n [] a).2.2 0).1 ≠ 0 then ((unts l 2 16 (flgs l n [] a).2.1 [] (flgs l n [] a).2.2 0).1, [])
  else if (unts l 4 32 (flgs l n [] a).2.1 [] (unts l 2 16 (flgs l n [] a).2.1 [] (flgs l n [] a).2.2 0).2.2 0).1 ≠ 0 then ((unts l 4 32 (flgs l n [] a).2.1 [] (unts l 2 16 (flgs l n [] a).2.1 [] (flgs l n [] a).2.2 0).2.2 0).1, [])
  else (0, pnts (flgs l n [] a).2.1 (unts l 2 16 (flgs l n [] a).2.1 [] (flgs l n [] a).2.2 0).2.1 (unts l 4 32 (flgs l n [] a).2.1 [] (unts l 2 16 (flgs l n [] a).2.1 [] (flgs l n [] a).2.2 0).2.2 0).2.1 n)
def prF (l : List UInt8) (N a : Nat) : Int × List (List Pt) :=
  if (ptR l (frm l N) a).1 ≠ 0 then ((ptR l (frm l N) a).1, []) else (0, cuts l (ptR l (frm l N) a).2 N)
def prC (l : List UInt8) (N : Nat) : Int × List (List Pt) :=
  if l.length < 10 + 2 * N then (3, [])
  else if ¬ rise l N then (4, [])
  else if 4096 < frm l N then (6, [])
  else if l.length < 10 + 2 * N + 2 then (3, [])
  else if l.length < 10 + 2 * N + 2 + n2 l (10 + 2 * N) then (3, [])
  else prF l N (10 + 2 * N + 2 + n2 l (10 + 2 * N))
def prs (l : List UInt8) : Int × List (List Pt) :=
  if l.length = 0 then (0, [])
  else if l.length < 10 then (3, [])
  else if sg16 (n2 l 0) < 0 then (4, [])
  else if 256 < sg16 (n2 l 0) then (6, [])
  else if sg16 (n2 l 0) = 0 then (0, [])
  else prC l (sg16 (n2 l 0)).toNat
end N13
end Go.Proofs.YtfhaloclbbmbeaaGreat
namespace Go.Proofs.YtfhaloclbbmbeaaGreat
open Go.RowKit
theorem Ptl.cells {w : World} {ad : Addr} {m : Nat} {P : List Pt} (h : Ptl w (some ad) m P) : ∀ j u, (ptC P)[j]? = some u → w.cell? (ad.add j) = some u := by
  intro j u hu
  have hlt : j < (ptC P).length := by
    rcases Nat.lt_or_ge j (ptC P).length with h1 | h1
    · exact h1
    · rw [List.getElem?_eq_none h1] at hu; cases hu
  rw [ptC_len] at hlt
  obtain ⟨g1, g2, g3⟩ := ptC_get P (j / 3) (by omega)
  obtain ⟨ad2, e1, _, k1, k2, k3⟩ := h.get (j / 3) (by rw [← h.len]; omega)
  injection e1 with e1
  subst e1
  rcases (by omega : j = j / 3 * 3 ∨ j = j / 3 * 3 + 1 ∨ j = j / 3 * 3 + 2) with e | e | e
  · rw [e, g1] at hu; injection hu with hu; rw [e, ← hu]; exact k1
  · rw [e, g2] at hu; injection hu with hu; rw [e, ← hu]; exact k2
  · rw [e, g3] at hu; injection hu with hu; rw [e, ← hu]; exact k3
end Go.Proofs.YtfhaloclbbmbeaaGreat
namespace Go.Proofs.YtfhaloclbbmbeaaGreat
open Go.RowKit
def Ats (l : List UInt8) (a : Nat) (bs : List UInt8) : Prop := ∃ r, l.drop a = bs ++ r
theorem Ats.app {l : List UInt8} {a : Nat} {x y : List UInt8} (h : Ats l a (x ++ y)) : Ats l a x ∧ Ats l (a + x.length) y := by
  obtain ⟨r, h⟩ := h
  refine ⟨⟨y ++ r, by rw [h, List.append_assoc]⟩, ⟨r, ?_⟩⟩
  rw [← List.drop_drop, h, List.append_assoc, List.drop_left]
theorem Ats.len {l : List UInt8} {a : Nat} {x : List UInt8} (h : Ats l a x) (hx : 0 < x.length) : a + x.length ≤ l.length := by
  obtain ⟨r, h⟩ := h
  have := congrArg List.length h
  rw [List.length_drop, List.length_append] at this
  omega
theorem Ats.piece {l : List UInt8} {a : Nat} {x : List UInt8} (h : Ats l a x) : piece l a x.length = x := by
  obtain ⟨r, h⟩ := h
  unfold YtfhaloclbbmbeaaGreat.piece
  rw [h, List.take_left]
theorem Ats.n2 {l : List UInt8} {a n : Nat} (h : Ats l a (byt 2 n)) (hn : n < 65536) : n2 l a = n ∧ a + 2 ≤ l.length := by
  have h1 := h.piece
  rw [byt_len] at h1
  have h2 := h.len (by rw [byt_len]; omega)
  rw [byt_len] at h2
  refine ⟨?_, h2⟩
  unfold YtfhaloclbbmbeaaGreat.n2
  rw [h1]
  exact byt_bv 2 n (by omega)
theorem Ats.cons {l : List UInt8} {a : Nat} {c : UInt8} {x : List UInt8} (h : Ats l a (c :: x)) : bat l a = c.toNat ∧ a + 1 ≤ l.length ∧ Ats l (a + 1) x := by
  have h1 := Ats.app (x := [c]) (y := x) h
  have h2 := h1.1.len (by simp)
  refine ⟨?_, h2, h1.2⟩
  have h3 := piece_one (l := l) (a := a) h2
  have h4 := h1.1.piece
  have h4 : YtfhaloclbbmbeaaGreat.piece l a 1 = [c] := h4
  rw [← h3, h4]
  simp [bv]
end Go.Proofs.YtfhaloclbbmbeaaGreat
namespace Go.Proofs.YtfhaloclbbmbeaaGreat
open Go.RowKit
end Go.Proofs.YtfhaloclbbmbeaaGreat
namespace Go.Proofs.YtfhaloclbbmbeaaGreat
open Go.RowKit
def T39 (W : World) (B : Option Addr) : Prop := ∀ ad, B = some ad → ∃ cs fr, W.heap[ad.block]? = some (.cells cs 75 fr)
section
variable {W W' : World} {k : Nat} {C : Nat → List Pt} {cs : List Value}
theorem T39.next {B : Option Addr} (h : T39 W B) (hb : Below W.heap.size W W') : T39 W' B := fun ad e => by
  obtain ⟨c, fr, h1⟩ := h ad e
  exact ⟨c, fr, (hb.block _ (heap_lt h1)).trans h1⟩
theorem T39.grown {B : Option Addr} {base n : Nat} {v : Value} {xs : List Value} (h : T39 W B) (ho : W.ownsRow base 76 1 v n xs) (hg : W.grownBy W' v.ownBlock) : T39 W' B := fun ad e => by
  obtain ⟨c, fr, h1⟩ := h ad e
  exact ⟨c, fr, (hg.block _ (heap_lt h1) (own_not ho h1 (by decide))).trans h1⟩
theorem Ptl.grown {B : Option Addr} {m base n : Nat} {P : List Pt} {v : Value} {xs : List Value} (h : Ptl W B m P) (ht : T39 W B) (ho : W.ownsRow base 76 1 v n xs) (hg : W.grownBy W' v.ownBlock) : Ptl W' B m P :=
  ⟨h.len, fun i hi => by
    obtain ⟨ad, h1, h2, h3, h4, h5⟩ := h.get i hi
    obtain ⟨c, fr, h6⟩ := ht ad h1
    have hb : ∀ j, W'.cell? (ad.add j) = W.cell? (ad.add j) := fun j => World.cell?_of_block (by rw [block_of_add]; exact hg.block _ h2 (own_not ho h6 (by decide)))
    exact ⟨ad, h1, Nat.lt_of_lt_of_le h2 hg.size, by rw [hb]; exact h3, by rw [hb]; exact h4, by rw [hb]; exact h5⟩⟩
end
section
variable {w W W' : World} {v : Value} {n : Nat} {R : List Pt}
end
end Go.Proofs.YtfhaloclbbmbeaaGreat
namespace Go.Proofs.YtfhaloclbbmbeaaGreat
open Go.RowKit
end Go.Proofs.YtfhaloclbbmbeaaGreat
namespace Go.Proofs.YtfhaloclbbmbeaaGreat
open Go.RowKit
namespace N16
structure Ptl (w : World) (A : Option Addr) (m : Nat) (L : List Pt) : Prop where
  len : L.length = m
  get : ∀ i, i < m → ∃ ad, A = some ad ∧ ad.block < w.heap.size ∧ w.cell? (ad.add (i * 3)) = some (.int .i64 (px L i)) ∧ w.cell? (ad.add (i * 3 + 1)) = some (.int .i64 (py L i)) ∧ w.cell? (ad.add (i * 3 + 2)) = some (.bool (po L i))
theorem Ptl.nil (w : World) : Ptl w none 0 [] := ⟨rfl, fun i hi => by omega⟩
theorem Ptl.below {B : Nat} {w w' : World} {A : Option Addr} {m : Nat} {L : List Pt} (h : Ptl w A m L) (hb : Below B w w') (hB : w.heap.size ≤ B) : Ptl w' A m L :=
  ⟨h.len, fun i hi => by
    obtain ⟨ad, h1, h2, h3, h4, h5⟩ := h.get i hi
    exact ⟨ad, h1, Nat.lt_of_lt_of_le h2 hb.size, by rw [hb.cell (by rw [block_of_add]; omega)]; exact h3, by rw [hb.cell (by rw [block_of_add]; omega)]; exact h4, by rw [hb.cell (by rw [block_of_add]; omega)]; exact h5⟩⟩
theorem Ptl.bel {w w' : World} {A : Option Addr} {m : Nat} {L : List Pt} (h : Ptl w A m L) (hb : Below w.heap.size w w') : Ptl w' A m L := h.below hb (Nat.le_refl _)
theorem Ptl.at_ {w : World} {A : Option Addr} {m : Nat} {L : List Pt} (h : Ptl w A m L) {W : World} (hb : Below w.heap.size w W) {i : Nat} (hi : i < m) :
    ∃ ad, A = some ad ∧ W.cell? (ad.add (i * 3)) = some (.int .i64 (px L i)) ∧ W.cell? { block := (ad.add (i * 3)).block, off := (ad.add (i * 3)).off + 1 } = some (.int .i64 (py L i)) ∧ W.cell? { block := (ad.add (i * 3)).block, off := (ad.add (i * 3)).off + 2 } = some (.bool (po L i)) := by
  obtain ⟨ad, h1, h2, h3, h4, h5⟩ := h.get i hi
  exact ⟨ad, h1, by rw [hb.cell (by rw [block_of_add]; exact h2)]; exact h3, by rw [add_next, hb.cell (by rw [block_of_add]; exact h2)]; exact h4, by rw [add_next2, hb.cell (by rw [block_of_add]; exact h2)]; exact h5⟩
structure Ctl (w : World) (A : Option Addr) (m : Nat) (LL : List (List Pt)) : Prop where
  len : LL.length = m
  get : ∀ i, i < m → ∃ ad B c, A = some ad ∧ ad.block < w.heap.size ∧ w.cell? (ad.add i) = some (.slice B (ct LL i).length c) ∧ Ptl w B (ct LL i).length (ct LL i)
theorem Ctl.nil (w : World) : Ctl w none 0 [] := ⟨rfl, fun i hi => by omega⟩
theorem Ctl.bel {w w' : World} {A : Option Addr} {m : Nat} {LL : List (List Pt)} (h : Ctl w A m LL) (hb : Below w.heap.size w w') : Ctl w' A m LL :=
  ⟨h.len, fun i hi => by
    obtain ⟨ad, B, c, h1, h2, h3, h4⟩ := h.get i hi
    exact ⟨ad, B, c, h1, Nat.lt_of_lt_of_le h2 hb.size, by rw [hb.cell (by rw [block_of_add]; exact h2)]; exact h3, h4.bel hb⟩⟩
theorem Ctl.at_ {w : World} {A : Option Addr} {m : Nat} {LL : List (List Pt)} (h : Ctl w A m LL) {W : World} (hb : Below w.heap.size w W) {i : Nat} (hi : i < m) :
    ∃ ad B c, A = some ad ∧ W.cell? (ad.add i) = some (.slice B (ct LL i).length c) ∧ Ptl W B (ct LL i).length (ct LL i) := by
  obtain ⟨ad, B, c, h1, h2, h3, h4⟩ := h.get i hi
  exact ⟨ad, B, c, h1, by rw [hb.cell (by rw [block_of_add]; exact h2)]; exact h3, h4.bel hb⟩
def okP (L : List Pt) (j : Nat) : Prop := okU (px L j) ∧ okU (py L j)
instance (L : List Pt) (j : Nat) : Decidable (okP L j) := inferInstanceAs (Decidable (_ ∧ _))
def okC (LL : List (List Pt)) (i : Nat) : Prop := (1 ≤ (ct LL i).length ∧ tot LL (i + 1) ≤ 4096) ∧ ∀ j, j < (ct LL i).length → okP (ct LL i) j
instance (LL : List (List Pt)) (i : Nat) : Decidable (okC LL i) := inferInstanceAs (Decidable (_ ∧ _))
def MayG (LL : List (List Pt)) : Prop := LL.length ≤ 256 ∧ ∀ i, i < LL.length → okC LL i
instance (LL : List (List Pt)) : Decidable (MayG LL) := inferInstanceAs (Decidable (_ ∧ _))
end N16
end Go.Proofs.YtfhaloclbbmbeaaGreat
namespace Go.Proofs.YtfhaloclbbmbeaaGreat
open Go.RowKit
abbrev P2 := Int × Int
abbrev Edg := Int × Bool × P2 × P2 × P2
abbrev Nod := P2 × Bool
def mdN (px : Int) (p q : Pt) : Nod := ((px * (p.1 + q.1), px * (p.2.1 + q.2.1)), true)
def ndN (px : Int) (p : Pt) : Nod := ((2 * px * p.1, 2 * px * p.2.1), p.2.2)
def wyR (px : Int) : Pt → List Pt → List Nod
  | _, [] => []
  | q, p :: r => (if p.2.2 = false ∧ q.2.2 = false then [mdN px p q] else []) ++ ndN px p :: wyR px p r
def lstD : Pt → List Pt → Pt
  | q, [] => q
  | _, p :: r => lstD p r
theorem wyR_app (px : Int) : ∀ (q : Pt) (X Y : List Pt), wyR px q (X ++ Y) = wyR px q X ++ wyR px (lstD q X) Y
  | q, [], Y => rfl
  | q, p :: r, Y => by
    show _ ++ ndN px p :: wyR px p (r ++ Y) = (_ ++ ndN px p :: wyR px p r) ++ wyR px (lstD p r) Y
    rw [wyR_app px p r Y, List.append_assoc]
    rfl
theorem lstD_app : ∀ (q : Pt) (X Y : List Pt), lstD q (X ++ Y) = lstD (lstD q X) Y
  | _, [], _ => rfl
  | _, p :: r, Y => lstD_app p r Y
theorem wyR_len (px : Int) : ∀ (q : Pt) (X : List Pt), X.length ≤ (wyR px q X).length ∧ (wyR px q X).length ≤ 2 * X.length
  | _, [] => ⟨Nat.le_refl _, Nat.le_refl _⟩
  | q, p :: r => by
    have h := wyR_len px p r
    show r.length + 1 ≤ _ ∧ _ ≤ 2 * (r.length + 1)
    simp only [wyR, List.length_append, List.length_cons]
    by_cases c : p.2.2 = false ∧ q.2.2 = false
    · rw [if_pos c]; simp; omega
    · rw [if_neg c]; simp; omega
def bgR : Pt → Nat → List Pt → Nat
  | _, _, [] => 0
  | q, a, p :: r => if p.2.2 = true then a else bgR p (a + 1 + (if q.2.2 = false then 1 else 0)) r
theorem bgR_on (px : Int) (y : Pt) (Z : List Pt) (hy : y.2.2 = true) : ∀ (q : Pt) (a : Nat) (X : List Pt), (∀ p ∈ X, p.2.2 = false) → bgR q a (X ++ y :: Z) = a + (wyR px q X).length
  | q, a, [], _ => by show (if y.2.2 = true then a else _) = a + 0; rw [if_pos hy]; rfl
  | q, a, p :: r, h => by
    have hp : p.2.2 = false := h p (List.mem_cons_self ..)
    show (if p.2.2 = true then a else bgR p (a + 1 + (if q.2.2 = false then 1 else 0)) (r ++ y :: Z)) = _
    rw [if_neg (by rw [hp]; decide), bgR_on px y Z hy p _ r (fun x hx => h x (List.mem_cons_of_mem _ hx))]
    simp only [wyR, List.length_append, List.length_cons]
    by_cases c : q.2.2 = false
    · rw [if_pos c, if_pos ⟨hp, c⟩]; simp; omega
    · rw [if_neg c, if_neg (fun h => c h.2)]; simp; omega
theorem bgR_off : ∀ (q : Pt) (a : Nat) (X : List Pt), (∀ p ∈ X, p.2.2 = false) → bgR q a X = 0
  | _, _, [], _ => rfl
  | q, a, p :: r, h => by
    have hp : p.2.2 = false := h p (List.mem_cons_self ..)
    show (if p.2.2 = true then a else bgR p (a + 1 + (if q.2.2 = false then 1 else 0)) r) = 0
    rw [if_neg (by rw [hp]; decide)]
    exact bgR_off p _ r fun x hx => h x (List.mem_cons_of_mem _ hx)
def way0 (px : Int) (c : List Pt) : List Nod := wyR px (lstD (0, 0, false) c) c
def beg (c : List Pt) : Nat := bgR (lstD (0, 0, false) c) 0 c
def way (px : Int) (c : List Pt) : List Nod := (way0 px c).drop (beg c) ++ (way0 px c).take (beg c)
def smE (e : Edg) : Prop := e.2.2.1 = e.2.2.2.2 ∧ (e.2.1 = false ∨ e.2.2.1 = e.2.2.2.1)
instance (e : Edg) : Decidable (smE e) := inferInstanceAs (Decidable (_ ∧ _))
def eds (k : Int) : List Nod → List Edg
  | [] => []
  | [_] => []
  | [a, b] => if b.2 = true then [(k, false, a.1, (0, 0), b.1)] else []
  | a :: b :: d :: r => if b.2 = true then (k, false, a.1, (0, 0), b.1) :: eds k (b :: d :: r) else (k, true, a.1, b.1, d.1) :: eds k (d :: r)
def cE (px : Int) (c : List Pt) (k : Int) : List Edg := (eds k (way px c ++ (way px c).take 1)).filter fun e => decide (¬ smE e)
theorem eds_one (k : Int) (a : Nod) : eds k [a] = [] := by rw [eds]
theorem eds_two (k : Int) (a b : Nod) : eds k [a, b] = if b.2 = true then [(k, false, a.1, (0, 0), b.1)] else [] := by rw [eds]
theorem eds_more (k : Int) (a b d : Nod) (r : List Nod) : eds k (a :: b :: d :: r) = if b.2 = true then (k, false, a.1, (0, 0), b.1) :: eds k (b :: d :: r) else (k, true, a.1, b.1, d.1) :: eds k (d :: r) := by rw [eds]
theorem eds_line (k : Int) (a b : Nod) (r : List Nod) (hb : b.2 = true) : eds k (a :: b :: r) = (k, false, a.1, (0, 0), b.1) :: eds k (b :: r) := by
  cases r with
  | nil => rw [eds_two, if_pos hb, eds_one]
  | cons d r => rw [eds_more, if_pos hb]
theorem eds_quad (k : Int) (a b d : Nod) (r : List Nod) (hb : ¬ b.2 = true) : eds k (a :: b :: d :: r) = (k, true, a.1, b.1, d.1) :: eds k (d :: r) := by
  rw [eds_more, if_neg hb]
theorem wyR_head (px : Int) (q y : Pt) (Z : List Pt) (hy : y.2.2 = true) : ∃ R, wyR px q (y :: Z) = ndN px y :: R := ⟨wyR px y Z, by
  show (if y.2.2 = false ∧ q.2.2 = false then [mdN px y q] else []) ++ _ = _
  rw [if_neg (fun h => by rw [hy] at h; exact absurd h.1 (by decide))]
  rfl⟩
theorem way_on (px : Int) (X Z : List Pt) (y : Pt) (hy : y.2.2 = true) (hX : ∀ p ∈ X, p.2.2 = false) : way px (X ++ y :: Z) = wyR px (lstD (lstD y Z) X) (y :: Z) ++ wyR px (lstD y Z) X := by
  have e1 : lstD (0, 0, false) (X ++ y :: Z) = lstD y Z := by rw [lstD_app]; rfl
  unfold way way0 beg
  rw [e1, bgR_on px y Z hy _ 0 X hX, wyR_app, Nat.zero_add, List.drop_left, List.take_left]
theorem first_on : ∀ c : List Pt, (∃ p ∈ c, p.2.2 = true) → ∃ X y Z, c = X ++ y :: Z ∧ y.2.2 = true ∧ ∀ p ∈ X, p.2.2 = false
  | [], h => by obtain ⟨p, h, _⟩ := h; cases h
  | x :: c, h => by
    by_cases hx : x.2.2 = true
    · exact ⟨[], x, c, rfl, hx, fun p hp => by cases hp⟩
    · obtain ⟨p, hp, h2⟩ := h
      rcases List.mem_cons.1 hp with rfl | hp
      · exact absurd h2 hx
      · obtain ⟨X, y, Z, e1, e2, e3⟩ := first_on c ⟨p, hp, h2⟩
        exact ⟨x :: X, y, Z, by rw [e1]; rfl, e2, fun q hq => (List.mem_cons.1 hq).elim (fun e => by rw [e]; simpa using hx) (e3 q)⟩
end Go.Proofs.YtfhaloclbbmbeaaGreat
