/- Proved here: what stands in memory while the document's contours are put together; its last loops' steps. No condition · what the document's Parse answers. Condition: a text of at most a billion bytes · parts as they lie in memory; which may be; what bytes tell, and what is made of parts (plain); what is made is parsed to itself (plain). No condition · which numbers fit, which parts may be: in the program and in the document. No condition · which lists of parts may be: in the program and in the document. Condition: they lie in memory, at most 100000 of them. -/
import Derived.Test.YtfhaloclbbmbeaaGreatM27
import Derived.Test.YtfhaloclbbmbeaaGreatM28
import Derived.Test.YtfhaloclbbmbeaaGreatM30
import Derived.Deep.RegionLaw
import Derived.Test.YtfhaloclbbmbeaaGreatM26
namespace Go.Proofs.YtfhaloclbbmbeaaGreat
open Go.RowKit
namespace N15
def T39 (W : World) (B : Option Addr) : Prop := ∀ ad, B = some ad → ∃ cs fr, W.heap[ad.block]? = some (.cells cs 75 fr)
structure Fo (W : World) (k : Nat) (C : Nat → List Pt) (cs : List Value) : Prop where
  len : cs.length = k
  get : ∀ i, i < k → ∃ B c, cs[i]? = some (.slice B (C i).length c) ∧ Ptl W B (C i).length (C i) ∧ T39 W B
section
variable {W W' : World} {k : Nat} {C : Nat → List Pt} {cs : List Value}
theorem T39.next {B : Option Addr} (h : T39 W B) (hb : Below W.heap.size W W') : T39 W' B := fun ad e => by
  obtain ⟨c, fr, h1⟩ := h ad e
  exact ⟨c, fr, (hb.block _ (heap_lt h1)).trans h1⟩
theorem T39.grown {B : Option Addr} {base n : Nat} {v : Value} {xs : List Value} (h : T39 W B) (ho : W.ownsRow base 76 1 v n xs) (hg : W.grownBy W' v.ownBlock) : T39 W' B := fun ad e => by
  obtain ⟨c, fr, h1⟩ := h ad e
  exact ⟨c, fr, (hg.block _ (heap_lt h1) (own_not ho h1 (by decide))).trans h1⟩
theorem Ptl.grown {B : Option Addr} {m base n : Nat} {P : List Pt} {v : Value} {xs : List Value} (h : Ptl W B m P) (ht : T39 W B) (ho : W.ownsRow base 76 1 v n xs) (hg : W.grownBy W' v.ownBlock) : Ptl W' B m P :=
  ⟨h.len, fun i hi => by
    obtain ⟨ad, h1, h2, h3, h4, h5⟩ := h.get i hi
    obtain ⟨c, fr, h6⟩ := ht ad h1
    have hb : ∀ j, W'.cell? (ad.add j) = W.cell? (ad.add j) := fun j => World.cell?_of_block (by rw [block_of_add]; exact hg.block _ h2 (own_not ho h6 (by decide)))
    exact ⟨ad, h1, Nat.lt_of_lt_of_le h2 hg.size, by rw [hb]; exact h3, by rw [hb]; exact h4, by rw [hb]; exact h5⟩⟩
theorem Fo.next (f : Fo W k C cs) (hb : Below W.heap.size W W') : Fo W' k C cs := ⟨f.len, fun i hi => by
  obtain ⟨B, c, h1, h2, h3⟩ := f.get i hi
  exact ⟨B, c, h1, h2.bel hb, h3.next hb⟩⟩
theorem Fo.grown {base n : Nat} {v : Value} {xs : List Value} (f : Fo W k C cs) (ho : W.ownsRow base 76 1 v n xs) (hg : W.grownBy W' v.ownBlock) : Fo W' k C cs := ⟨f.len, fun i hi => by
  obtain ⟨B, c, h1, h2, h3⟩ := f.get i hi
  exact ⟨B, c, h1, h2.grown h3 ho hg, h3.grown ho hg⟩⟩
end
theorem own_t39 {w : World} {base size n c : Nat} {A : Option Addr} {xs : List Value} (h : w.ownsRow base 75 size (.slice A n c) n xs) : T39 w A := by
  intro ad hA
  subst hA
  rcases h.2 with ⟨h1, h2⟩ | ⟨j, cap, cur, h1, h3, h4, h5⟩
  · injection h1 with e1; cases e1
  · injection h1 with e1 e2 e3
    injection e1 with e1
    rw [e1]
    exact ⟨cur, _, h4⟩
end N15
section
variable {w W W' : World} {v : Value} {n : Nat} {R : List Pt}
end
end Go.Proofs.YtfhaloclbbmbeaaGreat
namespace Go.Proofs.YtfhaloclbbmbeaaGreat
open Go.RowKit
namespace N15
def CtO (W : World) (A : Option Addr) (k c : Nat) (LL : List (List Pt)) : Prop := LL.length = k ∧ ∃ base cs, W.ownsRow base 76 1 (.slice A k c) k cs ∧ Fo W k (ct LL) cs
theorem CtO.nil (W : World) : CtO W none 0 0 [] := ⟨rfl, 0, [], World.ownsRow_nil _ _ _ _, ⟨rfl, fun i hi => by omega⟩⟩
theorem CtO.ctl {W : World} {A : Option Addr} {k c : Nat} {LL : List (List Pt)} (h : CtO W A k c LL) : Ctl W A k LL := by
  obtain ⟨hl, base, cs, ho, hf⟩ := h
  refine ⟨hl, fun j hj => ?_⟩
  obtain ⟨ad, h1, h2, h3⟩ := own_cell ho (by omega)
  obtain ⟨B, c', h4, h5, _⟩ := hf.get j hj
  exact ⟨ad, B, c', h1, h2, h3 _ _ h4, h5⟩
end N15
end Go.Proofs.YtfhaloclbbmbeaaGreat
namespace Go.Proofs.YtfhaloclbbmbeaaGreat
open Go.RowKit
namespace N15.C
abbrev Prt := Int × Int × Int × Int × Int × Int × Int
def p0 : Prt := (0, 0, 0, 0, 0, 0, 0)
def qp (L : List Prt) (i : Nat) : Prt := L.getD i p0
def prC (p : Prt) : List Value := [.int .i64 p.1, .int .i64 p.2.1, .int .i64 p.2.2.1, .int .i64 p.2.2.2.1, .int .i64 p.2.2.2.2.1, .int .i64 p.2.2.2.2.2.1, .int .i64 p.2.2.2.2.2.2]
def plC (L : List Prt) : List Value := L.flatMap prC
theorem plC_snoc (L : List Prt) (p : Prt) : plC (L ++ [p]) = plC L ++ prC p := by simp [plC]
theorem plC_get : ∀ (L : List Prt) (i : Nat), i < L.length → ∀ j, j < 7 → (plC L)[i * 7 + j]? = (prC (qp L i))[j]?
  | t :: L, 0, _, j, hj => by
    have e : plC (t :: L) = prC t ++ plC L := rfl
    rw [e, List.getElem?_append_left (by show _ < 7; omega), show 0 * 7 + j = j by omega]
    rfl
  | t :: L, i + 1, h, j, hj => by
    have ih := plC_get L i (by simp at h; omega) j hj
    have e : plC (t :: L) = prC t ++ plC L := rfl
    rw [e, List.getElem?_append_right (by show 7 ≤ _; omega)]
    have : (i + 1) * 7 + j - (prC t).length = i * 7 + j := by show (i + 1) * 7 + j - 7 = _; omega
    rw [this, ih]
    rfl
structure Prl (w : World) (A : Option Addr) (m : Nat) (L : List Prt) : Prop where
  len : L.length = m
  get : ∀ i, i < m → ∃ ad, A = some ad ∧ ad.block < w.heap.size ∧ ∀ j u, (prC (qp L i))[j]? = some u → w.cell? (ad.add (i * 7 + j)) = some u
theorem Prl.nil (w : World) : Prl w none 0 [] := ⟨rfl, fun i hi => by omega⟩
theorem Prl.bel {w w' : World} {A : Option Addr} {m : Nat} {L : List Prt} (h : Prl w A m L) (hb : Below w.heap.size w w') : Prl w' A m L :=
  ⟨h.len, fun i hi => by
    obtain ⟨ad, h1, h2, h3⟩ := h.get i hi
    exact ⟨ad, h1, Nat.lt_of_lt_of_le h2 hb.size, fun j u hu => by rw [hb.cell (by rw [block_of_add]; exact h2)]; exact h3 j u hu⟩⟩
theorem add_nextk (a : Addr) (n k : Nat) (hk : 0 < k) : (⟨(a.add n).block, (a.add n).off + k, none⟩ : Addr) = a.add (n + k) := by
  unfold Addr.add
  have hnk : n + k ≠ 0 := by omega
  split
  · next h => subst h; simp
  · simp [Nat.add_assoc]
theorem Prl.at_ {w : World} {A : Option Addr} {m : Nat} {L : List Prt} (h : Prl w A m L) {W : World} (hb : Below w.heap.size w W) {i : Nat} (hi : i < m) :
    ∃ ad, A = some ad ∧ (W.cell? (ad.add (i * 7)) = some (.int .i64 (qp L i).1) ∧ W.cell? { block := (ad.add (i * 7)).block, off := (ad.add (i * 7)).off + 1 } = some (.int .i64 (qp L i).2.1)
      ∧ W.cell? { block := (ad.add (i * 7)).block, off := (ad.add (i * 7)).off + 2 } = some (.int .i64 (qp L i).2.2.1) ∧ W.cell? { block := (ad.add (i * 7)).block, off := (ad.add (i * 7)).off + 3 } = some (.int .i64 (qp L i).2.2.2.1)
      ∧ W.cell? { block := (ad.add (i * 7)).block, off := (ad.add (i * 7)).off + 4 } = some (.int .i64 (qp L i).2.2.2.2.1) ∧ W.cell? { block := (ad.add (i * 7)).block, off := (ad.add (i * 7)).off + 5 } = some (.int .i64 (qp L i).2.2.2.2.2.1)
      ∧ W.cell? { block := (ad.add (i * 7)).block, off := (ad.add (i * 7)).off + 6 } = some (.int .i64 (qp L i).2.2.2.2.2.2)) := by
  obtain ⟨ad, h1, h2, h3⟩ := h.get i hi
  refine ⟨ad, h1, ?_⟩
  have hc : ∀ j u, (prC (qp L i))[j]? = some u → W.cell? (ad.add (i * 7 + j)) = some u := fun j u hu => by rw [hb.cell (by rw [block_of_add]; exact h2)]; exact h3 j u hu
  refine ⟨hc 0 _ rfl, ?_, ?_, ?_, ?_, ?_, ?_⟩
  · rw [add_nextk _ _ 1 (by omega)]; exact hc 1 _ rfl
  · rw [add_nextk _ _ 2 (by omega)]; exact hc 2 _ rfl
  · rw [add_nextk _ _ 3 (by omega)]; exact hc 3 _ rfl
  · rw [add_nextk _ _ 4 (by omega)]; exact hc 4 _ rfl
  · rw [add_nextk _ _ 5 (by omega)]; exact hc 5 _ rfl
  · rw [add_nextk _ _ 6 (by omega)]; exact hc 6 _ rfl
theorem own_prl {w : World} {base T n c : Nat} {A : Option Addr} {L : List Prt} (h : w.ownsRow base T 7 (.slice A n c) n (plC L)) (hn : L.length = n) : Prl w A n L := by
  refine ⟨hn, fun i hi => ?_⟩
  obtain ⟨ad, h1, h2, h3⟩ := own_cell h (by omega)
  refine ⟨ad, h1, h2, fun j u hu => ?_⟩
  have hj : j < 7 := by
    rcases Nat.lt_or_ge j 7 with hl | hl
    · exact hl
    · rw [List.getElem?_eq_none (by show 7 ≤ j; omega)] at hu; cases hu
  exact h3 _ _ ((plC_get L i (by omega) j hj).trans hu)
def okF (n : Int) : Prop := -32768 ≤ n ∧ n ≤ 32767
instance (n : Int) : Decidable (okF n) := inferInstanceAs (Decidable (_ ∧ _))
def okU (n : Int) : Prop := -32767 ≤ n ∧ n ≤ 32767
instance (n : Int) : Decidable (okU n) := inferInstanceAs (Decidable (_ ∧ _))
def okP (p : Prt) (G : Int) : Prop := (0 ≤ p.1 ∧ p.1 < G) ∧ okF p.2.1 ∧ okF p.2.2.1 ∧ okF p.2.2.2.1 ∧ okF p.2.2.2.2.1 ∧ okF p.2.2.2.2.2.1 ∧ okF p.2.2.2.2.2.2
instance (p : Prt) (G : Int) : Decidable (okP p G) := inferInstanceAs (Decidable (_ ∧ _))
def okG (G : Int) : Prop := 1 ≤ G ∧ G ≤ 1024
instance (G : Int) : Decidable (okG G) := inferInstanceAs (Decidable (_ ∧ _))
def MayL (L : List Prt) (G : Int) : Prop := okG G ∧ (1 ≤ L.length ∧ L.length ≤ 64) ∧ ∀ i, i < L.length → okP (qp L i) G
instance (L : List Prt) (G : Int) : Decidable (MayL L G) := inferInstanceAs (Decidable (okG G ∧ (1 ≤ L.length ∧ L.length ≤ 64) ∧ ∀ i, i < L.length → okP (qp L i) G))
def okB (f : Nat) : Prop := f / 2 % 2 = 1 ∧ f / 16 % 2 = 0 ∧ f / 2048 % 2 = 0 ∧ f < 8192 ∧ f / 8 % 2 + f / 64 % 2 + f / 128 % 2 ≤ 1
instance (f : Nat) : Decidable (okB f) := inferInstanceAs (Decidable (_ ∧ _))
def mvw (f : Nat) : Nat := if f % 2 = 1 then 4 else 2
def nuw (f : Nat) : Nat := if f / 8 % 2 = 1 then 2 else if f / 64 % 2 = 1 then 4 else if f / 128 % 2 = 1 then 8 else 0
def sg8 (n : Nat) : Int := if 128 ≤ n then (n : Int) - 256 else n
def s2 (l : List UInt8) (a : Nat) : Int := sg16 (n2 l a)
def mvX (l : List UInt8) (f a : Nat) : Int := if f % 2 = 1 then s2 l a else sg8 (bat l a)
def mvY (l : List UInt8) (f a : Nat) : Int := if f % 2 = 1 then s2 l (a + 2) else sg8 (bat l (a + 1))
def nu4 (l : List UInt8) (f a : Nat) : Int × Int × Int × Int :=
  if f / 8 % 2 = 1 then (s2 l a, 0, 0, s2 l a) else if f / 64 % 2 = 1 then (s2 l a, 0, 0, s2 l (a + 2)) else if f / 128 % 2 = 1 then (s2 l a, s2 l (a + 2), s2 l (a + 4), s2 l (a + 6)) else (16384, 0, 0, 16384)
def prt (l : List UInt8) (G : Int) (a : Nat) : Int × Prt × Bool × Nat :=
  if l.length < a + 4 then (3, p0, false, 0) else if ¬ okB (n2 l a) ∨ G ≤ (n2 l (a + 2) : Int) then (4, p0, false, 0)
  else if l.length < a + 4 + mvw (n2 l a) + nuw (n2 l a) then (3, p0, false, 0)
  else (0, ((n2 l (a + 2) : Int), mvX l (n2 l a) (a + 4), mvY l (n2 l a) (a + 4), nu4 l (n2 l a) (a + 4 + mvw (n2 l a))), decide (n2 l a / 32 % 2 = 1), a + 4 + mvw (n2 l a) + nuw (n2 l a))
def prs (l : List UInt8) (G : Int) : Nat → List Prt → Nat → Int × List Prt
  | 0, _, _ => (6, [])
  | n + 1, acc, a => if (prt l G a).1 ≠ 0 then ((prt l G a).1, []) else if (prt l G a).2.2.1 = true then prs l G n (acc ++ [(prt l G a).2.1]) (prt l G a).2.2.2 else (0, acc ++ [(prt l G a).2.1])
def isN (l : List UInt8) : Prop := 2 ≤ l.length ∧ 32768 ≤ n2 l 0
instance (l : List UInt8) : Decidable (isN l) := inferInstanceAs (Decidable (_ ∧ _))
def PA (l : List UInt8) (G : Int) : Int × List Prt := if ¬ okG G then (1, []) else if l.length < 10 then (3, []) else if ¬ isN l then (4, []) else prs l G 64 [] 10
def u2 (n : Int) : List UInt8 := byt 2 (n % 65536).toNat
def u1 (n : Int) : List UInt8 := byt 1 (n % 256).toNat
theorem sg8_okF (m : Nat) (h : m < 256) : okF (sg8 m) := by unfold sg8 okF; split <;> omega
end N15.C
end Go.Proofs.YtfhaloclbbmbeaaGreat
namespace Go.Proofs.YtfhaloclbbmbeaaGreat
open Go.RowKit
namespace N15.C
theorem fits_any (x : Int) (w : World) : Calls Tryz.prog 265 #[.int .i64 x] w fun e w' => e = .returned (.bool (decide (okF x))) ∧ w = w' := by
  by_cases h1 : -32768 ≤ x
  · by_cases h2 : x ≤ 32767
    · rw [decide_eq_true (show okF x from ⟨h1, h2⟩)]
      go_enter Tryz.func265, Tryz.ntmps265
      go_wp2_with fail
      go_ret
      exact ⟨rfl, rfl⟩
    · rw [decide_eq_false (fun h : okF x => h2 h.2)]
      go_enter Tryz.func265, Tryz.ntmps265
      go_wp2_with fail
      go_ret
      exact ⟨rfl, rfl⟩
  · rw [decide_eq_false (fun h : okF x => h1 h.1)]
    go_enter Tryz.func265, Tryz.ntmps265
    go_wp2_with fail
    go_ret
    exact ⟨rfl, rfl⟩
theorem unit_any (x : Int) (w : World) : Calls Tryz.prog 298 #[.int .i64 x] w fun e w' => e = .returned (.bool (decide (okU x))) ∧ w = w' := by
  by_cases h1 : -32767 ≤ x
  · by_cases h2 : x ≤ 32767
    · rw [decide_eq_true (show okU x from ⟨h1, h2⟩)]
      go_enter Tryz.func298, Tryz.ntmps298
      go_wp2_with fail
      go_ret
      exact ⟨rfl, rfl⟩
    · rw [decide_eq_false (fun h : okU x => h2 h.2)]
      go_enter Tryz.func298, Tryz.ntmps298
      go_wp2_with fail
      go_ret
      exact ⟨rfl, rfl⟩
  · rw [decide_eq_false (fun h : okU x => h1 h.1)]
    go_enter Tryz.func298, Tryz.ntmps298
    go_wp2_with fail
    go_ret
    exact ⟨rfl, rfl⟩
theorem glyphs_any (x : Int) (w : World) : Calls Tryz.prog 228 #[.int .i64 x] w fun e w' => e = .returned (.bool (decide (okG x))) ∧ w = w' := by
  by_cases h1 : 1 ≤ x
  · by_cases h2 : x ≤ 1024
    · rw [decide_eq_true (show okG x from ⟨h1, h2⟩)]
      go_enter Tryz.func228, Tryz.ntmps228
      go_wp2_with fail
      go_ret
      exact ⟨rfl, rfl⟩
    · rw [decide_eq_false (fun h : okG x => h2 h.2)]
      go_enter Tryz.func228, Tryz.ntmps228
      go_wp2_with fail
      go_ret
      exact ⟨rfl, rfl⟩
  · rw [decide_eq_false (fun h : okG x => h1 h.1)]
    go_enter Tryz.func228, Tryz.ntmps228
    go_wp2_with fail
    go_ret
    exact ⟨rfl, rfl⟩
def Bp (w : World) (b : Nat) (p : Prt) : Prop := w.heap[b]? = some (.cells #[.int .i64 p.1, .int .i64 p.2.1, .int .i64 p.2.2.1, .int .i64 p.2.2.2.1, .int .i64 p.2.2.2.2.1, .int .i64 p.2.2.2.2.2.1, .int .i64 p.2.2.2.2.2.2] 265 (0, 0))
theorem Bp.cells {w : World} {h : Nat} {p : Prt} (k : Bp w h p) : w.cell? ⟨h, 0, none⟩ = some (.int .i64 p.1) ∧ w.cell? ⟨h, 1, none⟩ = some (.int .i64 p.2.1) ∧ w.cell? ⟨h, 2, none⟩ = some (.int .i64 p.2.2.1) ∧ w.cell? ⟨h, 3, none⟩ = some (.int .i64 p.2.2.2.1) ∧ w.cell? ⟨h, 4, none⟩ = some (.int .i64 p.2.2.2.2.1) ∧ w.cell? ⟨h, 5, none⟩ = some (.int .i64 p.2.2.2.2.2.1) ∧ w.cell? ⟨h, 6, none⟩ = some (.int .i64 p.2.2.2.2.2.2) :=
  ⟨cell_of_row w h 0 _ 265 (0, 0) k, cell_of_row w h 1 _ 265 (0, 0) k, cell_of_row w h 2 _ 265 (0, 0) k, cell_of_row w h 3 _ 265 (0, 0) k, cell_of_row w h 4 _ 265 (0, 0) k, cell_of_row w h 5 _ 265 (0, 0) k, cell_of_row w h 6 _ 265 (0, 0) k⟩
theorem Bp.lt {w : World} {h : Nat} {p : Prt} (k : Bp w h p) : h < w.heap.size := heap_lt k
theorem Bp.bel {w w' : World} {h : Nat} {p : Prt} (k : Bp w h p) (hb : Below w.heap.size w w') : Bp w' h p := (hb.block h k.lt).trans k
theorem Bp.fr {w : World} {h : Nat} {p : Prt} (k : Bp w h p) (j : Nat) : w.frozen? ⟨h, j, none⟩ = false := by
  unfold Bp at k
  simp [World.frozen?, k]
theorem Bp.new (w : World) (a b c d e f g : Int) : Bp (w.alloc (.cells #[.int .i64 a, .int .i64 b, .int .i64 c, .int .i64 d, .int .i64 e, .int .i64 f, .int .i64 g] 265)) w.heap.size (a, b, c, d, e, f, g) := heap_alloc_new w _
set_option maxHeartbeats 8000000 in
set_option maxRecDepth 100000 in
theorem mayPart_any (g x y a b c d G : Int) (w : World) : Calls Tryz.prog 229 #[.agg #[.int .i64 g, .int .i64 x, .int .i64 y, .int .i64 a, .int .i64 b, .int .i64 c, .int .i64 d], .int .i64 G] w fun e w' => e = .returned (.bool (decide (okP (g, x, y, a, b, c, d) G))) ∧ Below w.heap.size w w' := by
  have HB0 := Lib.hid (show Below w.heap.size w (w.alloc (.cells #[.int .i64 g, .int .i64 x, .int .i64 y, .int .i64 a, .int .i64 b, .int .i64 c, .int .i64 d] 265)) from (Below.refl _ _).alloc (Nat.le_refl _) _)
  have hO : okP (g, x, y, a, b, c, d) G ↔ (0 ≤ g ∧ g < G) ∧ okF x ∧ okF y ∧ okF a ∧ okF b ∧ okF c ∧ okF d := Iff.rfl
  have qx := fun W => fits_any x W
  have qy := fun W => fits_any y W
  have qa := fun W => fits_any a W
  have qb := fun W => fits_any b W
  have qc := fun W => fits_any c W
  have qd := fun W => fits_any d W
  by_cases k0 : 0 ≤ g
  · by_cases k1 : g < G
    · by_cases k2 : okF x
      · rw [decide_eq_true k2] at qx
        by_cases k3 : okF y
        · rw [decide_eq_true k3] at qy
          by_cases k4 : okF a
          · rw [decide_eq_true k4] at qa
            by_cases k5 : okF b
            · rw [decide_eq_true k5] at qb
              by_cases k6 : okF c
              · rw [decide_eq_true k6] at qc
                by_cases k7 : okF d
                · rw [decide_eq_true k7] at qd
                  rw [decide_eq_true (hO.2 ⟨⟨k0, k1⟩, k2, k3, k4, k5, k6, k7⟩)]
                  have Qx := Lib.hid qx
                  have Qy := Lib.hid qy
                  have Qa := Lib.hid qa
                  have Qb := Lib.hid qb
                  have Qc := Lib.hid qc
                  have Qd := Lib.hid qd
                  clear hO qx qy qa qb qc qd k2 k3 k4 k5 k6 k7
                  go_enter Tryz.func229, Tryz.ntmps229
                  go_wp2_with (first | (go_at_call 265; (with_reducible refine (Qx.out _).mono ?_); rintro e w' ⟨rfl, rfl⟩) | (go_at_call 265; (with_reducible refine (Qy.out _).mono ?_); rintro e w' ⟨rfl, rfl⟩) | (go_at_call 265; (with_reducible refine (Qa.out _).mono ?_); rintro e w' ⟨rfl, rfl⟩) | (go_at_call 265; (with_reducible refine (Qb.out _).mono ?_); rintro e w' ⟨rfl, rfl⟩) | (go_at_call 265; (with_reducible refine (Qc.out _).mono ?_); rintro e w' ⟨rfl, rfl⟩) | (go_at_call 265; (with_reducible refine (Qd.out _).mono ?_); rintro e w' ⟨rfl, rfl⟩))
                  go_ret
                  exact ⟨rfl, HB0.out⟩
                · rw [decide_eq_false k7] at qd
                  rw [decide_eq_false (fun h => k7 (hO.1 h).2.2.2.2.2.2)]
                  have Qx := Lib.hid qx
                  have Qy := Lib.hid qy
                  have Qa := Lib.hid qa
                  have Qb := Lib.hid qb
                  have Qc := Lib.hid qc
                  have Qd := Lib.hid qd
                  clear hO qx qy qa qb qc qd k2 k3 k4 k5 k6 k7
                  go_enter Tryz.func229, Tryz.ntmps229
                  go_wp2_with (first | (go_at_call 265; (with_reducible refine (Qx.out _).mono ?_); rintro e w' ⟨rfl, rfl⟩) | (go_at_call 265; (with_reducible refine (Qy.out _).mono ?_); rintro e w' ⟨rfl, rfl⟩) | (go_at_call 265; (with_reducible refine (Qa.out _).mono ?_); rintro e w' ⟨rfl, rfl⟩) | (go_at_call 265; (with_reducible refine (Qb.out _).mono ?_); rintro e w' ⟨rfl, rfl⟩) | (go_at_call 265; (with_reducible refine (Qc.out _).mono ?_); rintro e w' ⟨rfl, rfl⟩) | (go_at_call 265; (with_reducible refine (Qd.out _).mono ?_); rintro e w' ⟨rfl, rfl⟩))
                  go_ret
                  exact ⟨rfl, HB0.out⟩
              · rw [decide_eq_false k6] at qc
                rw [decide_eq_false (fun h => k6 (hO.1 h).2.2.2.2.2.1)]
                have Qx := Lib.hid qx
                have Qy := Lib.hid qy
                have Qa := Lib.hid qa
                have Qb := Lib.hid qb
                have Qc := Lib.hid qc
                have Qd := Lib.hid qd
                clear hO qx qy qa qb qc qd k2 k3 k4 k5 k6
                go_enter Tryz.func229, Tryz.ntmps229
                go_wp2_with (first | (go_at_call 265; (with_reducible refine (Qx.out _).mono ?_); rintro e w' ⟨rfl, rfl⟩) | (go_at_call 265; (with_reducible refine (Qy.out _).mono ?_); rintro e w' ⟨rfl, rfl⟩) | (go_at_call 265; (with_reducible refine (Qa.out _).mono ?_); rintro e w' ⟨rfl, rfl⟩) | (go_at_call 265; (with_reducible refine (Qb.out _).mono ?_); rintro e w' ⟨rfl, rfl⟩) | (go_at_call 265; (with_reducible refine (Qc.out _).mono ?_); rintro e w' ⟨rfl, rfl⟩) | (go_at_call 265; (with_reducible refine (Qd.out _).mono ?_); rintro e w' ⟨rfl, rfl⟩))
                go_ret
                exact ⟨rfl, HB0.out⟩
            · rw [decide_eq_false k5] at qb
              rw [decide_eq_false (fun h => k5 (hO.1 h).2.2.2.2.1)]
              have Qx := Lib.hid qx
              have Qy := Lib.hid qy
              have Qa := Lib.hid qa
              have Qb := Lib.hid qb
              have Qc := Lib.hid qc
              have Qd := Lib.hid qd
              clear hO qx qy qa qb qc qd k2 k3 k4 k5
              go_enter Tryz.func229, Tryz.ntmps229
              go_wp2_with (first | (go_at_call 265; (with_reducible refine (Qx.out _).mono ?_); rintro e w' ⟨rfl, rfl⟩) | (go_at_call 265; (with_reducible refine (Qy.out _).mono ?_); rintro e w' ⟨rfl, rfl⟩) | (go_at_call 265; (with_reducible refine (Qa.out _).mono ?_); rintro e w' ⟨rfl, rfl⟩) | (go_at_call 265; (with_reducible refine (Qb.out _).mono ?_); rintro e w' ⟨rfl, rfl⟩) | (go_at_call 265; (with_reducible refine (Qc.out _).mono ?_); rintro e w' ⟨rfl, rfl⟩) | (go_at_call 265; (with_reducible refine (Qd.out _).mono ?_); rintro e w' ⟨rfl, rfl⟩))
              go_ret
              exact ⟨rfl, HB0.out⟩
          · rw [decide_eq_false k4] at qa
            rw [decide_eq_false (fun h => k4 (hO.1 h).2.2.2.1)]
            have Qx := Lib.hid qx
            have Qy := Lib.hid qy
            have Qa := Lib.hid qa
            have Qb := Lib.hid qb
            have Qc := Lib.hid qc
            have Qd := Lib.hid qd
            clear hO qx qy qa qb qc qd k2 k3 k4
            go_enter Tryz.func229, Tryz.ntmps229
            go_wp2_with (first | (go_at_call 265; (with_reducible refine (Qx.out _).mono ?_); rintro e w' ⟨rfl, rfl⟩) | (go_at_call 265; (with_reducible refine (Qy.out _).mono ?_); rintro e w' ⟨rfl, rfl⟩) | (go_at_call 265; (with_reducible refine (Qa.out _).mono ?_); rintro e w' ⟨rfl, rfl⟩) | (go_at_call 265; (with_reducible refine (Qb.out _).mono ?_); rintro e w' ⟨rfl, rfl⟩) | (go_at_call 265; (with_reducible refine (Qc.out _).mono ?_); rintro e w' ⟨rfl, rfl⟩) | (go_at_call 265; (with_reducible refine (Qd.out _).mono ?_); rintro e w' ⟨rfl, rfl⟩))
            go_ret
            exact ⟨rfl, HB0.out⟩
        · rw [decide_eq_false k3] at qy
          rw [decide_eq_false (fun h => k3 (hO.1 h).2.2.1)]
          have Qx := Lib.hid qx
          have Qy := Lib.hid qy
          have Qa := Lib.hid qa
          have Qb := Lib.hid qb
          have Qc := Lib.hid qc
          have Qd := Lib.hid qd
          clear hO qx qy qa qb qc qd k2 k3
          go_enter Tryz.func229, Tryz.ntmps229
          go_wp2_with (first | (go_at_call 265; (with_reducible refine (Qx.out _).mono ?_); rintro e w' ⟨rfl, rfl⟩) | (go_at_call 265; (with_reducible refine (Qy.out _).mono ?_); rintro e w' ⟨rfl, rfl⟩) | (go_at_call 265; (with_reducible refine (Qa.out _).mono ?_); rintro e w' ⟨rfl, rfl⟩) | (go_at_call 265; (with_reducible refine (Qb.out _).mono ?_); rintro e w' ⟨rfl, rfl⟩) | (go_at_call 265; (with_reducible refine (Qc.out _).mono ?_); rintro e w' ⟨rfl, rfl⟩) | (go_at_call 265; (with_reducible refine (Qd.out _).mono ?_); rintro e w' ⟨rfl, rfl⟩))
          go_ret
          exact ⟨rfl, HB0.out⟩
      · rw [decide_eq_false k2] at qx
        rw [decide_eq_false (fun h => k2 (hO.1 h).2.1)]
        have Qx := Lib.hid qx
        have Qy := Lib.hid qy
        have Qa := Lib.hid qa
        have Qb := Lib.hid qb
        have Qc := Lib.hid qc
        have Qd := Lib.hid qd
        clear hO qx qy qa qb qc qd k2
        go_enter Tryz.func229, Tryz.ntmps229
        go_wp2_with (first | (go_at_call 265; (with_reducible refine (Qx.out _).mono ?_); rintro e w' ⟨rfl, rfl⟩) | (go_at_call 265; (with_reducible refine (Qy.out _).mono ?_); rintro e w' ⟨rfl, rfl⟩) | (go_at_call 265; (with_reducible refine (Qa.out _).mono ?_); rintro e w' ⟨rfl, rfl⟩) | (go_at_call 265; (with_reducible refine (Qb.out _).mono ?_); rintro e w' ⟨rfl, rfl⟩) | (go_at_call 265; (with_reducible refine (Qc.out _).mono ?_); rintro e w' ⟨rfl, rfl⟩) | (go_at_call 265; (with_reducible refine (Qd.out _).mono ?_); rintro e w' ⟨rfl, rfl⟩))
        go_ret
        exact ⟨rfl, HB0.out⟩
    · rw [decide_eq_false (fun h => k1 (hO.1 h).1.2)]
      have Qx := Lib.hid qx
      have Qy := Lib.hid qy
      have Qa := Lib.hid qa
      have Qb := Lib.hid qb
      have Qc := Lib.hid qc
      have Qd := Lib.hid qd
      clear hO qx qy qa qb qc qd
      go_enter Tryz.func229, Tryz.ntmps229
      go_wp2_with (first | (go_at_call 265; (with_reducible refine (Qx.out _).mono ?_); rintro e w' ⟨rfl, rfl⟩) | (go_at_call 265; (with_reducible refine (Qy.out _).mono ?_); rintro e w' ⟨rfl, rfl⟩) | (go_at_call 265; (with_reducible refine (Qa.out _).mono ?_); rintro e w' ⟨rfl, rfl⟩) | (go_at_call 265; (with_reducible refine (Qb.out _).mono ?_); rintro e w' ⟨rfl, rfl⟩) | (go_at_call 265; (with_reducible refine (Qc.out _).mono ?_); rintro e w' ⟨rfl, rfl⟩) | (go_at_call 265; (with_reducible refine (Qd.out _).mono ?_); rintro e w' ⟨rfl, rfl⟩))
      go_ret
      exact ⟨rfl, HB0.out⟩
  · rw [decide_eq_false (fun h => k0 (hO.1 h).1.1)]
    have Qx := Lib.hid qx
    have Qy := Lib.hid qy
    have Qa := Lib.hid qa
    have Qb := Lib.hid qb
    have Qc := Lib.hid qc
    have Qd := Lib.hid qd
    clear hO qx qy qa qb qc qd
    go_enter Tryz.func229, Tryz.ntmps229
    go_wp2_with (first | (go_at_call 265; (with_reducible refine (Qx.out _).mono ?_); rintro e w' ⟨rfl, rfl⟩) | (go_at_call 265; (with_reducible refine (Qy.out _).mono ?_); rintro e w' ⟨rfl, rfl⟩) | (go_at_call 265; (with_reducible refine (Qa.out _).mono ?_); rintro e w' ⟨rfl, rfl⟩) | (go_at_call 265; (with_reducible refine (Qb.out _).mono ?_); rintro e w' ⟨rfl, rfl⟩) | (go_at_call 265; (with_reducible refine (Qc.out _).mono ?_); rintro e w' ⟨rfl, rfl⟩) | (go_at_call 265; (with_reducible refine (Qd.out _).mono ?_); rintro e w' ⟨rfl, rfl⟩))
    go_ret
    exact ⟨rfl, HB0.out⟩
end N15.C
end Go.Proofs.YtfhaloclbbmbeaaGreat
namespace Go.Proofs.YtfhaloclbbmbeaaGreat
open Go.RowKit
namespace N15.C
set_option maxHeartbeats 4000000 in
set_option maxRecDepth 100000 in
theorem may_any (A : Option Addr) (m c : Nat) (L : List Prt) (G : Int) (w : World) (hP : Prl w A m L) (hm : m ≤ 100000) :
    Calls Tryz.prog 171 #[.slice A m c, .int .i64 G] w fun e w' => e = .returned (.bool (decide (MayL L G))) ∧ Below w.heap.size w w' := by
  have hlen := hP.len
  have CG := Lib.hid (fun W => glyphs_any G W)
  by_cases hG : okG G
  · rw [decide_eq_true hG] at CG
    by_cases h0 : m = 0
    · rw [decide_eq_false (show ¬ MayL L G from fun h => by have := h.2.1.1; omega)]
      subst h0
      clear hlen hP hG
      go_enter Tryz.func171, Tryz.ntmps171
      go_wp2_with (go_at_call 228; (with_reducible refine (CG.out _).mono ?_); rintro e w1 ⟨rfl, rfl⟩)
      go_ret
      exact ⟨rfl, Below.refl _ _⟩
    · have e0 : ((m : Int) == 0) = false := by simp [h0]
      by_cases h64 : 64 < m
      · rw [decide_eq_false (show ¬ MayL L G from fun h => by have := h.2.1.2; omega)]
        clear hlen hP h0 hG
        go_enter Tryz.func171, Tryz.ntmps171
        go_wp2_with (go_at_call 228; (with_reducible refine (CG.out _).mono ?_); rintro e w1 ⟨rfl, rfl⟩)
        go_ret
        exact ⟨rfl, Below.refl _ _⟩
      · have HY := Lib.hid (show (∀ i, i < m → okP (qp L i) G) → decide (MayL L G) = true from fun h => decide_eq_true ⟨hG, by omega, by rw [hlen]; exact h⟩)
        have HN := Lib.hid (show ∀ k, k < m → ¬ okP (qp L k) G → decide (MayL L G) = false from fun k hk h => decide_eq_false fun h2 => h (h2.2.2 k (by omega)))
        have HI := Lib.hid hP
        clear hlen hP h0 hG
        go_enter Tryz.func171, Tryz.ntmps171
        go_wp2_with (go_at_call 228; (with_reducible refine (CG.out _).mono ?_); rintro e w1 ⟨rfl, rfl⟩)
        go_loopw [22] (fun i wr => ∃ k : Nat, i = .int .i64 (k : Int) ∧ k ≤ m ∧ (∀ i, i < k → okP (qp L i) G) ∧ Below w.heap.size w wr) (fun i _ => m - (intOf i).toNat)
        case atStart => exact ⟨0, rfl, Nat.zero_le _, fun i hi => by omega, Below.refl _ _⟩
        case round =>
          obtain ⟨k, rfl, hk, hok, hb⟩ := hrel
          have HB := Lib.hid hb
          by_cases hgo : k < m
          · obtain ⟨ad, rfl, hc⟩ := HI.out.at_ hb hgo
            have HSU := Lib.hid (show okP (qp L k) G → ∀ i, i < k + 1 → okP (qp L i) G from all_succ hok)
            have HNK := Lib.hid (HN.out k hgo)
            obtain ⟨p, hp⟩ : ∃ p, p = qp L k := ⟨_, rfl⟩
            rw [← hp] at hc HSU HNK
            obtain ⟨g, x, y, a, b, c, d⟩ := p
            obtain ⟨c0, c1, c2, c3, c4, c5, c6⟩ := hc
            dsimp only at c0 c1 c2 c3 c4 c5 c6
            have CP := Lib.hid (fun W => mayPart_any g x y a b c d G W)
            clear hp hb hok
            by_cases hp : okP (g, x, y, a, b, c, d) G
            · rw [decide_eq_true hp] at CP
              have HX := Lib.hid (HSU.out hp)
              clear hp
              go_wp2_with (go_at_call 229; (with_reducible refine (CP.out _).mono ?_); rintro e w2 ⟨rfl, hb2⟩; have HB2 := Lib.hid ((HB.out.alloc HB.out.size _).trans (hb2.mono (HB.out.alloc HB.out.size _).size)); clear hb2)
              exact ⟨⟨k + 1, by simp, by omega, HX.out, HB2.out⟩, by simp [intOf]; omega⟩
            · rw [decide_eq_false hp] at CP
              have HX := Lib.hid (HNK.out hp)
              clear hp
              go_wp2_with (go_at_call 229; (with_reducible refine (CP.out _).mono ?_); rintro e w2 ⟨rfl, hb2⟩; have HB2 := Lib.hid ((HB.out.alloc HB.out.size _).trans (hb2.mono (HB.out.alloc HB.out.size _).size)); clear hb2)
              go_ret
              exact ⟨by rw [HX.out]; rfl, HB2.out⟩
          · obtain rfl : k = m := by omega
            have HX := Lib.hid (HY.out hok)
            clear hb hok
            go_wp2_with fail
            go_ret
            exact ⟨by rw [HX.out]; rfl, HB.out⟩
  · rw [decide_eq_false hG] at CG
    rw [decide_eq_false (show ¬ MayL L G from fun h => hG h.1)]
    clear hlen hP hG
    go_enter Tryz.func171, Tryz.ntmps171
    go_wp2_with (go_at_call 228; (with_reducible refine (CG.out _).mono ?_); rintro e w1 ⟨rfl, rfl⟩)
    go_ret
    exact ⟨rfl, Below.refl _ _⟩
end N15.C
end Go.Proofs.YtfhaloclbbmbeaaGreat
