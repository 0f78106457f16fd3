/- Proved here: Proved here (plain): a glyph's outline, with all that it is put together of; its bounds. No condition. · what stands in memory while the document goes to the parts of glyphs. No condition. · what stands in memory while the document goes to a glyph's parts; facts for its walk. No condition. -/
import Derived.Test.YtlfnagfcggmeaaaFA
namespace Go.Proofs.Ytlfnagfcggmeaaa
open Go.RowKit

/-- An error, the outline, how deep, and how many parts were gone to. -/
abbrev GR := Int × List (List Pt) × Int × Int
def tots (LL : List (List Pt)) : Nat := tot LL LL.length
/-- The parts of a glyph, one by one: `rec` goes to a glyph, in those that it is in. -/
def goL (rec : Int → List Int → Int → GR) (pl : Bool) (now : List Int) : List C.Prt → List (List Pt) → Int → Int → GR
  | [], out, d, v => (0, out, d, v)
  | p :: r, out, d, v =>
    if p.1 ∈ now then (9, [], 0, v) else if 8 < now.length then (8, [], 0, v) else if 4096 < v + 1 then (6, [], 0, v + 1)
    else if (rec p.1 now (v + 1)).1 ≠ 0 then ((rec p.1 now (v + 1)).1, [], 0, (rec p.1 now (v + 1)).2.2.2)
    else if pl = true then goL rec pl now r out (max d ((rec p.1 now (v + 1)).2.2.1 + 1)) (rec p.1 now (v + 1)).2.2.2
    else if movE p (rec p.1 now (v + 1)).2.1 ≠ 0 then (movE p (rec p.1 now (v + 1)).2.1, [], 0, (rec p.1 now (v + 1)).2.2.2)
    else if 256 < (out ++ movL p (rec p.1 now (v + 1)).2.1).length ∨ 4096 < tots (out ++ movL p (rec p.1 now (v + 1)).2.1) then (6, [], 0, (rec p.1 now (v + 1)).2.2.2)
    else goL rec pl now r (out ++ movL p (rec p.1 now (v + 1)).2.1) (max d ((rec p.1 now (v + 1)).2.2.1 + 1)) (rec p.1 now (v + 1)).2.2.2
def goP (SS : List Shp) (pl : Bool) : Nat → Int → List Int → Int → GR
  | 0, _, _, v => (8, [], 0, v)
  | n + 1, gl, inn, v => if (sh SS gl.toNat).2 = [] then (0, (sh SS gl.toNat).1, 0, v) else goL (goP SS pl n) pl (inn ++ [gl]) (sh SS gl.toNat).2 [] 0 v
theorem tot_mono (LL : List (List Pt)) : ∀ m k, k ≤ m → tot LL k ≤ tot LL m
  | 0, k, h => by rw [show k = 0 by omega]; exact Nat.le_refl _
  | m + 1, k, h => by
    by_cases e : k = m + 1
    · rw [e]; exact Nat.le_refl _
    · have := tot_mono LL m k (by omega)
      simp only [tot]
      omega
/-- How deep, and how often: within bounds. -/
theorem goL_deep (rec : Int → List Int → Int → GR) (pl : Bool) (now : List Int) (N : Int) (hN : 0 ≤ N) (hr : ∀ g i v, 0 ≤ (rec g i v).2.2.1 ∧ (rec g i v).2.2.1 ≤ N) :
    ∀ (r : List C.Prt) (out : List (List Pt)) (d v : Int), 0 ≤ d → d ≤ N + 1 → 0 ≤ (goL rec pl now r out d v).2.2.1 ∧ (goL rec pl now r out d v).2.2.1 ≤ N + 1
  | [], out, d, v, h1, h2 => ⟨h1, h2⟩
  | p :: r, out, d, v, h1, h2 => by
    have hh := hr p.1 now (v + 1)
    unfold goL
    by_cases c1 : p.1 ∈ now
    · rw [if_pos c1]; exact ⟨Int.le_refl _, by show (0 : Int) ≤ N + 1; omega⟩
    rw [if_neg c1]
    by_cases c2 : 8 < now.length
    · rw [if_pos c2]; exact ⟨Int.le_refl _, by show (0 : Int) ≤ N + 1; omega⟩
    rw [if_neg c2]
    by_cases c3 : 4096 < v + 1
    · rw [if_pos c3]; exact ⟨Int.le_refl _, by show (0 : Int) ≤ N + 1; omega⟩
    rw [if_neg c3]
    by_cases c4 : (rec p.1 now (v + 1)).1 ≠ 0
    · rw [if_pos c4]; exact ⟨Int.le_refl _, by show (0 : Int) ≤ N + 1; omega⟩
    rw [if_neg c4]
    by_cases c5 : pl = true
    · rw [if_pos c5]; exact goL_deep rec pl now N hN hr r _ _ _ (by omega) (by omega)
    rw [if_neg c5]
    by_cases c6 : movE p (rec p.1 now (v + 1)).2.1 ≠ 0
    · rw [if_pos c6]; exact ⟨Int.le_refl _, by show (0 : Int) ≤ N + 1; omega⟩
    rw [if_neg c6]
    by_cases c7 : 256 < (out ++ movL p (rec p.1 now (v + 1)).2.1).length ∨ 4096 < tots (out ++ movL p (rec p.1 now (v + 1)).2.1)
    · rw [if_pos c7]; exact ⟨Int.le_refl _, by show (0 : Int) ≤ N + 1; omega⟩
    rw [if_neg c7]
    exact goL_deep rec pl now N hN hr r _ _ _ (by omega) (by omega)
theorem goP_deep (SS : List Shp) (pl : Bool) : ∀ (n : Nat) (gl : Int) (inn : List Int) (v : Int), 0 ≤ (goP SS pl n gl inn v).2.2.1 ∧ (goP SS pl n gl inn v).2.2.1 ≤ (n : Int)
  | 0, _, _, _ => ⟨Int.le_refl _, Int.le_refl _⟩
  | n + 1, gl, inn, v => by
    unfold goP
    by_cases c : (sh SS gl.toNat).2 = []
    · rw [if_pos c]; exact ⟨Int.le_refl _, by show (0 : Int) ≤ ((n + 1 : Nat) : Int); omega⟩
    · rw [if_neg c]
      have := goL_deep (goP SS pl n) pl (inn ++ [gl]) (n : Int) (by omega) (fun g i v => goP_deep SS pl n g i v) (sh SS gl.toNat).2 [] 0 v (by omega) (by omega)
      omega
/-- An outline within the limits. -/
def OutOk (LL : List (List Pt)) : Prop := LL.length ≤ 256 ∧ ∀ i, i < LL.length → (ct LL i).length ≤ 4096
theorem OutOk.nil : OutOk [] := ⟨by simp, fun i hi => absurd hi (by simp)⟩
theorem tots_ok {LL : List (List Pt)} (h1 : LL.length ≤ 256) (h2 : tots LL ≤ 4096) : OutOk LL := ⟨h1, fun i hi => by
  have h := tot_mono LL LL.length (i + 1) hi
  have e : tot LL (i + 1) = tot LL i + (ct LL i).length := rfl
  unfold tots at h2
  omega⟩
theorem may_ok {LL : List (List Pt)} (h : MayG LL) : OutOk LL := ⟨h.1, fun i hi => by
  have := (h.2 i hi).1.2
  simp only [tot] at this
  omega⟩
/-- How often parts were gone to, and the outline: within bounds. -/
def Bnd (R : GR) : Prop := (0 ≤ R.2.2.2 ∧ R.2.2.2 ≤ 4097) ∧ (R.1 = 0 → R.2.2.2 ≤ 4096 ∧ OutOk R.2.1)
theorem Bnd.err {x v : Int} (hx : x ≠ 0) (h1 : 0 ≤ v) (h2 : v ≤ 4097) : Bnd (x, [], 0, v) := ⟨⟨h1, h2⟩, fun h => absurd h hx⟩
theorem goL_bnd (rec : Int → List Int → Int → GR) (pl : Bool) (now : List Int) (hr : ∀ g i v, 0 ≤ v → v ≤ 4096 → Bnd (rec g i v)) :
    ∀ (r : List C.Prt) (out : List (List Pt)) (d v : Int), 0 ≤ v → v ≤ 4096 → OutOk out → Bnd (goL rec pl now r out d v)
  | [], out, d, v, h1, h2, h3 => ⟨⟨h1, by show v ≤ 4097; omega⟩, fun _ => ⟨h2, h3⟩⟩
  | p :: r, out, d, v, h1, h2, h3 => by
    unfold goL
    by_cases c1 : p.1 ∈ now
    · rw [if_pos c1]; exact Bnd.err (by decide) h1 (by omega)
    rw [if_neg c1]
    by_cases c2 : 8 < now.length
    · rw [if_pos c2]; exact Bnd.err (by decide) h1 (by omega)
    rw [if_neg c2]
    by_cases c3 : 4096 < v + 1
    · rw [if_pos c3]; exact Bnd.err (by decide) (by omega) (by omega)
    rw [if_neg c3]
    obtain ⟨⟨b1, b2⟩, b3⟩ := hr p.1 now (v + 1) (by omega) (by omega)
    by_cases c4 : (rec p.1 now (v + 1)).1 ≠ 0
    · rw [if_pos c4]; exact Bnd.err c4 b1 b2
    rw [if_neg c4]
    obtain ⟨b4, b5⟩ := b3 (Classical.byContradiction c4)
    by_cases c5 : pl = true
    · rw [if_pos c5]; exact goL_bnd rec pl now hr r _ _ _ b1 b4 h3
    rw [if_neg c5]
    by_cases c6 : movE p (rec p.1 now (v + 1)).2.1 ≠ 0
    · rw [if_pos c6]; exact Bnd.err c6 b1 b2
    rw [if_neg c6]
    by_cases c7 : 256 < (out ++ movL p (rec p.1 now (v + 1)).2.1).length ∨ 4096 < tots (out ++ movL p (rec p.1 now (v + 1)).2.1)
    · rw [if_pos c7]; exact Bnd.err (by decide) b1 b2
    rw [if_neg c7]
    exact goL_bnd rec pl now hr r _ _ _ b1 b4 (tots_ok (Nat.not_lt.1 fun h => c7 (.inl h)) (Nat.not_lt.1 fun h => c7 (.inr h)))
theorem sh_may {SS : List Shp} (h : MayS SS) (i : Nat) : MayG (sh SS i).1 := by
  by_cases hi : i < SS.length
  · exact (h.2 i hi).2.1
  · have e : sh SS i = ([], []) := by unfold sh; rw [List.getD_eq_getElem?_getD, List.getElem?_eq_none (by omega)]; rfl
    rw [e]
    exact ⟨by simp, fun i hi => absurd hi (by simp)⟩
theorem goP_bnd {SS : List Shp} (hM : MayS SS) (pl : Bool) : ∀ (n : Nat) (gl : Int) (inn : List Int) (v : Int), 0 ≤ v → v ≤ 4096 → Bnd (goP SS pl n gl inn v)
  | 0, _, _, v, h1, h2 => Bnd.err (by decide) h1 (by omega)
  | n + 1, gl, inn, v, h1, h2 => by
    unfold goP
    by_cases c : (sh SS gl.toNat).2 = []
    · rw [if_pos c]; exact ⟨⟨h1, by show v ≤ 4097; omega⟩, fun _ => ⟨h2, may_ok (sh_may hM _)⟩⟩
    · rw [if_neg c]
      exact goL_bnd (goP SS pl n) pl (inn ++ [gl]) (fun g i v h1 h2 => goP_bnd hM pl n g i v h1 h2) _ [] 0 v h1 h2 OutOk.nil
end Go.Proofs.Ytlfnagfcggmeaaa
namespace Go.Proofs.Ytlfnagfcggmeaaa
open Go.RowKit

section
variable {gb : Nat} {w w' W : World}
/-- Contours, parts and shapes that lie elsewhere than in block gb. -/
structure CtlN (gb : Nat) (w : World) (A : Option Addr) (m : Nat) (LL : List (List Pt)) : Prop where
  len : LL.length = m
  get : ∀ i, i < m → ∃ ad B c, A = some ad ∧ (ad.block < w.heap.size ∧ ad.block ≠ gb) ∧ w.cell? (ad.add i) = some (.slice B (ct LL i).length c) ∧ Ptl w B (ct LL i).length (ct LL i) ∧ ∀ j, j < (ct LL i).length → ∀ bd, B = some bd → bd.block ≠ gb
structure PrlN (gb : Nat) (w : World) (A : Option Addr) (m : Nat) (L : List C.Prt) : Prop where
  len : L.length = m
  get : ∀ i, i < m → ∃ ad, A = some ad ∧ (ad.block < w.heap.size ∧ ad.block ≠ gb) ∧ ∀ j u, (C.prC (C.qp L i))[j]? = some u → w.cell? (ad.add (i * 7 + j)) = some u
structure ShlN (gb : Nat) (w : World) (A : Option Addr) (m : Nat) (SS : List Shp) : Prop where
  len : SS.length = m
  get : ∀ i, i < m → ∃ ad B c B' c', A = some ad ∧ (ad.block < w.heap.size ∧ ad.block ≠ gb) ∧ w.cell? (ad.add (i * 2)) = some (.slice B (sh SS i).1.length c) ∧ w.cell? (ad.add (i * 2 + 1)) = some (.slice B' (sh SS i).2.length c') ∧ CtlN gb w B (sh SS i).1.length (sh SS i).1 ∧ PrlN gb w B' (sh SS i).2.length (sh SS i).2
theorem CtlN.ctl {A : Option Addr} {m : Nat} {LL : List (List Pt)} (h : CtlN gb w A m LL) : Ctl w A m LL := ⟨h.len, fun i hi => by
  obtain ⟨ad, B, c, h1, h2, h3, h4, _⟩ := h.get i hi
  exact ⟨ad, B, c, h1, h2.1, h3, h4⟩⟩
theorem PrlN.prl {A : Option Addr} {m : Nat} {L : List C.Prt} (h : PrlN gb w A m L) : C.Prl w A m L := ⟨h.len, fun i hi => by
  obtain ⟨ad, h1, h2, h3⟩ := h.get i hi
  exact ⟨ad, h1, h2.1, h3⟩⟩
theorem onl_cell (ho : Onl gb w w') {a : Addr} (h1 : a.block < w.heap.size) (h2 : a.block ≠ gb) : w'.cell? a = w.cell? a := World.cell?_of_block (ho.block _ h1 h2)
theorem Ptl.onl_ {B : Option Addr} {n : Nat} {L : List Pt} (h : Ptl w B n L) (hn : ∀ j, j < n → ∀ bd, B = some bd → bd.block ≠ gb) (ho : Onl gb w w') : Ptl w' B n L := ⟨h.len, fun i hi => by
  obtain ⟨ad, h1, h2, h3, h4, h5⟩ := h.get i hi
  have h6 := hn i hi ad h1
  have hc : ∀ k, w'.cell? (ad.add k) = w.cell? (ad.add k) := fun k => onl_cell ho (by rw [block_of_add]; exact h2) (by rw [block_of_add]; exact h6)
  exact ⟨ad, h1, Nat.lt_of_lt_of_le h2 ho.size, by rw [hc]; exact h3, by rw [hc]; exact h4, by rw [hc]; exact h5⟩⟩
theorem CtlN.onl {A : Option Addr} {m : Nat} {LL : List (List Pt)} (h : CtlN gb w A m LL) (ho : Onl gb w w') : CtlN gb w' A m LL := ⟨h.len, fun i hi => by
  obtain ⟨ad, B, c, h1, ⟨h2, h2'⟩, h3, h4, h5⟩ := h.get i hi
  exact ⟨ad, B, c, h1, ⟨Nat.lt_of_lt_of_le h2 ho.size, h2'⟩, by rw [onl_cell ho (by rw [block_of_add]; exact h2) (by rw [block_of_add]; exact h2')]; exact h3, h4.onl_ h5 ho, h5⟩⟩
theorem PrlN.onl {A : Option Addr} {m : Nat} {L : List C.Prt} (h : PrlN gb w A m L) (ho : Onl gb w w') : PrlN gb w' A m L := ⟨h.len, fun i hi => by
  obtain ⟨ad, h1, ⟨h2, h2'⟩, h3⟩ := h.get i hi
  exact ⟨ad, h1, ⟨Nat.lt_of_lt_of_le h2 ho.size, h2'⟩, fun j u hu => by rw [onl_cell ho (by rw [block_of_add]; exact h2) (by rw [block_of_add]; exact h2')]; exact h3 j u hu⟩⟩
theorem ShlN.onl {A : Option Addr} {m : Nat} {SS : List Shp} (h : ShlN gb w A m SS) (ho : Onl gb w w') : ShlN gb w' A m SS := ⟨h.len, fun i hi => by
  obtain ⟨ad, B, c, B', c', h1, ⟨h2, h2'⟩, h3, h4, h5, h6⟩ := h.get i hi
  have hc : ∀ k, w'.cell? (ad.add k) = w.cell? (ad.add k) := fun k => onl_cell ho (by rw [block_of_add]; exact h2) (by rw [block_of_add]; exact h2')
  exact ⟨ad, B, c, B', c', h1, ⟨Nat.lt_of_lt_of_le h2 ho.size, h2'⟩, by rw [hc]; exact h3, by rw [hc]; exact h4, h5.onl ho, h6.onl ho⟩⟩
theorem CtlN.old {A : Option Addr} {m : Nat} {LL : List (List Pt)} (h : Ctl w A m LL) (hg : w.heap.size ≤ gb) : CtlN gb w A m LL := ⟨h.len, fun i hi => by
  obtain ⟨ad, B, c, h1, h2, h3, h4⟩ := h.get i hi
  exact ⟨ad, B, c, h1, ⟨h2, by omega⟩, h3, h4, fun j hj bd hb => by
    obtain ⟨bd', e1, e2, _⟩ := h4.get j hj
    rw [hb] at e1
    injection e1 with e1
    subst e1
    omega⟩⟩
theorem PrlN.old {A : Option Addr} {m : Nat} {L : List C.Prt} (h : C.Prl w A m L) (hg : w.heap.size ≤ gb) : PrlN gb w A m L := ⟨h.len, fun i hi => by
  obtain ⟨ad, h1, h2, h3⟩ := h.get i hi
  exact ⟨ad, h1, ⟨h2, by omega⟩, h3⟩⟩
theorem ShlN.old {A : Option Addr} {m : Nat} {SS : List Shp} (h : Shl w A m SS) (hg : w.heap.size ≤ gb) : ShlN gb w A m SS := ⟨h.len, fun i hi => by
  obtain ⟨ad, B, c, B', c', h1, h2, h3, h4, h5, h6⟩ := h.get i hi
  exact ⟨ad, B, c, B', c', h1, ⟨h2, by omega⟩, h3, h4, CtlN.old h5 hg, PrlN.old h6 hg⟩⟩
/-- The one who goes: the shapes, how often, and whether it is but plain. -/
def Gr (w : World) (gb : Nat) (A : Option Addr) (m c : Nat) (v : Int) (pl : Bool) : Prop := w.heap[gb]? = some (.cells #[.slice A m c, .int .i64 v, .bool pl] 61 (0, 0))
theorem Gr.lt {A : Option Addr} {m c : Nat} {v : Int} {pl : Bool} (h : Gr w gb A m c v pl) : gb < w.heap.size := heap_lt h
theorem Gr.cells {A : Option Addr} {m c : Nat} {v : Int} {pl : Bool} (h : Gr w gb A m c v pl) : w.cell? ⟨gb, 0, none⟩ = some (.slice A m c) ∧ w.cell? ⟨gb, 1, none⟩ = some (.int .i64 v) ∧ w.cell? ⟨gb, 2, none⟩ = some (.bool pl) :=
  ⟨cell_of_row w gb 0 _ 61 (0, 0) h, cell_of_row w gb 1 _ 61 (0, 0) h, cell_of_row w gb 2 _ 61 (0, 0) h⟩
theorem Gr.fr {A : Option Addr} {m c : Nat} {v : Int} {pl : Bool} (h : Gr w gb A m c v pl) (j : Nat) : w.frozen? ⟨gb, j, none⟩ = false := by
  unfold Gr at h
  simp [World.frozen?, h]
theorem Gr.bel {A : Option Addr} {m c : Nat} {v : Int} {pl : Bool} (h : Gr w gb A m c v pl) (hb : Below w.heap.size w w') : Gr w' gb A m c v pl := (hb.block gb h.lt).trans h
theorem Gr.set {A : Option Addr} {m c : Nat} {v : Int} {pl : Bool} (h : Gr w gb A m c v pl) (u : Int) : Gr (w.setCell ⟨gb, 1, none⟩ (.int .i64 u)) gb A m c u pl := by
  unfold Gr at h ⊢
  simp [World.setCell, Array.getElem?_modify, h]
theorem Gr.grown {A : Option Addr} {m c : Nat} {v : Int} {pl : Bool} {base e sz n : Nat} {u : Value} {xs : List Value} (h : Gr w gb A m c v pl) (ho : w.ownsRow base e sz u n xs) (he : 61 ≠ e) (hg : w.grownBy w' u.ownBlock) : Gr w' gb A m c v pl :=
  (hg.block gb h.lt (own_not ho h he)).trans h
theorem T39.ne {A : Option Addr} {m c : Nat} {v : Int} {pl : Bool} {B : Option Addr} (h : T39 w B) (k : Gr w gb A m c v pl) : ∀ bd, B = some bd → bd.block ≠ gb := fun bd hb e => by
  obtain ⟨cs, fr, h1⟩ := h bd hb
  rw [e, k] at h1
  injection h1 with h1
  injection h1 with _ h1 _
  exact absurd h1 (by decide)
theorem T39.onl {B : Option Addr} (h : T39 w B) (hn : ∀ bd, B = some bd → bd.block ≠ gb) (ho : Onl gb w w') : T39 w' B := fun ad e => by
  obtain ⟨c, fr, h1⟩ := h ad e
  exact ⟨c, fr, (ho.block _ (heap_lt h1) (hn ad e)).trans h1⟩
theorem Fo.onl {A : Option Addr} {m c : Nat} {v : Int} {pl : Bool} {k : Nat} {f : Nat → List Pt} {cs : List Value} (h : Fo w k f cs) (hg : Gr w gb A m c v pl) (ho : Onl gb w w') : Fo w' k f cs := ⟨h.len, fun i hi => by
  obtain ⟨B, c', h1, h2, h3⟩ := h.get i hi
  have hn := h3.ne hg
  exact ⟨B, c', h1, h2.onl_ (fun _ _ => hn) ho, h3.onl hn ho⟩⟩
/-- Rows of their own are a list of contours that lies elsewhere. -/
theorem CtlN.own {A : Option Addr} {m c : Nat} {v : Int} {pl : Bool} {B : Option Addr} {k kc base : Nat} {LL : List (List Pt)} {cs : List Value} (hr : w.ownsRow base 47 1 (.slice B k kc) k cs) (hf : Fo w k (ct LL) cs) (hl : LL.length = k) (hg : Gr w gb A m c v pl) : CtlN gb w B k LL := ⟨hl, fun i hi => by
  obtain ⟨g, e1, e2, e3⟩ := own_block hr (by omega)
  obtain ⟨ad, h1, h2, h3⟩ := own_cell hr (by omega)
  obtain ⟨B', c', h4, h5, h6⟩ := hf.get i hi
  refine ⟨ad, B', c', h1, ⟨h2, fun e => ?_⟩, h3 _ _ h4, h5, fun _ _ => h6.ne hg⟩
  rw [e1] at h1
  injection h1 with h1
  have : g ≠ gb := fun e' => own_not hr hg (by decide) (by rw [e1, ← e']; rfl)
  rw [← h1] at e
  exact this e⟩
end
/-- A row of cells, as a source: nothing at all, or cells somewhere. -/
def Src (w : World) (A : Option Addr) (m c : Nat) (news : List Value) : Prop := (A = none ∧ m = 0 ∧ c = 0 ∧ news = []) ∨ ∃ ad, A = some ad ∧ ∀ j u, news[j]? = some u → w.cell? (ad.add j) = some u
theorem own_src {w : World} {base e size n c : Nat} {A : Option Addr} {xs : List Value} (h : w.ownsRow base e size (.slice A n c) n xs) : Src w A n c xs := by
  rcases h.2 with ⟨h1, h2⟩ | ⟨g, cap, cur, h1, h3, h4, h5⟩
  · injection h1 with e1 e2 e3
    subst e1 e2 e3
    exact .inl ⟨rfl, rfl, rfl, by have := h.1; simpa using this⟩
  · injection h1 with e1 e2 e3
    subst e1 e3
    exact .inr ⟨_, rfl, fun j u hu => h.cells (by rfl) j u hu⟩
theorem Src.bel {w w' : World} {A : Option Addr} {m c : Nat} {news : List Value} (h : Src w A m c news) (hb : Below w.heap.size w w') : Src w' A m c news := by
  rcases h with h | ⟨ad, h1, h2⟩
  · exact .inl h
  · exact .inr ⟨ad, h1, fun j u hu => by
      have h3 := h2 j u hu
      exact (hb.cell (cell_lt h3)).trans h3⟩
theorem wpList_append_src {P : Program} (w : World) {ops : Array Oper} {rest : List Oper} {o : Oper} {a : Act} {Q : Exit → Act → World → Prop} (hgd : o.guard = none) (s x : Operand) (t : TypeId)
    (ho : o.op = .call { callee := .builtin .append, args := #[s, x], argTypes := #[t, t] })
    (base : Nat) (e : TypeId) (i : TypeInfo) (z : Value) (size bytes : Nat) (ht : P.underlying t = some (.slice e)) (hi : P.info? e = some i) (hz : i.zero = some z)
    (hsize : i.size = size) (hby : i.bytes = bytes) (hzs : z.cells.size = size) (hsz : 0 < size)
    (v : Value) (n : Nat) (xs : List Value) (hs : a.eval s = v) (hown : w.ownsRow base e size v n xs)
    (A : Option Addr) (m c : Nat) (news : List Value) (hx : a.eval x = .slice A m c) (hl : news.length = m * size) (hsrc : Src w A m c news) (h1 : ∀ u ∈ news, u.oneCell' = true)
    (h63 : n + m ≤ maxLen) (hbytes : (n + m) * bytes ≤ 140737488355328) (hbase : base ≤ w.heap.size)
    (h : ∀ v' w', w'.ownsRow base e size v' (n + m) (xs ++ news) → w.grownBy w' v.ownBlock → wpList P ops Q rest (a.put o.dst v') w') : wpList P ops Q (o :: rest) a w := by
  rcases hsrc with ⟨rfl, rfl, rfl, rfl⟩ | ⟨ad, rfl, hc⟩
  · refine wpList_plain hgd fun K hK => ?_
    have hr := run_append_owned_none (P := P) (w := w) base t o.type e i size ht hi v n xs hown
    unfold Oper.wp execOp
    simp only [ho, resolve, invoke, builtin, Sem.run_bind, Sem.run_pure, Result.andThen_ok, List.map_toArray, List.map_cons, List.map_nil, hs, hx, hr]
    exact hK _ _ (h v w (by rw [List.append_nil]; exact hown) ⟨rfl, rfl, rfl, Nat.le_refl _, fun _ _ _ => rfl⟩)
  · exact wpList_append_own w hgd s x t ho base e i z size bytes ht hi hz hsize hby hzs hsz v n xs hs hown ad m c news hx hl hc h1 h63 hbytes hbase fun v' w' h2 h3 _ => h v' w' h2 h3
end Go.Proofs.Ytlfnagfcggmeaaa
namespace Go.Proofs.Ytlfnagfcggmeaaa
open Go.RowKit

/-- While parts are gone to. -/
structure LpS (gb : Nat) (w W : World) (A : Option Addr) (m c : Nat) (v : Int) (pl : Bool) (bs : Nat) (B : Option Addr) (n1 c1 : Nat) (B' : Option Addr) (n2 c2 : Nat) (An : Option Addr) (kn cn : Nat) (now : List Int) (Ao : Option Addr) (ko co : Nat) (out : List (List Pt)) (cs : List Value) : Prop where
  on : Onl gb w W
  lg : gb < w.heap.size
  gr : Gr W gb A m c v pl
  bsx : Bs W bs B n1 c1 B' n2 c2
  bse : w.heap.size ≤ bs
  now : W.ownsRow w.heap.size 3 1 (.slice An kn cn) kn (ci .i64 now)
  own : W.ownsRow w.heap.size 47 1 (.slice Ao ko co) ko cs
  fo : Fo W ko (ct out) cs
  ol : out.length = ko
section
variable {gb : Nat} {w W W' : World} {A : Option Addr} {m c : Nat} {v : Int} {pl : Bool} {bs : Nat} {B : Option Addr} {n1 c1 : Nat} {B' : Option Addr} {n2 c2 : Nat} {An : Option Addr} {kn cn : Nat} {now : List Int} {Ao : Option Addr} {ko co : Nat} {out : List (List Pt)} {cs : List Value}
theorem LpS.onl (h : LpS gb w W A m c v pl bs B n1 c1 B' n2 c2 An kn cn now Ao ko co out cs) (ho : Onl gb W W') {v' : Int} (hg : Gr W' gb A m c v' pl) : LpS gb w W' A m c v' pl bs B n1 c1 B' n2 c2 An kn cn now Ao ko co out cs :=
  ⟨h.on.trans ho, h.lg, hg, (ho.block bs h.bsx.lt (by have := h.lg; have := h.bse; omega)).trans h.bsx, h.bse, own_onl h.now ho h.lg, own_onl h.own ho h.lg, h.fo.onl h.gr ho, h.ol⟩
theorem LpS.bel (h : LpS gb w W A m c v pl bs B n1 c1 B' n2 c2 An kn cn now Ao ko co out cs) (hb : Below W.heap.size W W') : LpS gb w W' A m c v pl bs B n1 c1 B' n2 c2 An kn cn now Ao ko co out cs := h.onl (Onl.of hb) (h.gr.bel hb)
theorem LpS.visit (h : LpS gb w W A m c v pl bs B n1 c1 B' n2 c2 An kn cn now Ao ko co out cs) (u : Int) : LpS gb w (W.setCell ⟨gb, 1, none⟩ (.int .i64 u)) A m c u pl bs B n1 c1 B' n2 c2 An kn cn now Ao ko co out cs := h.onl (Onl.set gb W 1 _) (h.gr.set u)
theorem LpS.put (h : LpS gb w W A m c v pl bs B n1 c1 B' n2 c2 An kn cn now Ao ko co out cs) (hb : Below W.heap.size W W') {A7 : Option Addr} {k7 c7 : Nat} {L : List (List Pt)} {cs7 : List Value} (ho : W'.ownsRow W.heap.size 47 1 (.slice A7 k7 c7) k7 cs7) (hf : Fo W' k7 (ct L) cs7) (hl : L.length = k7) :
    LpS gb w W' A m c v pl bs B n1 c1 B' n2 c2 An kn cn now A7 k7 c7 L cs7 :=
  have h2 := h.bel hb
  ⟨h2.on, h2.lg, h2.gr, h2.bsx, h2.bse, h2.now, own_base ho h.on.size, hf, hl⟩
end
theorem ct_app (L M : List (List Pt)) (i : Nat) : ct (L ++ M) i = if i < L.length then ct L i else ct M (i - L.length) := by
  unfold ct
  rw [List.getD_eq_getElem?_getD, List.getD_eq_getElem?_getD, List.getD_eq_getElem?_getD]
  split
  · rename_i h; rw [List.getElem?_append_left h]
  · rename_i h; rw [List.getElem?_append_right (by omega)]
theorem Fo.app {W : World} {k k2 : Nat} {L M : List (List Pt)} {cs cs2 : List Value} (f : Fo W k (ct L) cs) (hl : L.length = k) (f2 : Fo W k2 (ct M) cs2) : Fo W (k + k2) (ct (L ++ M)) (cs ++ cs2) :=
  ⟨by rw [List.length_append, f.len, f2.len], fun i hi => by
    rw [ct_app]
    by_cases h : i < L.length
    · rw [if_pos h]
      obtain ⟨B, c, h1, h2⟩ := f.get i (by omega)
      exact ⟨B, c, by rw [List.getElem?_append_left (by rw [f.len]; omega)]; exact h1, h2⟩
    · rw [if_neg h]
      obtain ⟨B, c, h1, h2⟩ := f2.get (i - L.length) (by omega)
      exact ⟨B, c, by rw [List.getElem?_append_right (by rw [f.len]; omega), f.len, ← hl]; exact h1, h2⟩⟩
theorem Fo.one {W : World} {k : Nat} {f : Nat → List Pt} {cs : List Value} (h : Fo W k f cs) : ∀ u ∈ cs, u.oneCell' = true := by
  intro u hu
  obtain ⟨i, hi, rfl⟩ := List.getElem_of_mem hu
  obtain ⟨B, c, h1, _⟩ := h.get i (by rw [← h.len]; exact hi)
  rw [List.getElem?_eq_getElem hi] at h1
  injection h1 with h1
  rw [h1]
  rfl
theorem ci_one (K : IntKind) (xs : List Int) : ∀ u ∈ ci K xs, u.oneCell' = true := by
  intro u hu
  simp [ci] at hu
  obtain ⟨x, _, rfl⟩ := hu
  rfl
theorem mem_co {x : Int} {xs : List Int} : x ∈ xs ↔ ∃ i, i < xs.length ∧ co xs i = x := by
  refine ⟨fun h => ?_, fun ⟨i, hi, h⟩ => ?_⟩
  · obtain ⟨i, hi, rfl⟩ := List.getElem_of_mem h
    exact ⟨i, hi, by simp [co, hi]⟩
  · rw [← h]
    simp [co, hi]
theorem movL_len (p : C.Prt) (LL : List (List Pt)) : (movL p LL).length ≤ LL.length ∧ ∀ i, (ct (movL p LL) i).length ≤ (ct LL i).length := by
  unfold movL
  split
  · refine ⟨by simp, fun i => ?_⟩
    unfold ct
    rw [List.getD_eq_getElem?_getD, List.getD_eq_getElem?_getD, List.getElem?_map]
    cases LL[i]? <;> simp
  · exact ⟨by simp, fun i => by simp [ct]⟩
/-- What a part's outline adds, within the limits of the calls. -/
theorem app_ok {L M : List (List Pt)} (h1 : OutOk L) (h2 : OutOk M) (p : C.Prt) : (L ++ movL p M).length ≤ 512 ∧ ∀ i, i < (L ++ movL p M).length → (ct (L ++ movL p M) i).length ≤ 4096 := by
  obtain ⟨a1, a2⟩ := movL_len p M
  refine ⟨by rw [List.length_append]; have := h1.1; have := h2.1; omega, fun i hi => ?_⟩
  rw [List.length_append] at hi
  rw [ct_app]
  split
  · exact h1.2 i (by assumption)
  · exact Nat.le_trans (a2 _) (h2.2 _ (by omega))
/-- What Go answers. -/
def GoP (R : GR) (gb : Nat) (A : Option Addr) (m c : Nat) (pl : Bool) (w : World) (e : Ending) (w' : World) : Prop :=
  ∃ A' k c', e = .returned (.tuple #[.slice A' k c', .int .i64 R.2.2.1, .int .i64 R.1]) ∧ Onl gb w w' ∧ Gr w' gb A m c R.2.2.2 pl ∧ CtlN gb w' A' k R.2.1
theorem goP_err {R : GR} {gb : Nat} {A : Option Addr} {m c : Nat} {pl : Bool} {w w' : World} {x v : Int} (h : R = (x, [], 0, v)) (ho : Onl gb w w') (hg : Gr w' gb A m c v pl) : GoP R gb A m c pl w (.returned (.tuple #[.slice none 0 0, .int .i64 0, .int .i64 x])) w' := by
  subst h
  exact ⟨none, 0, 0, rfl, ho, hg, ⟨rfl, fun i hi => by omega⟩⟩
theorem goP_leaf {SS : List Shp} {pl : Bool} {n : Nat} {i : Nat} {inn : List Int} {v : Int} (h : (sh SS i).2 = []) : goP SS pl (n + 1) (i : Int) inn v = (0, (sh SS i).1, 0, v) := by
  unfold goP
  rw [Int.toNat_natCast, if_pos h]
theorem goP_parts {SS : List Shp} {pl : Bool} {n : Nat} {i : Nat} {inn : List Int} {v : Int} (h : (sh SS i).2 ≠ []) : goP SS pl (n + 1) (i : Int) inn v = goL (goP SS pl n) pl (inn ++ [(i : Int)]) (sh SS i).2 [] 0 v := by
  conv => lhs; unfold goP
  rw [Int.toNat_natCast, if_neg h]
theorem ShlN.shl {gb : Nat} {w : World} {A : Option Addr} {m : Nat} {SS : List Shp} (h : ShlN gb w A m SS) : Shl w A m SS := ⟨h.len, fun i hi => by
  obtain ⟨ad, B, c, B', c', h1, h2, h3, h4, h5, h6⟩ := h.get i hi
  exact ⟨ad, B, c, B', c', h1, h2.1, h3, h4, h5.ctl, h6.prl⟩⟩
/-- Shape i's cells, as the walk asks for them. -/
theorem ShlN.at_ {gb : Nat} {w : World} {A : Option Addr} {m : Nat} {SS : List Shp} (h : ShlN gb w A m SS) {i : Nat} (hi : i < m) :
    ∃ ad B c B' c', A = some ad ∧ w.cell? (ad.add (i * 2)) = some (.slice B (sh SS i).1.length c) ∧ w.cell? { block := (ad.add (i * 2)).block, off := (ad.add (i * 2)).off + 1 } = some (.slice B' (sh SS i).2.length c') ∧ CtlN gb w B (sh SS i).1.length (sh SS i).1 ∧ PrlN gb w B' (sh SS i).2.length (sh SS i).2 := by
  obtain ⟨ad, B, c, B', c', h1, h2, h3, h4, h5, h6⟩ := h.get i hi
  exact ⟨ad, B, c, B', c', h1, h3, by rw [add_next]; exact h4, h5, h6⟩
end Go.Proofs.Ytlfnagfcggmeaaa
