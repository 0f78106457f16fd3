/- Proved here: what the document's Parse of shapes answers (plain), and what stands in memory meanwhile. No condition. · what the document's Parse of shapes answers. Condition: a text of at most a billion bytes; at most 100000 places. -/
import Derived.Test.YtlfnagfcggmeaaaFC
import Derived.BigQuiet
namespace Go.Proofs.Ytlfnagfcggmeaaa
open Go.RowKit

/-- The bytes from a place up to the next one. -/
def seg (l : List UInt8) (ps : List Int) (i : Nat) : List UInt8 := piece l (co ps i).toNat (co ps (i + 1) - co ps i).toNat
/-- One shape. -/
def one (d : List UInt8) (G : Int) : Int × Shp := if C.isN d then ((C.PA d G).1, ([], (C.PA d G).2)) else ((prs d).1, ((prs d).2, []))
def pfL (l : List UInt8) (ps : List Int) (G : Int) : Nat → Nat → List Shp → Int × List Shp
  | 0, _, acc => (0, acc)
  | n + 1, i, acc => if (one (seg l ps i) G).1 ≠ 0 then ((one (seg l ps i) G).1, []) else pfL l ps G n (i + 1) (acc ++ [(one (seg l ps i) G).2])
def pv (ps : List Int) : Nat → Int
  | 0 => 0
  | i + 1 => co ps i
def okPl (l : List UInt8) (ps : List Int) : Prop := (2 ≤ ps.length ∧ ps.length ≤ 1025) ∧ ∀ i, i < ps.length → pv ps i ≤ co ps i ∧ co ps i ≤ (l.length : Int)
instance (l : List UInt8) (ps : List Int) : Decidable (okPl l ps) := inferInstanceAs (Decidable ((2 ≤ ps.length ∧ ps.length ≤ 1025) ∧ ∀ i, i < ps.length → pv ps i ≤ co ps i ∧ co ps i ≤ (l.length : Int)))
/-- What Parse answers. -/
def PF (l : List UInt8) (ps : List Int) : Int × List Shp := if okPl l ps then pfL l ps ((ps.length : Int) - 1) (ps.length - 1) 0 [] else (1, [])

/-- Blocks that hold no shapes are as they were. -/
structure K26 (W W' : World) : Prop where
  size : W.heap.size ≤ W'.heap.size
  keep : ∀ (g : Nat) (cs : Array Value) (T : TypeId) (fr : Nat × Nat), W.heap[g]? = some (.cells cs T fr) → T ≠ 50 → W'.heap[g]? = some (.cells cs T fr)
theorem K26.bel {W W' : World} (hb : Below W.heap.size W W') : K26 W W' := ⟨hb.size, fun g _cs _T _fr h _ => (hb.block g (heap_lt h)).trans h⟩
theorem K26.grown {W W' : World} {base sz n : Nat} {v : Value} {xs : List Value} (ho : W.ownsRow base 50 sz v n xs) (hg : W.grownBy W' v.ownBlock) : K26 W W' :=
  ⟨hg.size, fun g _cs _T _fr h hT => (hg.block g (heap_lt h) (own_not ho h hT)).trans h⟩
theorem K26.onl {W W' : World} {b : Nat} {cs : Array Value} {fr : Nat × Nat} (hb : W.heap[b]? = some (.cells cs 50 fr)) (ho : Onl b W W') : K26 W W' :=
  ⟨ho.size, fun g cs' T fr' h hT => (ho.block g (heap_lt h) (fun e => by
    subst e
    rw [hb] at h
    injection h with h
    injection h with _ h _
    exact hT h.symm)).trans h⟩
section
variable {W W' : World}
theorem K26.own (k : K26 W W') {base e sz n : Nat} {v : Value} {xs : List Value} (h : W.ownsRow base e sz v n xs) (he : e ≠ 50) : W'.ownsRow base e sz v n xs := by
  refine ⟨h.1, ?_⟩
  rcases h.2 with h1 | ⟨g, cap, cur, h1, h3, h4, h5⟩
  · exact .inl h1
  · exact .inr ⟨g, cap, cur, h1, h3, k.keep _ _ _ _ h4 he, h5⟩
theorem K26.t39 (k : K26 W W') {B : Option Addr} (h : T39 W B) : T39 W' B := fun ad e => by
  obtain ⟨c, fr, h1⟩ := h ad e
  exact ⟨c, fr, k.keep _ _ _ _ h1 (by decide)⟩
theorem K26.ptl (k : K26 W W') {B : Option Addr} {m : Nat} {P : List Pt} (h : Ptl W B m P) (ht : T39 W B) : Ptl W' B m P :=
  ⟨h.len, fun i hi => by
    obtain ⟨ad, h1, h2, h3, h4, h5⟩ := h.get i hi
    obtain ⟨c, fr, h6⟩ := ht ad h1
    have hb : ∀ j, W'.cell? (ad.add j) = W.cell? (ad.add j) := fun j => World.cell?_of_block (by rw [block_of_add]; exact (k.keep _ _ _ _ h6 (by decide)).trans h6.symm)
    exact ⟨ad, h1, Nat.lt_of_lt_of_le h2 k.size, by rw [hb]; exact h3, by rw [hb]; exact h4, by rw [hb]; exact h5⟩⟩
theorem K26.fo (k : K26 W W') {n : Nat} {C : Nat → List Pt} {cs : List Value} (f : Fo W n C cs) : Fo W' n C cs := ⟨f.len, fun i hi => by
  obtain ⟨B, c, h1, h2, h3⟩ := f.get i hi
  exact ⟨B, c, h1, k.ptl h2 h3, k.t39 h3⟩⟩
theorem K26.cto (k : K26 W W') {A : Option Addr} {n c : Nat} {LL : List (List Pt)} (h : CtO W A n c LL) : CtO W' A n c LL := by
  obtain ⟨hl, base, cs, ho, hf⟩ := h
  exact ⟨hl, base, cs, k.own ho (by decide), k.fo hf⟩
theorem K26.pro (k : K26 W W') {A : Option Addr} {n c : Nat} {L : List C.Prt} (h : C.PrO W A n c L) : C.PrO W' A n c L := by
  obtain ⟨hl, base, ho⟩ := h
  exact ⟨hl, base, k.own ho (by decide)⟩
end
/-- Shapes, as cells. -/
structure SlC (W : World) (cs : List Value) (k : Nat) (SS : List Shp) : Prop where
  len : SS.length = k
  lc : cs.length = k * 2
  get : ∀ i, i < k → ∃ B c B' c', cs[i * 2]? = some (.slice B (sh SS i).1.length c) ∧ cs[i * 2 + 1]? = some (.slice B' (sh SS i).2.length c') ∧ CtO W B (sh SS i).1.length c (sh SS i).1 ∧ C.PrO W B' (sh SS i).2.length c' (sh SS i).2
theorem SlC.keep {W W' : World} {cs : List Value} {k : Nat} {SS : List Shp} (h : SlC W cs k SS) (kk : K26 W W') : SlC W' cs k SS := ⟨h.len, h.lc, fun i hi => by
  obtain ⟨B, c, B', c', h1, h2, h3, h4⟩ := h.get i hi
  exact ⟨B, c, B', c', h1, h2, kk.cto h3, kk.pro h4⟩⟩
theorem SlC.snoc {W : World} {cs : List Value} {k : Nat} {SS : List Shp} (h : SlC W cs k SS) {B B' : Option Addr} {n c n' c' : Nat} {CC : List (List Pt)} {PP : List C.Prt} (hC : CtO W B n c CC) (hP : C.PrO W B' n' c' PP) :
    SlC W (cs ++ [.slice B n c, .slice B' n' c']) (k + 1) (SS ++ [(CC, PP)]) := by
  have hl := h.len
  refine ⟨by simp [hl], by rw [List.length_append, h.lc]; simp; omega, fun i hi => ?_⟩
  rcases Nat.lt_or_ge i k with h1 | h1
  · obtain ⟨B1, c1, B1', c1', e1, e2, e3, e4⟩ := h.get i h1
    have es : sh (SS ++ [(CC, PP)]) i = sh SS i := by unfold sh; rw [List.getD_eq_getElem?_getD, List.getD_eq_getElem?_getD, List.getElem?_append_left (by omega)]
    rw [es]
    exact ⟨B1, c1, B1', c1', by rw [List.getElem?_append_left (by rw [h.lc]; omega)]; exact e1, by rw [List.getElem?_append_left (by rw [h.lc]; omega)]; exact e2, e3, e4⟩
  · have : i = k := by omega
    subst this
    have es : sh (SS ++ [(CC, PP)]) i = (CC, PP) := by unfold sh; rw [List.getD_eq_getElem?_getD, List.getElem?_append_right (by omega), hl, Nat.sub_self]; rfl
    rw [es]
    have hn := hC.1
    have hn' := hP.1
    subst hn hn'
    exact ⟨B, c, B', c', by rw [List.getElem?_append_right (by rw [h.lc]; omega), h.lc, Nat.sub_self]; rfl, by rw [List.getElem?_append_right (by rw [h.lc]; omega), h.lc, show i * 2 + 1 - i * 2 = 1 by omega]; rfl, hC, hP⟩
theorem SlC.one {W : World} {cs : List Value} {k : Nat} {SS : List Shp} (h : SlC W cs k SS) : ∀ u ∈ cs, u.oneCell' = true := by
  intro u hu
  obtain ⟨j, hj, rfl⟩ := List.getElem_of_mem hu
  have hlc := h.lc
  obtain ⟨B, c, B', c', h1, h2, _⟩ := h.get (j / 2) (by omega)
  rcases Nat.mod_two_eq_zero_or_one j with e | e
  · rw [show j / 2 * 2 = j by omega, List.getElem?_eq_getElem hj] at h1
    injection h1 with h1
    rw [h1]; rfl
  · rw [show j / 2 * 2 + 1 = j by omega, List.getElem?_eq_getElem hj] at h2
    injection h2 with h2
    rw [h2]; rfl
/-- While shapes are parsed. -/
structure PlS (w W : World) (v : Value) (k : Nat) (SS : List Shp) (cs : List Value) : Prop where
  bel : Below w.heap.size w W
  own : W.ownsRow w.heap.size 50 2 v k cs
  sl : SlC W cs k SS
section
variable {w W W' : World} {v : Value} {k : Nat} {SS : List Shp} {cs : List Value}
theorem PlS.start (w : World) : PlS w w (.slice none 0 0) 0 [] [] := ⟨Below.refl _ _, World.ownsRow_nil _ _ _ _, ⟨rfl, rfl, fun i hi => by omega⟩⟩
theorem PlS.next (h : PlS w W v k SS cs) (hb : Below W.heap.size W W') : PlS w W' v k SS cs := ⟨h.bel.trans (hb.mono h.bel.size), own_bel h.own hb, h.sl.keep (K26.bel hb)⟩
theorem PlS.push (h : PlS w W v k SS cs) {v' : Value} {B B' : Option Addr} {n c n' c' : Nat} {CC : List (List Pt)} {PP : List C.Prt} (hC : CtO W B n c CC) (hP : C.PrO W B' n' c' PP) (ho : W'.ownsRow w.heap.size 50 2 v' (k + 1) (cs ++ [.slice B n c, .slice B' n' c'])) (hg : W.grownBy W' v.ownBlock) :
    PlS w W' v' (k + 1) (SS ++ [(CC, PP)]) (cs ++ [.slice B n c, .slice B' n' c']) :=
  have kk := K26.grown h.own hg
  ⟨below_grown h.bel h.own hg, ho, (h.sl.keep kk).snoc (kk.cto hC) (kk.pro hP)⟩
theorem PlS.shl {A : Option Addr} {c : Nat} (h : PlS w W (.slice A k c) k SS cs) : Shl W A k SS := ⟨h.sl.len, fun i hi => by
  obtain ⟨ad, h1, h2, h3⟩ := own_cell h.own (by omega)
  obtain ⟨B, c, B', c', e1, e2, e3, e4⟩ := h.sl.get i hi
  exact ⟨ad, B, c, B', c', h1, h2, h3 _ _ e1, h3 _ _ e2, e3.ctl, e4.prl⟩⟩
end
/-- What Parse answers. -/
def PlP (R : Int × List Shp) (w : World) (e : Ending) (w' : World) : Prop := ∃ A k c, e = .returned (.tuple #[.slice A k c, .int .i64 R.1]) ∧ Shl w' A k R.2 ∧ Below w.heap.size w w'
theorem plP_err {R : Int × List Shp} {w w' : World} {x : Int} (h : R = (x, [])) (hb : Below w.heap.size w w') : PlP R w (.returned (.tuple #[.slice none 0 0, .int .i64 x])) w' := by
  subst h
  exact ⟨none, 0, 0, rfl, ⟨rfl, fun i hi => by omega⟩, hb⟩
/-- A shape in a box, stored into. -/
theorem Bs.fr {w : World} {b : Nat} {B B' : Option Addr} {n c n' c' : Nat} (h : Bs w b B n c B' n' c') (j : Nat) : w.frozen? ⟨b, j, none⟩ = false := by
  unfold Bs at h
  simp [World.frozen?, h]
theorem Bs.set0 {w : World} {b : Nat} {B B' : Option Addr} {n c n' c' : Nat} (h : Bs w b B n c B' n' c') (A : Option Addr) (k d : Nat) : Bs (w.setCell ⟨b, 0, none⟩ (.slice A k d)) b A k d B' n' c' := by
  unfold Bs at h ⊢
  simp [World.setCell, Array.getElem?_modify, h]
theorem Bs.set1 {w : World} {b : Nat} {B B' : Option Addr} {n c n' c' : Nat} (h : Bs w b B n c B' n' c') (A : Option Addr) (k d : Nat) : Bs (w.setCell ⟨b, 1, none⟩ (.slice A k d)) b B n c A k d := by
  unfold Bs at h ⊢
  simp [World.setCell, Array.getElem?_modify, h]
end Go.Proofs.Ytlfnagfcggmeaaa
namespace Go.Proofs.Ytlfnagfcggmeaaa
open Go.RowKit

theorem Try.info26z : (Try.prog.info? 50).map (fun i => (i.zero, i.size, i.bytes)) = some (some (.agg #[.slice none 0 0, .slice none 0 0]), 2, 48) := by kernel_rfl
section
variable {w w0 w2 : World} {v : Value} {k : Nat} {SS : List Shp} {cs : List Value}
theorem PlS.set1 (hS : PlS w w0 v k SS cs) (hb : Below (w0.alloc (.cells #[.slice none 0 0, .slice none 0 0] 50)).heap.size (w0.alloc (.cells #[.slice none 0 0, .slice none 0 0] 50)) w2) {A : Option Addr} {n c : Nat} {L : List C.Prt} (hp : C.PrO w2 A n c L) :
    PlS w (w2.setCell ⟨w0.heap.size, 1, none⟩ (.slice A n c)) v k SS cs ∧ Bs (w2.setCell ⟨w0.heap.size, 1, none⟩ (.slice A n c)) w0.heap.size none 0 0 A n c ∧ C.PrO (w2.setCell ⟨w0.heap.size, 1, none⟩ (.slice A n c)) A n c L := by
  have hx := (Bs.new w0 none 0 0 none 0 0).bel hb
  have ho := Onl.set w0.heap.size w2 1 (.slice A n c)
  have h1 : Below w0.heap.size w0 w2 := ((Below.refl _ _).alloc (Nat.le_refl _) _).trans (hb.mono (by simp))
  exact ⟨hS.next (h1.trans (ho.below (Nat.le_refl _) h1.size)), hx.set1 _ _ _, (K26.onl hx ho).pro hp⟩
theorem PlS.set0 (hS : PlS w w0 v k SS cs) (hb : Below (w0.alloc (.cells #[.slice none 0 0, .slice none 0 0] 50)).heap.size (w0.alloc (.cells #[.slice none 0 0, .slice none 0 0] 50)) w2) {A : Option Addr} {n c : Nat} {L : List (List Pt)} (hp : CtO w2 A n c L) :
    PlS w (w2.setCell ⟨w0.heap.size, 0, none⟩ (.slice A n c)) v k SS cs ∧ Bs (w2.setCell ⟨w0.heap.size, 0, none⟩ (.slice A n c)) w0.heap.size A n c none 0 0 ∧ CtO (w2.setCell ⟨w0.heap.size, 0, none⟩ (.slice A n c)) A n c L := by
  have hx := (Bs.new w0 none 0 0 none 0 0).bel hb
  have ho := Onl.set w0.heap.size w2 0 (.slice A n c)
  have h1 : Below w0.heap.size w0 w2 := ((Below.refl _ _).alloc (Nat.le_refl _) _).trans (hb.mono (by simp))
  exact ⟨hS.next (h1.trans (ho.below (Nat.le_refl _) h1.size)), hx.set0 _ _ _, (K26.onl hx ho).cto hp⟩
end
set_option maxHeartbeats 8000000 in
set_option maxRecDepth 100000 in
theorem sparse_any (s : ByteArray) (A : Option Addr) (m c : Nat) (ps : List Int) (w : World) (hs : s.size ≤ 1000000000) (hP : Il .i64 w A m ps) (hm : m ≤ 100000) :
    Calls Try.prog 16 #[.string s, .slice A m c] w (PlP (PF s.data.toList ps) w) := by
  have hlen := hP.len
  have HE := Lib.hid (show ∀ x w', PF s.data.toList ps = (x, []) → Below w.heap.size w w' → PlP (PF s.data.toList ps) w (.returned (.tuple #[.slice none 0 0, .int .i64 x])) w' from fun x w' h1 h2 => plP_err h1 h2)
  by_cases h0 : m < 2
  · have HX := Lib.hid (HE.out 1 w (by unfold PF; rw [if_neg (fun h => by have := h.1.1; omega)]) (Below.refl _ _))
    clear hlen hP HE
    go_enter Try.func16, Try.ntmps16
    go_wp2_with fail
    go_ret2
    exact HX.out
  by_cases h1 : 1025 < m
  · have HX := Lib.hid (HE.out 1 w (by unfold PF; rw [if_neg (fun h => by have := h.1.2; omega)]) (Below.refl _ _))
    clear hlen hP HE
    go_enter Try.func16, Try.ntmps16
    go_wp2_with fail
    go_ret2
    exact HX.out
  have hsz := size_list s
  have HNo := Lib.hid (show ∀ k, k < m → ¬ (pv ps k ≤ co ps k ∧ co ps k ≤ (s.size : Int)) → PF s.data.toList ps = (1, []) from fun k hk h => by unfold PF; rw [if_neg (fun h2 => h (by rw [← hsz]; exact h2.2 k (by omega)))])
  have HYes := Lib.hid (show (∀ k, k < m → pv ps k ≤ co ps k ∧ co ps k ≤ (s.size : Int)) → PF s.data.toList ps = pfL s.data.toList ps ((m : Int) - 1) (m - 1) 0 [] from fun h => by unfold PF; rw [if_pos ⟨by omega, fun i hi => by rw [hsz]; exact h i (by omega)⟩, hlen])
  have HI := Lib.hid hP
  have HS := Lib.hid hs
  have hN9 := hs
  obtain ⟨i26, h26a, h26b, h26c, h26d⟩ := info_parts Try.info26z
  have H26 := Lib.hid (And.intro h26a (And.intro h26b (And.intro h26c h26d)))
  clear hlen hP hs hsz h26a h26b h26c h26d
  go_enter Try.func16, Try.ntmps16
  go_wp2_with fail
  go_loopw [6, 7] (fun p i wr => ∃ k : Nat, i = .int .i64 (k : Int) ∧ k ≤ m ∧ p = .int .i64 (pv ps k) ∧ 0 ≤ pv ps k ∧ (∀ j, j < k → pv ps j ≤ co ps j ∧ co ps j ≤ (s.size : Int)) ∧ w = wr) (fun _ i _ => m - (intOf i).toNat)
  case atStart => exact ⟨0, rfl, Nat.zero_le _, rfl, Int.le_refl _, fun j hj => by omega, rfl⟩
  case round =>
    obtain ⟨k, rfl, hk, rfl, hp0, hok, rfl⟩ := hrel
    by_cases hgo : k < m
    · obtain ⟨ad, rfl, hc⟩ := HI.out.at_ (Below.refl _ _) hgo
      have HNk := Lib.hid (HNo.out k hgo)
      have HSk := Lib.hid (show _ → ∀ j, j < k + 1 → pv ps j ≤ co ps j ∧ co ps j ≤ (s.size : Int) from all_succ hok)
      have HPv := Lib.hid (show pv ps (k + 1) = co ps k from rfl)
      obtain ⟨x, hx⟩ : ∃ x, x = co ps k := ⟨_, rfl⟩
      obtain ⟨p, hp⟩ : ∃ x, x = pv ps k := ⟨_, rfl⟩
      rw [← hx] at hc HPv
      rw [← hx, ← hp] at HNk HSk
      rw [← hp] at hp0 ⊢
      clear hx hp hok
      by_cases c1 : x < p
      · have HX := Lib.hid (HE.out 1 w (HNk.out (by omega)) (Below.refl _ _))
        go_wp2_with fail
        go_ret2
        exact HX.out
      · by_cases c2 : (s.size : Int) < x
        · have HX := Lib.hid (HE.out 1 w (HNk.out (by omega)) (Below.refl _ _))
          go_wp2_with fail
          go_ret2
          exact HX.out
        · have HX := Lib.hid (HSk.out (by omega))
          go_wp2_with fail
          exact ⟨⟨k + 1, by simp, by omega, by rw [HPv.out], by rw [HPv.out]; omega, HX.out, by trivial⟩, by simp [intOf]; omega⟩
    · obtain rfl : m = k := by omega
      have HR := Lib.hid (HYes.out hok)
      have HOk := Lib.hid hok
      clear hok hp0
      have HR2 := Lib.hid (show pfL s.data.toList ps ((m : Int) - 1) (m - 1 - 0) 0 [] = PF s.data.toList ps from HR.out.symm)
      have HFin := Lib.hid (show ∀ SS A k c W, PF s.data.toList ps = (0, SS) → Shl W A k SS → Below w.heap.size w W → PlP (PF s.data.toList ps) w (.returned (.tuple #[.slice A k c, .int .i64 0])) W from fun SS A k c W h1 h2 h3 => by
        rw [h1]
        exact ⟨A, k, c, rfl, h2, h3⟩)
      clear HNo HYes HR
      go_wp2_with fail
      go_loopw [8, 9] (fun v i wr => ∃ (k t : Nat) (A' : Option Addr) (c' : Nat) (SS : List Shp) (cs : List Value), t = k + 1 ∧ i = .int .i64 (t : Int) ∧ t ≤ m ∧ v = .slice A' k c' ∧ pfL s.data.toList ps ((m : Int) - 1) (m - 1 - k) k SS = PF s.data.toList ps ∧ PlS w wr (.slice A' k c') k SS cs) (fun _ i _ => m - (intOf i).toNat)
      case atStart => exact ⟨0, 1, none, 0, [], [], rfl, rfl, by omega, rfl, HR2.out, PlS.start w⟩
      case round =>
        obtain ⟨k, t, A', c', SS, cs, ht, rfl, htm, rfl, hpf, hS⟩ := hrel
        have HS2 := Lib.hid hS
        by_cases hgo : t < m
        · obtain ⟨ad, hA, hc⟩ := HI.out.at_ hS.bel (show k < m by omega)
          subst hA
          have hd : wr.cell? (ad.add t) = some (.int .i64 (co ps t)) := by
            obtain ⟨ad2, e1, e2⟩ := HI.out.at_ hS.bel hgo
            injection e1 with e1
            rw [e1]
            exact e2
          have ho1 := HOk.out k (by omega)
          have ho2 := HOk.out t (by omega)
          obtain ⟨x, hx⟩ : ∃ x, x = co ps k := ⟨_, rfl⟩
          obtain ⟨y, hy⟩ : ∃ y, y = co ps t := ⟨_, rfl⟩
          have hx0 : 0 ≤ x := by
            rw [hx]
            have : ∀ j, j < m → 0 ≤ co ps j := fun j => by
              induction j with
              | zero => intro hj; have := (HOk.out 0 hj).1; exact this
              | succ j ih => intro hj; have h1 := (HOk.out (j + 1) hj).1; have h2 := ih (by omega); show 0 ≤ co ps (j + 1); exact Int.le_trans h2 h1
            exact this k (by omega)
          have hxy : x ≤ y := by rw [hx, hy]; have h := ho2.1; rw [ht] at h ⊢; exact h
          have hyN : y ≤ (s.size : Int) := by rw [hy]; exact ho2.2
          have hsub := fun W => sub_run s x y hx0 hxy hyN W
          have hseg : seg s.data.toList ps k = piece s.data.toList x.toNat (y - x).toNat := by rw [hx, hy, ht]; rfl
          obtain ⟨q, hq⟩ : ∃ q : ByteArray, q = ⟨(piece s.data.toList x.toNat (y - x).toNat).toArray⟩ := ⟨_, rfl⟩
          rw [← hq] at hsub
          have hql : q.data.toList = seg s.data.toList ps k := by rw [hq, hseg]
          have hqs : q.size ≤ 1000000000 := by
            have h1 := size_list q
            rw [hql, hseg] at h1
            have h2 := piece_len_le s.data.toList x.toNat (y - x).toNat
            omega
          rw [← hx] at hc
          rw [← hy] at hd
          have hpf2 : (if (one q.data.toList ((m : Int) - 1)).1 ≠ 0 then ((one q.data.toList ((m : Int) - 1)).1, []) else pfL s.data.toList ps ((m : Int) - 1) (m - 1 - (k + 1)) (k + 1) (SS ++ [(one q.data.toList ((m : Int) - 1)).2])) = PF s.data.toList ps := by
            rw [← hpf, show m - 1 - k = (m - 1 - (k + 1)) + 1 by omega, hql]
            rfl
          have HPF := Lib.hid hpf2
          have hw1 : IntKind.i64.wrap ((t : Int) - 1) = (k : Int) := by rw [ht, i64_in _ (by omega)]; omega
          have hw2 : IntKind.i64.wrap ((m : Int) - 1) = (m : Int) - 1 := i64_in _ (by omega)
          have HT := Lib.hid ht
          have hkm : k < m := by omega
          have ek : decide ((k : Int) < (m : Int)) = true := decide_eq_true (by omega)
          have HQ := Lib.hid hqs
          have HB := Lib.hid hS.bel
          clear hpf hpf2 hx hy hq hql hqs hseg ho1 ho2 hx0 hxy hyN ht hS
          go_wp2_with fail
          go_quiet (fail)
          generalize hw0 : World.drewN wr _ = w0
          have HS0 := Lib.hid (HS2.out.next (show Below wr.heap.size wr w0 from by rw [← hw0]; exact below_drewN (Below.refl _ _) _))
          have CI := Lib.hid (fun W => C.ris_any q W HQ.out)
          clear hw0 hc hd
          by_cases hn : C.isN q.data.toList
          · rw [decide_eq_true hn] at CI
            have hone : one q.data.toList ((m : Int) - 1) = ((C.PA q.data.toList ((m : Int) - 1)).1, ([], (C.PA q.data.toList ((m : Int) - 1)).2)) := by unfold one; rw [if_pos hn]
            clear hn
            obtain ⟨R1, hR1⟩ : ∃ R1, R1 = C.PA q.data.toList ((m : Int) - 1) := ⟨_, rfl⟩
            have CQ := Lib.hid (fun W => C.rparse_own q ((m : Int) - 1) W HQ.out)
            rw [← hR1] at CQ hone
            obtain ⟨E, L⟩ := R1
            have HPF2 := HPF.out
            rw [hone] at HPF2
            dsimp only at HPF2
            have HPFh := Lib.hid HPF2
            clear HPF2 hone hR1 HPF
            go_upto_region 20 with (first
              | (go_at_call 27; (with_reducible refine (CI.out _).mono ?_); rintro e w1 ⟨rfl, rfl⟩)
              | (go_at_call 28; (with_reducible refine (CQ.out _).mono ?_); rintro e w2 ⟨⟨A1, k1, c1, rfl, hp⟩, hb⟩; have H3 := Lib.hid (HS0.out.set1 hb hp); obtain ⟨x0, x1⟩ := ((Bs.new w0 none 0 0 none 0 0).bel hb).cells; have f0 := ((Bs.new w0 none 0 0 none 0 0).bel hb).fr 1; clear hb hp))
            generalize w2.setCell ⟨w0.heap.size, 1, none⟩ (.slice A1 k1 c1) = W3 at H3 ⊢
            clear x0 x1 f0
            by_cases hE : E = 0
            · subst hE
              have h := HPFh.out
              rw [if_neg (fun h => h rfl)] at h
              have HX := Lib.hid h
              clear h HPFh
              obtain ⟨x0, x1⟩ := H3.out.2.1.cells
              have HN4 := Lib.hid (show Below W3.heap.size W3 (W3.alloc (.cells #[.slice none 0 0, .slice A1 k1 c1] 50)) from (Below.refl _ _).alloc (Nat.le_refl _) _)
              have HS4 := Lib.hid (H3.out.1.next HN4.out)
              have HP4 := Lib.hid ((K26.bel HN4.out).pro H3.out.2.2)
              go_wp2_with (at_builtin; go_must (refine wpList_append_own _ rfl (.tmp 84) (.tmp 86) 22 rfl w.heap.size 50 i26 _ 2 48 Try.underlying22 H26.out.1 H26.out.2.1 H26.out.2.2.1 H26.out.2.2.2 rfl (by decide) (.slice A' k c') k cs rfl HS4.out.own ⟨W3.heap.size, 0, none⟩ 1 1 [.slice none 0 0, .slice A1 k1 c1] rfl rfl (cells_new _ _ _) (by intro u hu; simp at hu; rcases hu with rfl | rfl <;> rfl) (by unfold maxLen; omega) (by omega) HS4.out.bel.size ?_); intro v' w7 hown' hg' _; obtain ⟨A7, c7, rfl⟩ := own_form hown'; have H7 := Lib.hid (HS4.out.push (CtO.nil _) HP4.out hown' hg'); clear hown' hg')
              exact ⟨⟨k + 1, t + 1, A7, c7, _, _, by rw [HT.out], by simp, by omega, rfl, HX.out, H7.out⟩, by simp [intOf]; omega⟩
            · have h := HPFh.out
              rw [if_pos hE] at h
              have HX := Lib.hid (HE.out E W3 h.symm H3.out.1.bel)
              have e1 : (E != 0) = true := by simp [hE]
              clear h HPFh hE
              go_wp2_with fail
              go_ret2
              exact HX.out
          · rw [decide_eq_false hn] at CI
            have hone : one q.data.toList ((m : Int) - 1) = ((prs q.data.toList).1, ((prs q.data.toList).2, [])) := by unfold one; rw [if_neg hn]
            clear hn
            obtain ⟨R1, hR1⟩ : ∃ R1, R1 = prs q.data.toList := ⟨_, rfl⟩
            have CQ := Lib.hid (fun W => rparse_own q W HQ.out)
            rw [← hR1] at CQ hone
            obtain ⟨E, L⟩ := R1
            have HPF2 := HPF.out
            rw [hone] at HPF2
            dsimp only at HPF2
            have HPFh := Lib.hid HPF2
            clear HPF2 hone hR1 HPF
            go_upto_region 20 with (first
              | (go_at_call 27; (with_reducible refine (CI.out _).mono ?_); rintro e w1 ⟨rfl, rfl⟩)
              | (go_at_call 29; (with_reducible refine (CQ.out _).mono ?_); rintro e w2 ⟨A1, k1, c1, rfl, hp, hb⟩; have H3 := Lib.hid (HS0.out.set0 hb hp); obtain ⟨x0, x1⟩ := ((Bs.new w0 none 0 0 none 0 0).bel hb).cells; have f0 := ((Bs.new w0 none 0 0 none 0 0).bel hb).fr 0; clear hb hp))
            generalize w2.setCell ⟨w0.heap.size, 0, none⟩ (.slice A1 k1 c1) = W3 at H3 ⊢
            clear x0 x1 f0
            by_cases hE : E = 0
            · subst hE
              have h := HPFh.out
              rw [if_neg (fun h => h rfl)] at h
              have HX := Lib.hid h
              clear h HPFh
              obtain ⟨x0, x1⟩ := H3.out.2.1.cells
              have HN4 := Lib.hid (show Below W3.heap.size W3 (W3.alloc (.cells #[.slice A1 k1 c1, .slice none 0 0] 50)) from (Below.refl _ _).alloc (Nat.le_refl _) _)
              have HS4 := Lib.hid (H3.out.1.next HN4.out)
              have HP4 := Lib.hid ((K26.bel HN4.out).cto H3.out.2.2)
              go_wp2_with (at_builtin; go_must (refine wpList_append_own _ rfl (.tmp 84) (.tmp 86) 22 rfl w.heap.size 50 i26 _ 2 48 Try.underlying22 H26.out.1 H26.out.2.1 H26.out.2.2.1 H26.out.2.2.2 rfl (by decide) (.slice A' k c') k cs rfl HS4.out.own ⟨W3.heap.size, 0, none⟩ 1 1 [.slice A1 k1 c1, .slice none 0 0] rfl rfl (cells_new _ _ _) (by intro u hu; simp at hu; rcases hu with rfl | rfl <;> rfl) (by unfold maxLen; omega) (by omega) HS4.out.bel.size ?_); intro v' w7 hown' hg' _; obtain ⟨A7, c7, rfl⟩ := own_form hown'; have H7 := Lib.hid (HS4.out.push HP4.out (C.PrO.nil _) hown' hg'); clear hown' hg')
              exact ⟨⟨k + 1, t + 1, A7, c7, _, _, by rw [HT.out], by simp, by omega, rfl, HX.out, H7.out⟩, by simp [intOf]; omega⟩
            · have h := HPFh.out
              rw [if_pos hE] at h
              have HX := Lib.hid (HE.out E W3 h.symm H3.out.1.bel)
              have e1 : (E != 0) = true := by simp [hE]
              clear h HPFh hE
              go_wp2_with fail
              go_ret2
              exact HX.out
        · obtain rfl : m = t := by omega
          have HX := Lib.hid (show PF s.data.toList ps = (0, SS) from by rw [← hpf, show m - 1 - k = 0 by omega]; rfl)
          clear hpf hS ht
          go_wp2_with fail
          go_ret2
          exact HFin.out SS A' k c' _ HX.out HS2.out.shl HS2.out.bel
end Go.Proofs.Ytlfnagfcggmeaaa
