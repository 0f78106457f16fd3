/- Proved here: shapes as they lie in memory; which may be (the document's May); how many points contours have. Condition: shapes that lie in memory, within limits. · what the document's moved answers. Condition: contours that lie in memory, within limits. · what the document's moved answers. Condition: contours that lie in memory, within limits. -/
import Derived.Test.YtlfnagfcggmeaaaUd
import Derived.Test.YtlfnagfcggmeaaaKF
import Derived.Test.YtlfnagfcggmeaaaPA
namespace Go.Proofs.Ytlfnagfcggmeaaa
open Go.RowKit

/-- A shape: contours, and parts. -/
abbrev Shp := List (List Pt) × List C.Prt
def sh (SS : List Shp) (i : Nat) : Shp := SS.getD i ([], [])
/-- A list of shapes, as it lies in memory. -/
structure Shl (w : World) (A : Option Addr) (m : Nat) (SS : List Shp) : Prop where
  len : SS.length = m
  get : ∀ i, i < m → ∃ ad B c B' c', A = some ad ∧ ad.block < w.heap.size ∧ w.cell? (ad.add (i * 2)) = some (.slice B (sh SS i).1.length c) ∧ w.cell? (ad.add (i * 2 + 1)) = some (.slice B' (sh SS i).2.length c') ∧ Ctl w B (sh SS i).1.length (sh SS i).1 ∧ C.Prl w B' (sh SS i).2.length (sh SS i).2
theorem Shl.bel {w w' : World} {A : Option Addr} {m : Nat} {SS : List Shp} (h : Shl w A m SS) (hb : Below w.heap.size w w') : Shl w' A m SS :=
  ⟨h.len, fun i hi => by
    obtain ⟨ad, B, c, B', c', h1, h2, h3, h4, h5, h6⟩ := h.get i hi
    exact ⟨ad, B, c, B', c', h1, Nat.lt_of_lt_of_le h2 hb.size, by rw [hb.cell (by rw [block_of_add]; exact h2)]; exact h3, by rw [hb.cell (by rw [block_of_add]; exact h2)]; exact h4, h5.bel hb, h6.bel hb⟩⟩
theorem Shl.at_ {w : World} {A : Option Addr} {m : Nat} {SS : List Shp} (h : Shl w A m SS) {W : World} (hb : Below w.heap.size w W) {i : Nat} (hi : i < m) :
    ∃ ad B c B' c', A = some ad ∧ W.cell? (ad.add (i * 2)) = some (.slice B (sh SS i).1.length c) ∧ W.cell? { block := (ad.add (i * 2)).block, off := (ad.add (i * 2)).off + 1 } = some (.slice B' (sh SS i).2.length c') ∧ Ctl W B (sh SS i).1.length (sh SS i).1 ∧ C.Prl W B' (sh SS i).2.length (sh SS i).2 := by
  obtain ⟨ad, B, c, B', c', h1, h2, h3, h4, h5, h6⟩ := (h.bel hb).get i hi
  exact ⟨ad, B, c, B', c', h1, h3, by rw [add_next]; exact h4, h5, h6⟩
/-- Which shapes may be. -/
def okSh (s : Shp) (n : Int) : Prop := ¬ (0 < s.1.length ∧ 0 < s.2.length) ∧ MayG s.1 ∧ (0 < s.2.length → C.MayL s.2 n)
instance (s : Shp) (n : Int) : Decidable (okSh s n) := inferInstanceAs (Decidable (¬ (0 < s.1.length ∧ 0 < s.2.length) ∧ MayG s.1 ∧ (0 < s.2.length → C.MayL s.2 n)))
def MayS (SS : List Shp) : Prop := (1 ≤ SS.length ∧ SS.length ≤ 1024) ∧ ∀ i, i < SS.length → okSh (sh SS i) (SS.length : Int)
instance (SS : List Shp) : Decidable (MayS SS) := inferInstanceAs (Decidable ((1 ≤ SS.length ∧ SS.length ≤ 1024) ∧ ∀ i, i < SS.length → okSh (sh SS i) (SS.length : Int)))
/-- Within the limits of the calls. -/
def LimS (SS : List Shp) : Prop := ∀ i, i < SS.length → (sh SS i).1.length ≤ 1000 ∧ (∀ j, j < (sh SS i).1.length → (ct (sh SS i).1 j).length ≤ 5000) ∧ (sh SS i).2.length ≤ 1000
/-- A shape in a box. -/
def Bs (w : World) (b : Nat) (B : Option Addr) (n c : Nat) (B' : Option Addr) (n' c' : Nat) : Prop := w.heap[b]? = some (.cells #[.slice B n c, .slice B' n' c'] 50 (0, 0))
section
variable {w w' : World} {b : Nat} {B B' : Option Addr} {n c n' c' : Nat}
theorem Bs.lt (k : Bs w b B n c B' n' c') : b < w.heap.size := heap_lt k
theorem Bs.cells (k : Bs w b B n c B' n' c') : w.cell? ⟨b, 0, none⟩ = some (.slice B n c) ∧ w.cell? ⟨b, 1, none⟩ = some (.slice B' n' c') := ⟨cell_of_row w b 0 _ 50 (0, 0) k, cell_of_row w b 1 _ 50 (0, 0) k⟩
theorem Bs.bel (k : Bs w b B n c B' n' c') (hb : Below w.heap.size w w') : Bs w' b B n c B' n' c' := (hb.block b k.lt).trans k
end
theorem Bs.new (w : World) (B : Option Addr) (n c : Nat) (B' : Option Addr) (n' c' : Nat) : Bs (w.alloc (.cells #[.slice B n c, .slice B' n' c'] 50)) w.heap.size B n c B' n' c' := heap_alloc_new w _
set_option maxHeartbeats 8000000 in
set_option maxRecDepth 100000 in
theorem smay_any (A : Option Addr) (m c : Nat) (SS : List Shp) (w : World) (hP : Shl w A m SS) (hL : LimS SS) (hm : m ≤ 100000) :
    Calls Try.prog 14 #[.slice A m c] w fun e w' => e = .returned (.bool (decide (MayS SS))) ∧ Below w.heap.size w w' := by
  have hlen := hP.len
  by_cases h0 : m < 1
  · rw [decide_eq_false (show ¬ MayS SS from fun h => by have := h.1.1; omega)]
    clear hlen hP hL
    go_enter Try.func14, Try.ntmps14
    go_wp2_with fail
    go_ret
    exact ⟨rfl, Below.refl _ _⟩
  by_cases h64 : 1024 < m
  · rw [decide_eq_false (show ¬ MayS SS from fun h => by have := h.1.2; omega)]
    clear hlen hP hL
    go_enter Try.func14, Try.ntmps14
    go_wp2_with fail
    go_ret
    exact ⟨rfl, Below.refl _ _⟩
  have HY := Lib.hid (show (∀ i, i < m → okSh (sh SS i) (m : Int)) → decide (MayS SS) = true from fun h => decide_eq_true ⟨by omega, by rw [hlen]; exact h⟩)
  have HN := Lib.hid (show ∀ k, k < m → ¬ okSh (sh SS k) (m : Int) → decide (MayS SS) = false from fun k hk h => decide_eq_false fun h2 => h (by have := h2.2 k (by omega); rw [hlen] at this; exact this))
  have HI := Lib.hid hP
  have HL := Lib.hid (show ∀ i, i < m → _ from by rw [← hlen]; exact hL)
  clear hlen hP hL
  go_enter Try.func14, Try.ntmps14
  go_wp2_with fail
  go_loopw [3] (fun i wr => ∃ k : Nat, i = .int .i64 (k : Int) ∧ k ≤ m ∧ (∀ i, i < k → okSh (sh SS i) (m : Int)) ∧ Below w.heap.size w wr) (fun i _ => m - (intOf i).toNat)
  case atStart => exact ⟨0, rfl, Nat.zero_le _, fun i hi => by omega, Below.refl _ _⟩
  case round =>
    obtain ⟨k, rfl, hk, hok, hb⟩ := hrel
    have HB := Lib.hid hb
    by_cases hgo : k < m
    · obtain ⟨ad, B, c1, B', c1', rfl, d0, d1, hC, hP⟩ := HI.out.at_ hb hgo
      have HSU := Lib.hid (show okSh (sh SS k) (m : Int) → ∀ i, i < k + 1 → okSh (sh SS i) (m : Int) from all_succ hok)
      have HNK := Lib.hid (HN.out k hgo)
      obtain ⟨l1, l2, l3⟩ := HL.out k hgo
      obtain ⟨s, hs⟩ : ∃ s, s = sh SS k := ⟨_, rfl⟩
      rw [← hs] at d0 d1 hC hP HSU HNK l1 l2 l3
      obtain ⟨CC, PP⟩ := s
      dsimp only at d0 d1 hC hP l1 l2 l3
      have HO := Lib.hid (show okSh (CC, PP) (m : Int) ↔ ¬ (0 < CC.length ∧ 0 < PP.length) ∧ MayG CC ∧ (0 < PP.length → C.MayL PP (m : Int)) from Iff.rfl)
      have HX := Lib.hid (show Below w.heap.size w (wr.alloc (.cells #[.slice B CC.length c1, .slice B' PP.length c1'] 50)) from hb.alloc hb.size _)
      have HBx := Lib.hid (Bs.new wr B CC.length c1 B' PP.length c1')
      have CM := Lib.hid (rmay_any B CC.length c1 CC _ (hC.bel ((Below.refl wr.heap.size wr).alloc (Nat.le_refl _) (.cells #[.slice B CC.length c1, .slice B' PP.length c1'] 50))) l1 l2)
      have CP := Lib.hid (fun W (hb : Below wr.heap.size wr W) => C.rmay_any B' PP.length c1' PP (m : Int) W (hP.bel hb) (by omega))
      have HA := Lib.hid (show Below wr.heap.size wr (wr.alloc (.cells #[.slice B CC.length c1, .slice B' PP.length c1'] 50)) from (Below.refl _ _).alloc (Nat.le_refl _) _)
      obtain ⟨n1, hn1⟩ : ∃ n, n = CC.length := ⟨_, rfl⟩
      obtain ⟨n2, hn2⟩ : ∃ n, n = PP.length := ⟨_, rfl⟩
      rw [← hn1] at d0 HX HBx CM HA HO
      rw [← hn2] at d1 HX HBx HA HO CP CM
      clear hs hC hP l1 l2 l3 hn1 hn2 hb hok
      by_cases hn1 : 0 < n1
      · by_cases hn2 : 0 < n2
        · have HK := Lib.hid (HNK.out fun h => (HO.out.1 h).1 ⟨hn1, hn2⟩)
          go_wp2_with fail
          go_ret
          exact ⟨by rw [HK.out]; rfl, HX.out⟩
        · have hno : ¬ (0 < n1 ∧ 0 < n2) := fun h => hn2 h.2
          by_cases hg : MayG CC
          · rw [decide_eq_true hg] at CM
            have HK := Lib.hid (HSU.out (HO.out.2 ⟨hno, hg, fun h => absurd h hn2⟩))
            clear hg hno
            go_wp2_with (first | (go_at_call 23; (with_reducible refine CM.out.mono ?_); rintro e w1 ⟨rfl, hb⟩; have HW := Lib.hid (HX.out.trans (hb.mono HX.out.size)); have HW2 := Lib.hid (HA.out.trans (hb.mono HA.out.size)); obtain ⟨x0, x1⟩ := (HBx.out.bel hb).cells; clear hb) | (go_at_call 24; (with_reducible refine (CP.out _ HW2.out).mono ?_); rintro e w2 ⟨rfl, hb⟩; have HW := Lib.hid (HW.out.trans (hb.mono HW.out.size)); clear hb))
            exact ⟨⟨k + 1, by simp, by omega, HK.out, HW.out⟩, by simp [intOf]; omega⟩
          · rw [decide_eq_false hg] at CM
            have HK := Lib.hid (HNK.out fun h => hg (HO.out.1 h).2.1)
            clear hg hno
            go_wp2_with (first | (go_at_call 23; (with_reducible refine CM.out.mono ?_); rintro e w1 ⟨rfl, hb⟩; have HW := Lib.hid (HX.out.trans (hb.mono HX.out.size)); have HW2 := Lib.hid (HA.out.trans (hb.mono HA.out.size)); obtain ⟨x0, x1⟩ := (HBx.out.bel hb).cells; clear hb) | (go_at_call 24; (with_reducible refine (CP.out _ HW2.out).mono ?_); rintro e w2 ⟨rfl, hb⟩; have HW := Lib.hid (HW.out.trans (hb.mono HW.out.size)); clear hb))
            go_ret
            exact ⟨by rw [HK.out]; rfl, HW.out⟩
      · have hno : ¬ (0 < n1 ∧ 0 < n2) := fun h => hn1 h.1
        by_cases hn2 : 0 < n2
        · by_cases hg : MayG CC
          · rw [decide_eq_true hg] at CM
            by_cases hp : C.MayL PP (m : Int)
            · rw [decide_eq_true hp] at CP
              have HK := Lib.hid (HSU.out (HO.out.2 ⟨hno, hg, fun _ => hp⟩))
              clear hg hp hno
              go_wp2_with (first | (go_at_call 23; (with_reducible refine CM.out.mono ?_); rintro e w1 ⟨rfl, hb⟩; have HW := Lib.hid (HX.out.trans (hb.mono HX.out.size)); have HW2 := Lib.hid (HA.out.trans (hb.mono HA.out.size)); obtain ⟨x0, x1⟩ := (HBx.out.bel hb).cells; clear hb) | (go_at_call 24; (with_reducible refine (CP.out _ HW2.out).mono ?_); rintro e w2 ⟨rfl, hb⟩; have HW := Lib.hid (HW.out.trans (hb.mono HW.out.size)); clear hb))
              exact ⟨⟨k + 1, by simp, by omega, HK.out, HW.out⟩, by simp [intOf]; omega⟩
            · rw [decide_eq_false hp] at CP
              have HK := Lib.hid (HNK.out fun h => hp ((HO.out.1 h).2.2 hn2))
              clear hg hp hno
              go_wp2_with (first | (go_at_call 23; (with_reducible refine CM.out.mono ?_); rintro e w1 ⟨rfl, hb⟩; have HW := Lib.hid (HX.out.trans (hb.mono HX.out.size)); have HW2 := Lib.hid (HA.out.trans (hb.mono HA.out.size)); obtain ⟨x0, x1⟩ := (HBx.out.bel hb).cells; clear hb) | (go_at_call 24; (with_reducible refine (CP.out _ HW2.out).mono ?_); rintro e w2 ⟨rfl, hb⟩; have HW := Lib.hid (HW.out.trans (hb.mono HW.out.size)); clear hb))
              go_ret
              exact ⟨by rw [HK.out]; rfl, HW.out⟩
          · rw [decide_eq_false hg] at CM
            have HK := Lib.hid (HNK.out fun h => hg (HO.out.1 h).2.1)
            clear hg hno
            go_wp2_with (first | (go_at_call 23; (with_reducible refine CM.out.mono ?_); rintro e w1 ⟨rfl, hb⟩; have HW := Lib.hid (HX.out.trans (hb.mono HX.out.size)); have HW2 := Lib.hid (HA.out.trans (hb.mono HA.out.size)); obtain ⟨x0, x1⟩ := (HBx.out.bel hb).cells; clear hb) | (go_at_call 24; (with_reducible refine (CP.out _ HW2.out).mono ?_); rintro e w2 ⟨rfl, hb⟩; have HW := Lib.hid (HW.out.trans (hb.mono HW.out.size)); clear hb))
            go_ret
            exact ⟨by rw [HK.out]; rfl, HW.out⟩
        · by_cases hg : MayG CC
          · rw [decide_eq_true hg] at CM
            have HK := Lib.hid (HSU.out (HO.out.2 ⟨hno, hg, fun h => absurd h hn2⟩))
            clear hg hno
            go_wp2_with (first | (go_at_call 23; (with_reducible refine CM.out.mono ?_); rintro e w1 ⟨rfl, hb⟩; have HW := Lib.hid (HX.out.trans (hb.mono HX.out.size)); have HW2 := Lib.hid (HA.out.trans (hb.mono HA.out.size)); obtain ⟨x0, x1⟩ := (HBx.out.bel hb).cells; clear hb) | (go_at_call 24; (with_reducible refine (CP.out _ HW2.out).mono ?_); rintro e w2 ⟨rfl, hb⟩; have HW := Lib.hid (HW.out.trans (hb.mono HW.out.size)); clear hb))
            exact ⟨⟨k + 1, by simp, by omega, HK.out, HW.out⟩, by simp [intOf]; omega⟩
          · rw [decide_eq_false hg] at CM
            have HK := Lib.hid (HNK.out fun h => hg (HO.out.1 h).2.1)
            clear hg hno
            go_wp2_with (first | (go_at_call 23; (with_reducible refine CM.out.mono ?_); rintro e w1 ⟨rfl, hb⟩; have HW := Lib.hid (HX.out.trans (hb.mono HX.out.size)); have HW2 := Lib.hid (HA.out.trans (hb.mono HA.out.size)); obtain ⟨x0, x1⟩ := (HBx.out.bel hb).cells; clear hb) | (go_at_call 24; (with_reducible refine (CP.out _ HW2.out).mono ?_); rintro e w2 ⟨rfl, hb⟩; have HW := Lib.hid (HW.out.trans (hb.mono HW.out.size)); clear hb))
            go_ret
            exact ⟨by rw [HK.out]; rfl, HW.out⟩
    · obtain rfl : k = m := by omega
      have HX := Lib.hid (HY.out hok)
      clear hb hok
      go_wp2_with fail
      go_ret
      exact ⟨by rw [HX.out]; rfl, HB.out⟩
set_option maxHeartbeats 2000000 in
set_option maxRecDepth 100000 in
theorem points_any (A : Option Addr) (m c : Nat) (LL : List (List Pt)) (w : World) (hP : Ctl w A m LL) (hm : m ≤ 1000) (hl : ∀ i, i < m → (ct LL i).length ≤ 100000) :
    Calls Try.prog 37 #[.slice A m c] w fun e w' => e = .returned (.int .i64 (tot LL m : Int)) ∧ Below w.heap.size w w' := by
  have HI := Lib.hid hP
  have HL := Lib.hid hl
  clear hP hl
  go_enter Try.func37, Try.ntmps37
  go_wp2_with fail
  go_loopw [3, 4] (fun v i wr => ∃ k : Nat, i = .int .i64 (k : Int) ∧ k ≤ m ∧ v = .int .i64 (tot LL k : Int) ∧ tot LL k ≤ k * 100000 ∧ Below w.heap.size w wr) (fun _ i _ => m - (intOf i).toNat)
  case atStart => exact ⟨0, rfl, Nat.zero_le _, rfl, by simp [tot], Below.refl _ _⟩
  case round =>
    obtain ⟨k, rfl, hk, rfl, ht, hb⟩ := hrel
    by_cases hgo : k < m
    · obtain ⟨ad, B, c1, rfl, d0, _⟩ := HI.out.at_ hb hgo
      have HB := Lib.hid hb
      have hn := HL.out k hgo
      have HT := Lib.hid (show tot LL (k + 1) = tot LL k + (ct LL k).length from rfl)
      obtain ⟨n, hn1⟩ : ∃ n, n = (ct LL k).length := ⟨_, rfl⟩
      rw [← hn1] at d0 hn HT
      obtain ⟨t, ht1⟩ : ∃ t, t = tot LL k := ⟨_, rfl⟩
      rw [← ht1] at ht HT ⊢
      clear hb hn1 ht1
      go_wp2_with fail
      exact ⟨⟨k + 1, by simp, by omega, by rw [HT.out]; simp, by rw [HT.out]; omega, HB.out⟩, by simp [intOf]; omega⟩
    · obtain rfl : k = m := by omega
      have HB := Lib.hid hb
      clear hb ht
      go_wp2_with fail
      go_ret
      exact ⟨rfl, HB.out⟩
end Go.Proofs.Ytlfnagfcggmeaaa
namespace Go.Proofs.Ytlfnagfcggmeaaa
open Go.RowKit

/-- A point that is moved by a part; may it be; contours that are moved. -/
def okMv (p : C.Prt) (q : Pt) : Prop := (C.mvA p q.1 q.2.1).2.2 = 0
instance (p : C.Prt) (q : Pt) : Decidable (okMv p q) := inferInstanceAs (Decidable (_ = _))
def mvPt (p : C.Prt) (q : Pt) : Pt := ((C.mvA p q.1 q.2.1).1, (C.mvA p q.1 q.2.1).2.1, q.2.2)
def pt (L : List Pt) (j : Nat) : Pt := L.getD j (0, 0, false)
def okMvL (p : C.Prt) (L : List Pt) : Prop := ∀ j, j < L.length → okMv p (pt L j)
def okMvC (p : C.Prt) (LL : List (List Pt)) : Prop := ∀ i, i < LL.length → okMvL p (ct LL i)
instance (p : C.Prt) (L : List Pt) : Decidable (okMvL p L) := inferInstanceAs (Decidable (∀ j, j < L.length → okMv p (pt L j)))
instance (p : C.Prt) (LL : List (List Pt)) : Decidable (okMvC p LL) := inferInstanceAs (Decidable (∀ i, i < LL.length → okMvL p (ct LL i)))
def movE (p : C.Prt) (LL : List (List Pt)) : Int := if okMvC p LL then 0 else 2
def movL (p : C.Prt) (LL : List (List Pt)) : List (List Pt) := if okMvC p LL then LL.map (List.map (mvPt p)) else []
theorem cell_lt {w : World} {a : Addr} {v : Value} (h : w.cell? a = some v) : a.block < w.heap.size := by
  rcases Nat.lt_or_ge a.block w.heap.size with hl | hl
  · exact hl
  · unfold World.cell? at h
    rw [Array.getElem?_eq_none hl] at h
    cases h
theorem take_succ_map (f : Pt → Pt) (L : List Pt) (j : Nat) (h : j < L.length) : (L.take (j + 1)).map f = (L.take j).map f ++ [f (pt L j)] := by
  rw [List.take_add_one, List.getElem?_eq_getElem h, List.map_append]
  simp [pt, h]
theorem pt_eq (L : List Pt) (j : Nat) : pt L j = (px L j, py L j, po L j) := rfl
theorem map_ct (f : List Pt → List Pt) (LL : List (List Pt)) : (List.range LL.length).map (fun i => f (ct LL i)) = LL.map f := by
  apply List.ext_getElem
  · simp
  · intro i h1 h2
    simp at h1
    simp [ct, h1]
end Go.Proofs.Ytlfnagfcggmeaaa
namespace Go.Proofs.Ytlfnagfcggmeaaa
open Go.RowKit

/-- What moved answers: contours in rows of their own, or an error. -/
def MvP (p : C.Prt) (LL : List (List Pt)) (w : World) (e : Ending) (w' : World) : Prop :=
  ∃ A k c, e = .returned (.tuple #[.slice A k c, .int .i64 (movE p LL)]) ∧ Below w.heap.size w w' ∧ ∃ cs, w'.ownsRow w.heap.size 47 1 (.slice A k c) k cs ∧ Fo w' k (ct (movL p LL)) cs ∧ (movL p LL).length = k
theorem mvP_err {p : C.Prt} {LL : List (List Pt)} {w w' : World} (h : ¬ okMvC p LL) (hb : Below w.heap.size w w') : MvP p LL w (.returned (.tuple #[.slice none 0 0, .int .i64 2])) w' := by
  have e1 : movE p LL = 2 := by unfold movE; rw [if_neg h]
  have e2 : movL p LL = [] := by unfold movL; rw [if_neg h]
  exact ⟨none, 0, 0, by rw [e1], hb, [], World.ownsRow_nil _ _ _ _, by rw [e2]; exact ⟨rfl, fun i hi => by omega⟩, by rw [e2]; rfl⟩
theorem own_base {w : World} {b1 b2 e size n : Nat} {v : Value} {xs : List Value} (h : w.ownsRow b1 e size v n xs) (hb : b2 ≤ b1) : w.ownsRow b2 e size v n xs := by
  refine ⟨h.1, ?_⟩
  rcases h.2 with h1 | ⟨g, cap, cur, h1, h3, h4⟩
  · exact .inl h1
  · exact .inr ⟨g, cap, cur, h1, Nat.le_trans hb h3, h4⟩
set_option maxHeartbeats 8000000 in
set_option maxRecDepth 100000 in
theorem moved_any (g dx dy a b c0 d : Int) (A : Option Addr) (m c : Nat) (LL : List (List Pt)) (w : World) (hP : Ctl w A m LL) (hm : m ≤ 1000) (hl : ∀ i, i < m → (ct LL i).length ≤ 5000) :
    Calls Try.prog 36 #[.agg #[.int .i64 g, .int .i64 dx, .int .i64 dy, .int .i64 a, .int .i64 b, .int .i64 c0, .int .i64 d], .slice A m c] w (MvP (g, dx, dy, a, b, c0, d) LL w) := by
  have hlen := hP.len
  have hB0 : Below w.heap.size w (w.alloc (.cells #[.int .i64 g, .int .i64 dx, .int .i64 dy, .int .i64 a, .int .i64 b, .int .i64 c0, .int .i64 d] 54)) := (Below.refl _ _).alloc (Nat.le_refl _) _
  have HI := Lib.hid (hP.bel hB0)
  have HBx := Lib.hid (C.Bp.new w g dx dy a b c0 d)
  have HL := Lib.hid hl
  have hsz : (w.alloc (.cells #[.int .i64 g, .int .i64 dx, .int .i64 dy, .int .i64 a, .int .i64 b, .int .i64 c0, .int .i64 d] 54)).heap.size = w.heap.size + 1 := by simp
  have CMv := Lib.hid (fun x y W => C.rmove_any g dx dy a b c0 d x y W)
  obtain ⟨p, hp⟩ : ∃ p : C.Prt, p = (g, dx, dy, a, b, c0, d) := ⟨_, rfl⟩
  rw [← hp] at CMv ⊢
  have HP := Lib.hid hp
  obtain ⟨i0, hi0, hz0, hz1, hz2⟩ := info_parts Try.info46
  have H46 := Lib.hid (And.intro hi0 (And.intro hz0 (And.intro hz1 hz2)))
  obtain ⟨i1, hi1, hy0, hy1, hy2⟩ := info_parts Try.info47
  have H27 := Lib.hid (And.intro hi1 (And.intro hy0 (And.intro hy1 hy2)))
  have HLen := Lib.hid hlen
  clear hP hl hlen hi0 hz0 hz1 hz2 hi1 hy0 hy1 hy2 hp
  go_enter Try.func36, Try.ntmps36
  go_upto_region 1 with fail
  obtain ⟨bx, hbx⟩ : ∃ b, b = w.heap.size := ⟨_, rfl⟩
  obtain ⟨W0, hW0⟩ : ∃ W, W = w.alloc (.cells #[.int .i64 g, .int .i64 dx, .int .i64 dy, .int .i64 a, .int .i64 b, .int .i64 c0, .int .i64 d] 54) := ⟨_, rfl⟩
  rw [← hW0] at HI HBx hB0 hsz ⊢
  rw [← hbx] at HBx ⊢
  have HW := Lib.hid (And.intro hB0 hsz)
  clear hW0 hB0 hsz hbx
  go_wp2_with fail
  go_loopw [6, 7] (fun v i wr => ∃ (k : Nat) (A' : Option Addr) (c' : Nat) (cs : List Value), i = .int .i64 (k : Int) ∧ k ≤ m ∧ v = .slice A' k c' ∧ OuS W0 wr (.slice A' k c') k (fun i => (ct LL i).map (mvPt p)) cs ∧ (∀ i, i < k → okMvL p (ct LL i))) (fun _ i _ => m - (intOf i).toNat)
  case atStart => exact ⟨0, none, 0, [], rfl, Nat.zero_le _, rfl, OuS.start _ _, fun i hi => by omega⟩
  case round =>
    obtain ⟨k, A', c', cs, rfl, hk, rfl, hS, hok⟩ := hrel
    have HS := Lib.hid hS
    by_cases hgo : k < m
    · obtain ⟨ad, B, c1, hA, dd, hpt⟩ := HI.out.at_ hS.bel hgo
      subst hA
      have hn5 := HL.out k hgo
      have HSU := Lib.hid (show okMvL p (ct LL k) → ∀ i, i < k + 1 → okMvL p (ct LL i) from all_succ hok)
      have HNO := Lib.hid (show ∀ W, Below W0.heap.size W0 W → ¬ okMvL p (ct LL k) → MvP p LL w (.returned (.tuple #[.slice none 0 0, .int .i64 2])) W from fun W hb h => mvP_err (fun h2 => h (h2 k (by rw [HLen.out]; exact hgo))) (HW.out.1.trans (hb.mono HW.out.1.size)))
      obtain ⟨Q, hQ⟩ : ∃ Q, Q = ct LL k := ⟨_, rfl⟩
      have HQ := Lib.hid hQ
      rw [← hQ] at dd hpt hn5 HSU HNO
      obtain ⟨n, hn⟩ : ∃ n, n = Q.length := ⟨_, rfl⟩
      have HN := Lib.hid hn
      rw [← hn] at dd hpt hn5
      have HPt := Lib.hid hpt
      have HBx2 := Lib.hid (HBx.out.bel hS.bel)
      have HD := Lib.hid (And.intro dd (cell_lt dd))
      clear hS hok hQ hn hpt dd
      obtain ⟨wo, hwo⟩ : ∃ W, W = wr := ⟨_, rfl⟩
      subst hwo
      have dd := HD.out.1
      go_wp2_with fail
      go_loopw [8, 9] (fun v j wi => ∃ (l : Nat) (A2 : Option Addr) (c2 : Nat), j = .int .i64 (l : Int) ∧ l ≤ n ∧ v = .slice A2 l c2 ∧ RpS wo wi (.slice A2 l c2) l ((Q.take l).map (mvPt p)) ∧ (∀ j, j < l → okMv p (pt Q j))) (fun _ j _ => n - (intOf j).toNat)
      case atStart => exact ⟨0, none, 0, rfl, Nat.zero_le _, rfl, by simpa using RpS.start wo, fun j hj => by omega⟩
      case round =>
        obtain ⟨l, A2, c2, rfl, hl, rfl, hR, hokl⟩ := hrel
        have HR := Lib.hid hR
        by_cases hgl : l < n
        · obtain ⟨q, hB, d0, d1, d2⟩ := HPt.out.at_ hR.bel hgl
          subst hB
          have HMK := Lib.hid (show okMv p (pt Q l) → ∀ j, j < l + 1 → okMv p (pt Q j) from all_succ hokl)
          have HNK := Lib.hid (show ¬ okMv p (pt Q l) → ∀ W, Below W0.heap.size W0 W → MvP p LL w (.returned (.tuple #[.slice none 0 0, .int .i64 2])) W from fun h W hb => HNO.out W hb fun h2 => h (h2 l (by rw [← HN.out]; exact hgl)))
          have HTS := Lib.hid (take_succ_map (mvPt p) Q l (by rw [← HN.out]; exact hgl))
          have hpe := pt_eq Q l
          obtain ⟨x, hx⟩ : ∃ x, x = px Q l := ⟨_, rfl⟩
          obtain ⟨y, hy⟩ : ∃ y, y = py Q l := ⟨_, rfl⟩
          obtain ⟨o, ho⟩ : ∃ o, o = po Q l := ⟨_, rfl⟩
          rw [← hx, ← hy, ← ho] at hpe
          rw [← hx] at d0
          rw [← hy] at d1
          rw [← ho] at d2
          have CV := Lib.hid (fun W => CMv.out x y W)
          have hmk : okMv p (pt Q l) ↔ (C.mvA p x y).2.2 = 0 := by rw [hpe]; exact Iff.rfl
          have hmp : mvPt p (pt Q l) = ((C.mvA p x y).1, (C.mvA p x y).2.1, o) := by rw [hpe]; rfl
          obtain ⟨rx, hrx⟩ : ∃ z, z = (C.mvA p x y).1 := ⟨_, rfl⟩
          obtain ⟨ry, hry⟩ : ∃ z, z = (C.mvA p x y).2.1 := ⟨_, rfl⟩
          obtain ⟨E, hE⟩ : ∃ z, z = (C.mvA p x y).2.2 := ⟨_, rfl⟩
          rw [← hrx, ← hry, ← hE] at CV
          rw [← hE] at hmk
          rw [← hrx, ← hry] at hmp
          have HMP := Lib.hid hmp
          have HF := Lib.hid (show ∀ W, Below wr.heap.size wr W → (W.cell? ⟨bx, 0, none⟩ = some (.int .i64 g) ∧ W.cell? ⟨bx, 1, none⟩ = some (.int .i64 dx) ∧ W.cell? ⟨bx, 2, none⟩ = some (.int .i64 dy) ∧ W.cell? ⟨bx, 3, none⟩ = some (.int .i64 a) ∧ W.cell? ⟨bx, 4, none⟩ = some (.int .i64 b) ∧ W.cell? ⟨bx, 5, none⟩ = some (.int .i64 c0) ∧ W.cell? ⟨bx, 6, none⟩ = some (.int .i64 d)) ∧ W.cell? (ad.add k) = some (.slice (some q) n c1) ∧ W.cell? (q.add (l * 3)) = some (.int .i64 x) ∧ W.cell? { block := (q.add (l * 3)).block, off := (q.add (l * 3)).off + 1 } = some (.int .i64 y) ∧ W.cell? { block := (q.add (l * 3)).block, off := (q.add (l * 3)).off + 2 } = some (.bool o) from fun W hW => by
            have dd := (hR.bel.cell HD.out.2).trans HD.out.1
            have hb := (HBx2.out.bel hR.bel).cells
            have hlt := (HBx2.out.bel hR.bel).lt
            exact ⟨⟨(hW.cell hlt).trans hb.1, (hW.cell hlt).trans hb.2.1, (hW.cell hlt).trans hb.2.2.1, (hW.cell hlt).trans hb.2.2.2.1, (hW.cell hlt).trans hb.2.2.2.2.1, (hW.cell hlt).trans hb.2.2.2.2.2.1, (hW.cell hlt).trans hb.2.2.2.2.2.2⟩,
              (hW.cell (cell_lt dd)).trans dd, (hW.cell (cell_lt d0)).trans d0, (hW.cell (cell_lt d1)).trans d1, (hW.cell (cell_lt d2)).trans d2⟩)
          have H := Lib.hid (Below.refl wr.heap.size wr)
          obtain ⟨⟨b0, b1, b2, b3, b4, b5, b6⟩, e0, e1, e2, e3⟩ := HF.out _ H.out
          clear d0 d1 d2 hx hy ho hpe hmp hrx hry hE hR hokl
          by_cases hE0 : E = 0
          · have HK := Lib.hid (HMK.out (hmk.2 hE0))
            subst hE0
            clear hmk
            go_upto_region 9 with fail
            go_region_held3 (fun w' => (w'.cell? ⟨bx, 0, none⟩ = some (.int .i64 g) ∧ w'.cell? ⟨bx, 1, none⟩ = some (.int .i64 dx) ∧ w'.cell? ⟨bx, 2, none⟩ = some (.int .i64 dy) ∧ w'.cell? ⟨bx, 3, none⟩ = some (.int .i64 a) ∧ w'.cell? ⟨bx, 4, none⟩ = some (.int .i64 b) ∧ w'.cell? ⟨bx, 5, none⟩ = some (.int .i64 c0) ∧ w'.cell? ⟨bx, 6, none⟩ = some (.int .i64 d)) ∧ w'.cell? (ad.add k) = some (.slice (some q) n c1) ∧ w'.cell? (q.add (l * 3)) = some (.int .i64 x) ∧ w'.cell? { block := (q.add (l * 3)).block, off := (q.add (l * 3)).off + 1 } = some (.int .i64 y) ∧ w'.cell? { block := (q.add (l * 3)).block, off := (q.add (l * 3)).off + 2 } = some (.bool o))
              (first | with_reducible exact HF.out _ H.out | with_reducible exact HF.out _ (Below.drew H.out) | go_keep)
              (first
                | (go_at_call 54; (with_reducible refine (CV.out _).mono ?_); rintro e w4 ⟨rfl, hb⟩; (first | have H := Lib.hid (H.out.trans (hb.mono H.out.size)) | have H := Lib.hid ((Below.drew H.out).trans (hb.mono H.out.size))); clear hb))
            clear b0 b1 b2 b3 b4 b5 b6 e0 e1 e2 e3
            obtain ⟨⟨b0, b1, b2, b3, b4, b5, b6⟩, e0, e1, e2, e3⟩ := HF.out _ H.out
            have HR4 := Lib.hid (HR.out.next H.out)
            generalize hW4 : w4 = W4 at HR4 b0 b1 b2 b3 b4 b5 b6 e0 e1 e2 e3 H ⊢
            have HR5 := Lib.hid (HR4.out.next ((Below.refl _ W4).alloc (Nat.le_refl _) (.cells #[.int .i64 rx, .int .i64 ry, .bool o] 46)))
            go_wp2_with (at_builtin; go_must (refine wpList_append_own _ rfl (.tmp 52) (.tmp 64) 47 rfl wo.heap.size 46 i0 _ 3 24 Try.underlying47 H46.out.1 H46.out.2.1 H46.out.2.2.1 H46.out.2.2.2 rfl (by decide) (.slice A2 l c2) l (ptC ((Q.take l).map (mvPt p))) rfl HR5.out.own ⟨W4.heap.size, 0, none⟩ 1 1 [.int .i64 rx, .int .i64 ry, .bool o] rfl rfl (cells_new _ _ _) (by intro u hu; simp at hu; rcases hu with rfl | rfl | rfl <;> rfl) (by unfold maxLen; omega) (by omega) HR5.out.bel.size ?_); intro v' w7 hown' hg' _; obtain ⟨A7, c7, rfl⟩ := own_form hown'; have H7 := Lib.hid (HR5.out.push (e := (rx, ry, o)) hown' hg'); clear hown' hg')
            exact ⟨⟨l + 1, A7, c7, by simp, by omega, rfl, by rw [HTS.out, HMP.out]; exact H7.out, HK.out⟩, by simp [intOf]; omega⟩
          · have HK := Lib.hid (HNK.out fun h => hE0 (hmk.1 h))
            have e9 : (E != 0) = true := by simp [hE0]
            clear hmk hE0
            go_upto_region 9 with fail
            go_region_held3 (fun w' => (w'.cell? ⟨bx, 0, none⟩ = some (.int .i64 g) ∧ w'.cell? ⟨bx, 1, none⟩ = some (.int .i64 dx) ∧ w'.cell? ⟨bx, 2, none⟩ = some (.int .i64 dy) ∧ w'.cell? ⟨bx, 3, none⟩ = some (.int .i64 a) ∧ w'.cell? ⟨bx, 4, none⟩ = some (.int .i64 b) ∧ w'.cell? ⟨bx, 5, none⟩ = some (.int .i64 c0) ∧ w'.cell? ⟨bx, 6, none⟩ = some (.int .i64 d)) ∧ w'.cell? (ad.add k) = some (.slice (some q) n c1) ∧ w'.cell? (q.add (l * 3)) = some (.int .i64 x) ∧ w'.cell? { block := (q.add (l * 3)).block, off := (q.add (l * 3)).off + 1 } = some (.int .i64 y) ∧ w'.cell? { block := (q.add (l * 3)).block, off := (q.add (l * 3)).off + 2 } = some (.bool o))
              (first | with_reducible exact HF.out _ H.out | with_reducible exact HF.out _ (Below.drew H.out) | go_keep)
              (first
                | (go_at_call 54; (with_reducible refine (CV.out _).mono ?_); rintro e w4 ⟨rfl, hb⟩; (first | have H := Lib.hid (H.out.trans (hb.mono H.out.size)) | have H := Lib.hid ((Below.drew H.out).trans (hb.mono H.out.size))); clear hb))
            go_wp2_with fail
            go_ret2
            exact HK.out _ (HS.out.bel.trans ((HR.out.bel.trans (H.out.mono HR.out.bel.size)).mono HS.out.bel.size))
        · obtain rfl : l = n := by omega
          have HOK := Lib.hid (HSU.out (fun j hj => hokl j (by rw [HN.out]; exact hj)))
          have htk : Q.take l = Q := by rw [HN.out]; exact List.take_length
          rw [htk] at HR
          have HO5 := Lib.hid ((HS.out.next HR.out.bel).next ((Below.refl _ wr).alloc (Nat.le_refl _) (.cells #[.slice A2 l c2] 47)))
          have HR5 := Lib.hid (HR.out.next ((Below.refl _ wr).alloc (Nat.le_refl _) (.cells #[.slice A2 l c2] 47)))
          have HPL := Lib.hid (show Ptl (wr.alloc (.cells #[.slice A2 l c2] 47)) A2 l (Q.map (mvPt p)) from own_ptl HR5.out.own (by rw [List.length_map]; exact HN.out.symm))
          have HT3 := Lib.hid (own_t39 HR5.out.own)
          have dd2 := (hR.bel.cell HD.out.2).trans HD.out.1
          clear hokl hR htk dd
          go_wp2_with (at_builtin; go_must (refine wpList_append_own _ rfl (.tmp 66) (.tmp 68) 25 rfl W0.heap.size 47 i1 _ 1 24 Try.underlying25 H27.out.1 H27.out.2.1 H27.out.2.2.1 H27.out.2.2.2 rfl (by decide) (.slice A' k c') k cs rfl HO5.out.own ⟨wr.heap.size, 0, none⟩ 1 1 [.slice A2 l c2] rfl rfl (cells_new _ _ _) (by intro u hu; simp at hu; subst hu; rfl) (by unfold maxLen; omega) (by omega) HO5.out.bel.size ?_); intro v' w7 hown' hg' _; obtain ⟨A7, c7, rfl⟩ := own_form hown'; have H7 := Lib.hid (HO5.out.push (d := l) (by show ((ct LL k).map (mvPt p)).length = l; rw [← HQ.out, List.length_map]; exact HN.out.symm) (by show Ptl _ A2 l ((ct LL k).map (mvPt p)); rw [← HQ.out]; exact HPL.out) HT3.out hown' hg'); clear hown' hg')
          exact ⟨⟨k + 1, A7, c7, cs ++ [.slice A2 l c2], by simp, by omega, rfl, H7.out, HOK.out⟩, by simp [intOf]; omega⟩
    · obtain rfl : k = m := by omega
      have hall : okMvC p LL := fun i hi => hok i (by rw [HLen.out] at hi; exact hi)
      have e1 : movE p LL = 0 := by unfold movE; rw [if_pos hall]
      have e2 : movL p LL = (List.range k).map (fun i => (ct LL i).map (mvPt p)) := by
        unfold movL; rw [if_pos hall, ← map_ct (List.map (mvPt p)), HLen.out]
      have HE := Lib.hid (And.intro e1 e2)
      clear hS hok hall e1 e2
      go_wp2_with fail
      go_ret2
      refine ⟨A', k, c', by rw [HE.out.1]; rfl, HW.out.1.trans (HS.out.bel.mono HW.out.1.size), cs, own_base HS.out.own HW.out.1.size, ?_, by rw [HE.out.2]; simp⟩
      have hf := HS.out.fo
      refine ⟨hf.len, fun i hi => ?_⟩
      obtain ⟨B, c4, h1, h2, h3⟩ := hf.get i hi
      rw [HE.out.2, ct_gen hi]
      exact ⟨B, c4, h1, h2, h3⟩
end Go.Proofs.Ytlfnagfcggmeaaa
