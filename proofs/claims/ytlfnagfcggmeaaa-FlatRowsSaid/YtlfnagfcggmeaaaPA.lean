/- Proved here: lists of numbers, of points and of contours as they lie in memory; which contours may be (plain). No condition. · whether contours may be, in the program. Condition: at most 1000 contours that lie in memory, of at most 5000 points each. · whether contours may be, in the document; whether two lists of contours are the same, and what few answers. Condition: contours that lie in memory. -/
import Derived.Test.YtlfnagfcggmeaaaOB
import Derived.Laws.AppendOwn
import Derived.Laws.Append
import Derived.Laws.OwnMore
namespace Go.Proofs.Ytlfnagfcggmeaaa
open Go.RowKit

theorem block_of_add (a : Addr) (n : Nat) : (a.add n).block = a.block := by unfold Addr.add; split <;> rfl
theorem add_next (a : Addr) (n : Nat) : (⟨(a.add n).block, (a.add n).off + 1, none⟩ : Addr) = a.add (n + 1) := by
  unfold Addr.add
  split
  · next h => subst h; simp
  · simp [Nat.add_assoc]
theorem add_next2 (a : Addr) (n : Nat) : (⟨(a.add n).block, (a.add n).off + 2, none⟩ : Addr) = a.add (n + 2) := by
  unfold Addr.add
  split
  · next h => subst h; simp
  · simp [Nat.add_assoc]
theorem own_form {w : World} {base e size n : Nat} {v : Value} {xs : List Value} (h : w.ownsRow base e size v n xs) : ∃ A c, v = .slice A n c := by
  rcases h.2 with ⟨h1, h2⟩ | ⟨g, cap, cur, h1, _⟩
  · exact ⟨none, 0, by rw [h1, h2]⟩
  · exact ⟨_, _, h1⟩
theorem own_cell {w : World} {base e size n c : Nat} {A : Option Addr} {xs : List Value} (h : w.ownsRow base e size (.slice A n c) n xs) (hn : 0 < n) : ∃ ad, A = some ad ∧ ad.block < w.heap.size ∧ ∀ j u, xs[j]? = some u → w.cell? (ad.add j) = some u := by
  rcases h.2 with ⟨h1, h2⟩ | ⟨g, cap, cur, h1, h3, h4, h5⟩
  · omega
  · injection h1 with e1 e2 e3
    subst e1
    exact ⟨⟨g, 0, none⟩, rfl, heap_lt h4, fun j u hu => h.cells (by rfl) j u hu⟩
theorem own_block {w : World} {base e size n c : Nat} {A : Option Addr} {xs : List Value} (h : w.ownsRow base e size (.slice A n c) n xs) (hn : 0 < n) : ∃ g, A = some ⟨g, 0, none⟩ ∧ base ≤ g ∧ g < w.heap.size := by
  rcases h.2 with ⟨h1, h2⟩ | ⟨g, cap, cur, h1, h3, h4, h5⟩
  · omega
  · injection h1 with e1 e2 e3
    exact ⟨g, e1, h3, heap_lt h4⟩
theorem own_bel {w w' : World} {base e size n : Nat} {v : Value} {xs : List Value} (h : w.ownsRow base e size v n xs) (hb : Below w.heap.size w w') : w'.ownsRow base e size v n xs := by
  refine ⟨h.1, ?_⟩
  rcases h.2 with h1 | ⟨g, cap, cur, h1, h3, h4, h5⟩
  · exact .inl h1
  · exact .inr ⟨g, cap, cur, h1, h3, (hb.block g (heap_lt h4)).trans h4, h5⟩
theorem own_not {w : World} {base e size n g : Nat} {v : Value} {xs : List Value} {cs : Array Value} {T : TypeId} {fr : Nat × Nat} (h : w.ownsRow base e size v n xs) (hg : w.heap[g]? = some (.cells cs T fr)) (hT : T ≠ e) : some g ≠ v.ownBlock := by
  intro he
  rcases h.2 with ⟨h1, h2⟩ | ⟨g2, cap, cur, h1, h3, h4, h5⟩
  · rw [h1] at he; simp [Value.ownBlock] at he
  · rw [h1] at he
    simp [Value.ownBlock] at he
    subst he
    rw [hg] at h4
    injection h4 with h4
    injection h4 with _ h4 _
    exact hT h4
theorem own_type {w : World} {base e size n g : Nat} {v : Value} {xs : List Value} (h : w.ownsRow base e size v n xs) (hg : some g = v.ownBlock) : base ≤ g ∧ ∃ cs fr, w.heap[g]? = some (.cells cs e fr) := by
  rcases h.2 with ⟨h1, h2⟩ | ⟨g2, cap, cur, h1, h3, h4, h5⟩
  · rw [h1] at hg; simp [Value.ownBlock] at hg
  · rw [h1] at hg
    simp [Value.ownBlock] at hg
    subst hg
    exact ⟨h3, _, _, h4⟩
theorem cells_new (w : World) (xs : List Value) (t : TypeId) : ∀ j u, xs[j]? = some u → (w.alloc (.cells xs.toArray t)).cell? ((⟨w.heap.size, 0, none⟩ : Addr).add j) = some u := by
  intro j u hu
  have e : (⟨w.heap.size, 0, none⟩ : Addr).add j = ⟨w.heap.size, j, none⟩ := by unfold Addr.add; split <;> simp_all
  rw [e, cell_of_row _ _ j _ t (0, 0) (heap_alloc_new w _)]
  simpa using hu
theorem below_grown {w W W' : World} {e size n : Nat} {v : Value} {xs : List Value} (h : Below w.heap.size w W) (ho : W.ownsRow w.heap.size e size v n xs) (hg : W.grownBy W' v.ownBlock) : Below w.heap.size w W' :=
  h.grown hg h.size (fun k hk => (ho.lt k hk).1)

/-- Number i of a list. -/
def co (xs : List Int) (i : Nat) : Int := xs.getD i 0
def ci (K : IntKind) (xs : List Int) : List Value := xs.map fun x => .int K x
theorem ci_len (K : IntKind) (xs : List Int) : (ci K xs).length = xs.length := by simp [ci]
theorem ci_get (K : IntKind) (xs : List Int) (i : Nat) (h : i < xs.length) : (ci K xs)[i]? = some (.int K (co xs i)) := by
  simp [ci, co, h]
theorem ci_snoc (K : IntKind) (xs : List Int) (x : Int) : ci K (xs ++ [x]) = ci K xs ++ [.int K x] := by simp [ci]
/-- A list of numbers, as it lies in memory. -/
structure Il (K : IntKind) (w : World) (A : Option Addr) (m : Nat) (xs : List Int) : Prop where
  len : xs.length = m
  get : ∀ i, i < m → ∃ ad, A = some ad ∧ ad.block < w.heap.size ∧ w.cell? (ad.add i) = some (.int K (co xs i))
theorem Il.nil (K : IntKind) (w : World) : Il K w none 0 [] := ⟨rfl, fun i hi => by omega⟩
theorem Il.bel {K : IntKind} {w w' : World} {A : Option Addr} {m : Nat} {xs : List Int} (h : Il K w A m xs) (hb : Below w.heap.size w w') : Il K w' A m xs :=
  ⟨h.len, fun i hi => by
    obtain ⟨ad, h1, h2, h3⟩ := h.get i hi
    exact ⟨ad, h1, Nat.lt_of_lt_of_le h2 hb.size, by rw [hb.cell (by rw [block_of_add]; exact h2)]; exact h3⟩⟩
theorem Il.at_ {K : IntKind} {w : World} {A : Option Addr} {m : Nat} {xs : List Int} (h : Il K w A m xs) {W : World} (hb : Below w.heap.size w W) {i : Nat} (hi : i < m) :
    ∃ ad, A = some ad ∧ W.cell? (ad.add i) = some (.int K (co xs i)) := by
  obtain ⟨ad, h1, h2, h3⟩ := h.get i hi
  exact ⟨ad, h1, by rw [hb.cell (by rw [block_of_add]; exact h2)]; exact h3⟩
theorem own_il {K : IntKind} {w : World} {base T n c : Nat} {A : Option Addr} {xs : List Int} (h : w.ownsRow base T 1 (.slice A n c) n (ci K xs)) (hn : xs.length = n) : Il K w A n xs := by
  refine ⟨hn, fun i hi => ?_⟩
  obtain ⟨ad, h1, h2, h3⟩ := own_cell h (by omega)
  exact ⟨ad, h1, h2, h3 _ _ (ci_get K xs i (by omega))⟩
/-- A point: how far it is to the right, how far up, and whether it is on the outline. -/
abbrev Pt := Int × Int × Bool
def px (L : List Pt) (i : Nat) : Int := (L.getD i (0, 0, false)).1
def py (L : List Pt) (i : Nat) : Int := (L.getD i (0, 0, false)).2.1
def po (L : List Pt) (i : Nat) : Bool := (L.getD i (0, 0, false)).2.2
theorem pt_at (L : List Pt) (i : Nat) : L.getD i (0, 0, false) = (px L i, py L i, po L i) := rfl
/-- A list of points, as it lies in memory. -/
structure Ptl (w : World) (A : Option Addr) (m : Nat) (L : List Pt) : Prop where
  len : L.length = m
  get : ∀ i, i < m → ∃ ad, A = some ad ∧ ad.block < w.heap.size ∧ w.cell? (ad.add (i * 3)) = some (.int .i64 (px L i)) ∧ w.cell? (ad.add (i * 3 + 1)) = some (.int .i64 (py L i)) ∧ w.cell? (ad.add (i * 3 + 2)) = some (.bool (po L i))
theorem Ptl.nil (w : World) : Ptl w none 0 [] := ⟨rfl, fun i hi => by omega⟩
theorem Ptl.below {B : Nat} {w w' : World} {A : Option Addr} {m : Nat} {L : List Pt} (h : Ptl w A m L) (hb : Below B w w') (hB : w.heap.size ≤ B) : Ptl w' A m L :=
  ⟨h.len, fun i hi => by
    obtain ⟨ad, h1, h2, h3, h4, h5⟩ := h.get i hi
    exact ⟨ad, h1, Nat.lt_of_lt_of_le h2 hb.size, by rw [hb.cell (by rw [block_of_add]; omega)]; exact h3, by rw [hb.cell (by rw [block_of_add]; omega)]; exact h4, by rw [hb.cell (by rw [block_of_add]; omega)]; exact h5⟩⟩
theorem Ptl.bel {w w' : World} {A : Option Addr} {m : Nat} {L : List Pt} (h : Ptl w A m L) (hb : Below w.heap.size w w') : Ptl w' A m L := h.below hb (Nat.le_refl _)
/-- The i-th point's cells, as the walk asks for them. -/
theorem Ptl.at_ {w : World} {A : Option Addr} {m : Nat} {L : List Pt} (h : Ptl w A m L) {W : World} (hb : Below w.heap.size w W) {i : Nat} (hi : i < m) :
    ∃ ad, A = some ad ∧ W.cell? (ad.add (i * 3)) = some (.int .i64 (px L i)) ∧ W.cell? { block := (ad.add (i * 3)).block, off := (ad.add (i * 3)).off + 1 } = some (.int .i64 (py L i)) ∧ W.cell? { block := (ad.add (i * 3)).block, off := (ad.add (i * 3)).off + 2 } = some (.bool (po L i)) := by
  obtain ⟨ad, h1, h2, h3, h4, h5⟩ := h.get i hi
  exact ⟨ad, h1, by rw [hb.cell (by rw [block_of_add]; exact h2)]; exact h3, by rw [add_next, hb.cell (by rw [block_of_add]; exact h2)]; exact h4, by rw [add_next2, hb.cell (by rw [block_of_add]; exact h2)]; exact h5⟩
/-- Contour i. -/
def ct (LL : List (List Pt)) (i : Nat) : List Pt := LL.getD i []
/-- A list of contours, as it lies in memory. -/
structure Ctl (w : World) (A : Option Addr) (m : Nat) (LL : List (List Pt)) : Prop where
  len : LL.length = m
  get : ∀ i, i < m → ∃ ad B c, A = some ad ∧ ad.block < w.heap.size ∧ w.cell? (ad.add i) = some (.slice B (ct LL i).length c) ∧ Ptl w B (ct LL i).length (ct LL i)
theorem Ctl.nil (w : World) : Ctl w none 0 [] := ⟨rfl, fun i hi => by omega⟩
theorem Ctl.bel {w w' : World} {A : Option Addr} {m : Nat} {LL : List (List Pt)} (h : Ctl w A m LL) (hb : Below w.heap.size w w') : Ctl w' A m LL :=
  ⟨h.len, fun i hi => by
    obtain ⟨ad, B, c, h1, h2, h3, h4⟩ := h.get i hi
    exact ⟨ad, B, c, h1, Nat.lt_of_lt_of_le h2 hb.size, by rw [hb.cell (by rw [block_of_add]; exact h2)]; exact h3, h4.bel hb⟩⟩
/-- Contour i's cell, and its points, as the walk asks for them. -/
theorem Ctl.at_ {w : World} {A : Option Addr} {m : Nat} {LL : List (List Pt)} (h : Ctl w A m LL) {W : World} (hb : Below w.heap.size w W) {i : Nat} (hi : i < m) :
    ∃ ad B c, A = some ad ∧ W.cell? (ad.add i) = some (.slice B (ct LL i).length c) ∧ Ptl W B (ct LL i).length (ct LL i) := by
  obtain ⟨ad, B, c, h1, h2, h3, h4⟩ := h.get i hi
  exact ⟨ad, B, c, h1, by rw [hb.cell (by rw [block_of_add]; exact h2)]; exact h3, h4.bel hb⟩
def ptC (L : List Pt) : List Value := L.flatMap fun e => [.int .i64 e.1, .int .i64 e.2.1, .bool e.2.2]
theorem ptC_snoc (L : List Pt) (e : Pt) : ptC (L ++ [e]) = ptC L ++ [.int .i64 e.1, .int .i64 e.2.1, .bool e.2.2] := by simp [ptC]
theorem ptC_len : ∀ L : List Pt, (ptC L).length = L.length * 3
  | [] => rfl
  | t :: L => by
    have ih := ptC_len L
    have e : ptC (t :: L) = .int .i64 t.1 :: .int .i64 t.2.1 :: .bool t.2.2 :: ptC L := rfl
    rw [e]
    simp only [List.length_cons]
    omega
theorem ptC_get : ∀ (L : List Pt) (i : Nat), i < L.length → (ptC L)[i * 3]? = some (.int .i64 (px L i)) ∧ (ptC L)[i * 3 + 1]? = some (.int .i64 (py L i)) ∧ (ptC L)[i * 3 + 2]? = some (.bool (po L i))
  | t :: L, 0, _ => ⟨rfl, rfl, rfl⟩
  | t :: L, i + 1, h => by
    have ih := ptC_get L i (by simp at h; omega)
    have e : ptC (t :: L) = .int .i64 t.1 :: .int .i64 t.2.1 :: .bool t.2.2 :: ptC L := rfl
    rw [e, show (i + 1) * 3 = i * 3 + 3 by omega]
    exact ih
theorem own_ptl {w : World} {base T n c : Nat} {A : Option Addr} {L : List Pt} (h : w.ownsRow base T 3 (.slice A n c) n (ptC L)) (hn : L.length = n) : Ptl w A n L := by
  refine ⟨hn, fun i hi => ?_⟩
  obtain ⟨ad, h1, h2, h3⟩ := own_cell h (by omega)
  obtain ⟨g1, g2, g3⟩ := ptC_get L i (by omega)
  exact ⟨ad, h1, h2, h3 _ _ g1, h3 _ _ g2, h3 _ _ g3⟩
theorem Try.info3 : (Try.prog.info? 3).map (fun i => (i.zero, i.size, i.bytes)) = some (some (.int .i64 0), 1, 8) := by kernel_rfl
theorem Try.info95 : (Try.prog.info? 95).map (fun i => (i.zero, i.size, i.bytes)) = some (some (.int .u32 0), 1, 4) := by kernel_rfl
theorem Try.info47 : (Try.prog.info? 47).map (fun i => (i.zero, i.size, i.bytes)) = some (some (.slice none 0 0), 1, 24) := by kernel_rfl
theorem Try.info46 : (Try.prog.info? 46).map (fun i => (i.zero, i.size, i.bytes)) = some (some (.agg #[.int .i64 0, .int .i64 0, .bool false]), 3, 24) := by kernel_rfl
/-- How many points the first k contours have. -/
def tot (LL : List (List Pt)) : Nat → Nat
  | 0 => 0
  | k + 1 => tot LL k + (ct LL k).length
/-- May a point's x or y be so great? -/
def okU (x : Int) : Prop := -32767 ≤ x ∧ x ≤ 32767
instance (x : Int) : Decidable (okU x) := inferInstanceAs (Decidable (_ ∧ _))
def okP (L : List Pt) (j : Nat) : Prop := okU (px L j) ∧ okU (py L j)
instance (L : List Pt) (j : Nat) : Decidable (okP L j) := inferInstanceAs (Decidable (_ ∧ _))
def okC (LL : List (List Pt)) (i : Nat) : Prop := (1 ≤ (ct LL i).length ∧ tot LL (i + 1) ≤ 4096) ∧ ∀ j, j < (ct LL i).length → okP (ct LL i) j
instance (LL : List (List Pt)) (i : Nat) : Decidable (okC LL i) := inferInstanceAs (Decidable (_ ∧ _))
/-- May these be a glyph's contours? -/
def MayG (LL : List (List Pt)) : Prop := LL.length ≤ 256 ∧ ∀ i, i < LL.length → okC LL i
instance (LL : List (List Pt)) : Decidable (MayG LL) := inferInstanceAs (Decidable (_ ∧ _))
theorem all_succ {P : Nat → Prop} {k : Nat} (h : ∀ i, i < k → P i) (h1 : P k) : ∀ i, i < k + 1 → P i := by
  intro i hi
  rcases Nat.lt_or_ge i k with h2 | h2
  · exact h i h2
  · rw [show i = k by omega]; exact h1
end Go.Proofs.Ytlfnagfcggmeaaa
namespace Go.Proofs.Ytlfnagfcggmeaaa
open Go.RowKit

theorem unit_any (x : Int) (w : World) : Calls Try.prog 55 #[.int .i64 x] w fun e w' => e = .returned (.bool (decide (okU x))) ∧ w = w' := by
  by_cases h1 : -32767 ≤ x
  · by_cases h2 : x ≤ 32767
    · rw [decide_eq_true (show okU x from ⟨h1, h2⟩)]
      go_enter Try.func55, Try.ntmps55
      go_wp2_with fail
      go_ret
      exact ⟨rfl, rfl⟩
    · rw [decide_eq_false (fun h : okU x => h2 h.2)]
      go_enter Try.func55, Try.ntmps55
      go_wp2_with fail
      go_ret
      exact ⟨rfl, rfl⟩
  · rw [decide_eq_false (fun h : okU x => h1 h.1)]
    go_enter Try.func55, Try.ntmps55
    go_wp2_with fail
    go_ret
    exact ⟨rfl, rfl⟩
set_option maxHeartbeats 4000000 in
theorem may_any (A : Option Addr) (m c : Nat) (LL : List (List Pt)) (w : World) (hP : Ctl w A m LL) (hm : m ≤ 1000) (hl : ∀ i, i < m → (ct LL i).length ≤ 5000) :
    Calls Try.prog 39 #[.slice A m c] w fun e w' => e = .returned (.bool (decide (MayG LL))) ∧ Below w.heap.size w w' := by
  have hlen := hP.len
  by_cases h256 : 256 < m
  · rw [decide_eq_false (show ¬ MayG LL from fun h => by have := h.1; omega)]
    clear hlen hP hl
    go_enter Try.func39, Try.ntmps39
    go_wp2_with fail
    go_ret
    exact ⟨rfl, Below.refl _ _⟩
  · have HY := Lib.hid (show (∀ i, i < m → okC LL i) → decide (MayG LL) = true from fun h => decide_eq_true ⟨by omega, by rw [hlen]; exact h⟩)
    have HN := Lib.hid (show ∀ k, k < m → ¬ okC LL k → decide (MayG LL) = false from fun k hk h => decide_eq_false fun h2 => h (h2.2 k (by omega)))
    have HI := Lib.hid hP
    have HL := Lib.hid hl
    have CU := Lib.hid (fun x W => unit_any x W)
    clear hlen hP hl
    go_enter Try.func39, Try.ntmps39
    go_wp2_with fail
    go_loopw [3, 13] (fun v i wr => ∃ k : Nat, i = .int .i64 (k : Int) ∧ k ≤ m ∧ v = .int .i64 (tot LL k : Int) ∧ tot LL k ≤ 4096 ∧ (∀ i, i < k → okC LL i) ∧ Below w.heap.size w wr) (fun _ i _ => m - (intOf i).toNat)
    case atStart => exact ⟨0, rfl, Nat.zero_le _, rfl, by simp [tot], fun i hi => by omega, Below.refl _ _⟩
    case round =>
      obtain ⟨k, rfl, hk, rfl, ht, hok, hb⟩ := hrel
      have HB := Lib.hid hb
      have HOK := Lib.hid hok
      by_cases hgo : k < m
      · obtain ⟨a, B, c0, rfl, hc, hpt⟩ := HI.out.at_ hb hgo
        have HSU := Lib.hid (show okC LL k → ∀ i, i < k + 1 → okC LL i from all_succ hok)
        have HNK := Lib.hid (HN.out k hgo)
        have hn5 := HL.out k hgo
        have HO := Lib.hid (show okC LL k ↔ (1 ≤ (ct LL k).length ∧ tot LL k + (ct LL k).length ≤ 4096) ∧ ∀ j, j < (ct LL k).length → okP (ct LL k) j from Iff.rfl)
        have HT := Lib.hid (show tot LL (k + 1) = tot LL k + (ct LL k).length from rfl)
        obtain ⟨L, hL⟩ : ∃ L, L = ct LL k := ⟨_, rfl⟩
        rw [← hL] at hc hpt hn5 HO HT
        obtain ⟨n, hn⟩ : ∃ n, n = L.length := ⟨_, rfl⟩
        rw [← hn] at hc hpt hn5 HO HT
        obtain ⟨t, ht2⟩ : ∃ t, t = tot LL k := ⟨_, rfl⟩
        rw [← ht2] at ht HO HT ⊢
        have HPt := Lib.hid hpt
        have e1 : IntKind.i64.wrap ((t : Int) + (n : Int)) = ((t + n : Nat) : Int) := by rw [i64_in _ (by omega)]; omega
        obtain ⟨u, hu⟩ : ∃ u, u = t + n := ⟨_, rfl⟩
        rw [← hu] at e1 HO HT
        clear hb hok hpt hL hn ht2 hu ht
        by_cases hn0 : n = 0
        · have e2 : ((n : Int) == 0) = true := by simp [hn0]
          have HX := Lib.hid (HNK.out fun h => by have := HO.out.1 h; omega)
          clear hn0
          go_wp2_with fail
          go_ret
          exact ⟨by rw [HX.out]; rfl, HB.out⟩
        · have e2 : ((n : Int) == 0) = false := by simp [hn0]
          by_cases hu4 : 4096 < u
          · have HX := Lib.hid (HNK.out fun h => by have := HO.out.1 h; omega)
            clear hn0
            go_wp2_with fail
            go_ret
            exact ⟨by rw [HX.out]; rfl, HB.out⟩
          · have hn1 := Lib.hid (show 1 ≤ n ∧ u ≤ 4096 by omega)
            clear hn0
            go_wp2_with fail
            go_loopw [30] (fun v wi => ∃ j : Nat, v = .int .i64 (j : Int) ∧ j ≤ n ∧ (∀ i, i < j → okP L i) ∧ Below wr.heap.size wr wi) (fun v _ => n - (intOf v).toNat)
            case atStart => exact ⟨0, rfl, Nat.zero_le _, fun i hi => by omega, Below.refl _ _⟩
            case round =>
              obtain ⟨j, rfl, hj, hokj, hbi⟩ := hrel
              have HBi := Lib.hid (HB.out.trans (hbi.mono HB.out.size))
              have HBj := Lib.hid hbi
              have HOKj := Lib.hid hokj
              by_cases hgj : j < n
              · obtain ⟨b, rfl, d0, d1, d2⟩ := HPt.out.at_ hbi hgj
                have HSj := Lib.hid (show okP L j → ∀ i, i < j + 1 → okP L i from all_succ hokj)
                have HPj := Lib.hid (show okP L j ↔ okU (px L j) ∧ okU (py L j) from Iff.rfl)
                have HNj := Lib.hid (show ¬ okP L j → decide (MayG LL) = false from fun h => HNK.out fun h2 => h ((HO.out.1 h2).2 j hgj))
                obtain ⟨x, hx⟩ : ∃ x, x = px L j := ⟨_, rfl⟩
                obtain ⟨y, hy⟩ : ∃ y, y = py L j := ⟨_, rfl⟩
                obtain ⟨o, ho⟩ : ∃ o, o = po L j := ⟨_, rfl⟩
                rw [← hx] at d0 HPj
                rw [← hy] at d1 HPj
                rw [← ho] at d2
                clear hbi hokj hx hy ho
                by_cases hx1 : okU x
                · have CX := Lib.hid (fun W => CU.out x W)
                  rw [decide_eq_true hx1] at CX
                  by_cases hy1 : okU y
                  · have CY := Lib.hid (fun W => CU.out y W)
                    rw [decide_eq_true hy1] at CY
                    have HX := Lib.hid (HSj.out (HPj.out.2 ⟨hx1, hy1⟩))
                    clear hx1 hy1
                    go_wp2_with (first
                      | (go_at_call 55; (with_reducible refine (CX.out _).mono ?_); rintro e w1 ⟨rfl, rfl⟩)
                      | (go_at_call 55; (with_reducible refine (CY.out _).mono ?_); rintro e w1 ⟨rfl, rfl⟩))
                    exact ⟨⟨j + 1, by simp, by omega, HX.out, HBj.out.alloc HBj.out.size _⟩, by simp [intOf]; omega⟩
                  · have CY := Lib.hid (fun W => CU.out y W)
                    rw [decide_eq_false hy1] at CY
                    have HX := Lib.hid (HNj.out fun h => hy1 (HPj.out.1 h).2)
                    clear hx1 hy1
                    go_wp2_with (first
                      | (go_at_call 55; (with_reducible refine (CX.out _).mono ?_); rintro e w1 ⟨rfl, rfl⟩)
                      | (go_at_call 55; (with_reducible refine (CY.out _).mono ?_); rintro e w1 ⟨rfl, rfl⟩))
                    go_ret
                    exact ⟨by rw [HX.out]; rfl, HBi.out.alloc HBi.out.size _⟩
                · have CX := Lib.hid (fun W => CU.out x W)
                  rw [decide_eq_false hx1] at CX
                  have HX := Lib.hid (HNj.out fun h => hx1 (HPj.out.1 h).1)
                  clear hx1
                  go_wp2_with (go_at_call 55; (with_reducible refine (CX.out _).mono ?_); rintro e w1 ⟨rfl, rfl⟩)
                  go_ret
                  exact ⟨by rw [HX.out]; rfl, HBi.out.alloc HBi.out.size _⟩
              · obtain rfl : j = n := by omega
                have HX := Lib.hid (HSU.out (HO.out.2 ⟨hn1.out, hokj⟩))
                clear hbi hokj
                go_wp2_with fail
                exact ⟨⟨k + 1, by simp, by omega, by rw [HT.out], by rw [HT.out]; exact hn1.out.2, HX.out, HBi.out⟩, by simp [intOf]; omega⟩
      · obtain rfl : k = m := by omega
        have HX := Lib.hid (HY.out hok)
        clear hb hok
        go_wp2_with fail
        go_ret
        exact ⟨by rw [HX.out]; rfl, HB.out⟩
end Go.Proofs.Ytlfnagfcggmeaaa
namespace Go.Proofs.Ytlfnagfcggmeaaa
open Go.RowKit

set_option maxHeartbeats 4000000 in
theorem rmay_any (A : Option Addr) (m c : Nat) (LL : List (List Pt)) (w : World) (hP : Ctl w A m LL) (hm : m ≤ 1000) (hl : ∀ i, i < m → (ct LL i).length ≤ 5000) :
    Calls Try.prog 23 #[.slice A m c] w fun e w' => e = .returned (.bool (decide (MayG LL))) ∧ Below w.heap.size w w' := by
  have hlen := hP.len
  by_cases h256 : 256 < m
  · rw [decide_eq_false (show ¬ MayG LL from fun h => by have := h.1; omega)]
    clear hlen hP hl
    go_enter Try.func23, Try.ntmps23
    go_wp2_with fail
    go_ret
    exact ⟨rfl, Below.refl _ _⟩
  · have HY := Lib.hid (show (∀ i, i < m → okC LL i) → decide (MayG LL) = true from fun h => decide_eq_true ⟨by omega, by rw [hlen]; exact h⟩)
    have HN := Lib.hid (show ∀ k, k < m → ¬ okC LL k → decide (MayG LL) = false from fun k hk h => decide_eq_false fun h2 => h (h2.2 k (by omega)))
    have HI := Lib.hid hP
    have HL := Lib.hid hl
    clear hlen hP hl
    go_enter Try.func23, Try.ntmps23
    go_wp2_with fail
    go_loopw [3, 4] (fun v i wr => ∃ k : Nat, i = .int .i64 (k : Int) ∧ k ≤ m ∧ v = .int .i64 (tot LL k : Int) ∧ tot LL k ≤ 4096 ∧ (∀ i, i < k → okC LL i) ∧ Below w.heap.size w wr) (fun _ i _ => m - (intOf i).toNat)
    case atStart => exact ⟨0, rfl, Nat.zero_le _, rfl, by simp [tot], fun i hi => by omega, Below.refl _ _⟩
    case round =>
      obtain ⟨k, rfl, hk, rfl, ht, hok, hb⟩ := hrel
      have HB := Lib.hid hb
      have HOK := Lib.hid hok
      by_cases hgo : k < m
      · obtain ⟨a, B, c0, rfl, hc, hpt⟩ := HI.out.at_ hb hgo
        have HSU := Lib.hid (show okC LL k → ∀ i, i < k + 1 → okC LL i from all_succ hok)
        have HNK := Lib.hid (HN.out k hgo)
        have hn5 := HL.out k hgo
        have HO := Lib.hid (show okC LL k ↔ (1 ≤ (ct LL k).length ∧ tot LL k + (ct LL k).length ≤ 4096) ∧ ∀ j, j < (ct LL k).length → okP (ct LL k) j from Iff.rfl)
        have HT := Lib.hid (show tot LL (k + 1) = tot LL k + (ct LL k).length from rfl)
        have HC := Lib.hid (show ∀ W, Below wr.heap.size wr W → W.cell? (a.add k) = some (.slice B (ct LL k).length c0) from fun W hW => by
          obtain ⟨ad, B1, c1, e1, e2, e3, _⟩ := (HI.out.bel hb).get k hgo
          injection e1 with e1
          subst e1
          rw [hW.cell (by rw [block_of_add]; exact e2)]
          exact hc)
        obtain ⟨L, hL⟩ : ∃ L, L = ct LL k := ⟨_, rfl⟩
        rw [← hL] at hc hpt hn5 HO HT HC
        obtain ⟨n, hn⟩ : ∃ n, n = L.length := ⟨_, rfl⟩
        rw [← hn] at hc hpt hn5 HO HT HC
        obtain ⟨t, ht2⟩ : ∃ t, t = tot LL k := ⟨_, rfl⟩
        rw [← ht2] at ht HO HT ⊢
        have HPt := Lib.hid hpt
        have e1 : IntKind.i64.wrap ((t : Int) + (n : Int)) = ((t + n : Nat) : Int) := by rw [i64_in _ (by omega)]; omega
        obtain ⟨u, hu⟩ : ∃ u, u = t + n := ⟨_, rfl⟩
        have hun : n ≤ u := by omega
        rw [← hu] at e1 HO HT
        clear hb hok hpt hL hn ht2 hu ht
        by_cases hn0 : n = 0
        · have e2 : ((n : Int) == 0) = true := by simp [hn0]
          have HX := Lib.hid (HNK.out fun h => by have := HO.out.1 h; omega)
          clear hn0
          go_wp2_with fail
          go_ret
          exact ⟨by rw [HX.out]; rfl, HB.out⟩
        · have e2 : ((n : Int) == 0) = false := by simp [hn0]
          by_cases hn4 : 4096 < n
          · have HX := Lib.hid (HNK.out fun h => by have := HO.out.1 h; omega)
            clear hn0
            go_wp2_with fail
            go_ret
            exact ⟨by rw [HX.out]; rfl, HB.out⟩
          · by_cases hu4 : 4096 < u
            · have HX := Lib.hid (HNK.out fun h => by have := HO.out.1 h; omega)
              clear hn0
              go_wp2_with fail
              go_ret
              exact ⟨by rw [HX.out]; rfl, HB.out⟩
            · have hn1 := Lib.hid (show 1 ≤ n ∧ u ≤ 4096 by omega)
              clear hn0
              go_wp2_with fail
              clear hc
              go_loopw [5] (fun v wi => ∃ j : Nat, v = .int .i64 (j : Int) ∧ j ≤ n ∧ (∀ i, i < j → okP L i) ∧ Below wr.heap.size wr wi) (fun v _ => n - (intOf v).toNat)
              case atStart => exact ⟨0, rfl, Nat.zero_le _, fun i hi => by omega, Below.refl _ _⟩
              case round =>
                obtain ⟨j, rfl, hj, hokj, hbi⟩ := hrel
                have HBi := Lib.hid (HB.out.trans (hbi.mono HB.out.size))
                have HBj := Lib.hid hbi
                have HOKj := Lib.hid hokj
                have hc := HC.out _ hbi
                by_cases hgj : j < n
                · obtain ⟨b, rfl, d0, d1, d2⟩ := HPt.out.at_ hbi hgj
                  have HSj := Lib.hid (show okP L j → ∀ i, i < j + 1 → okP L i from all_succ hokj)
                  have HPj := Lib.hid (show okP L j ↔ (-32767 ≤ px L j ∧ px L j ≤ 32767) ∧ (-32767 ≤ py L j ∧ py L j ≤ 32767) from Iff.rfl)
                  have HNj := Lib.hid (show ¬ okP L j → decide (MayG LL) = false from fun h => HNK.out fun h2 => h ((HO.out.1 h2).2 j hgj))
                  obtain ⟨x, hx⟩ : ∃ x, x = px L j := ⟨_, rfl⟩
                  obtain ⟨y, hy⟩ : ∃ y, y = py L j := ⟨_, rfl⟩
                  obtain ⟨o, ho⟩ : ∃ o, o = po L j := ⟨_, rfl⟩
                  rw [← hx] at d0 HPj
                  rw [← hy] at d1 HPj
                  rw [← ho] at d2
                  clear hbi hokj hx hy ho
                  by_cases hx1 : x < -32767
                  · have HX := Lib.hid (HNj.out fun h => by have := HPj.out.1 h; omega)
                    go_wp2_with fail
                    go_ret
                    exact ⟨by rw [HX.out]; rfl, HBi.out.alloc HBi.out.size _⟩
                  · by_cases hx2 : 32767 < x
                    · have HX := Lib.hid (HNj.out fun h => by have := HPj.out.1 h; omega)
                      go_wp2_with fail
                      go_ret
                      exact ⟨by rw [HX.out]; rfl, HBi.out.alloc HBi.out.size _⟩
                    · by_cases hy1 : y < -32767
                      · have HX := Lib.hid (HNj.out fun h => by have := HPj.out.1 h; omega)
                        go_wp2_with fail
                        go_ret
                        exact ⟨by rw [HX.out]; rfl, HBi.out.alloc HBi.out.size _⟩
                      · by_cases hy2 : 32767 < y
                        · have HX := Lib.hid (HNj.out fun h => by have := HPj.out.1 h; omega)
                          go_wp2_with fail
                          go_ret
                          exact ⟨by rw [HX.out]; rfl, HBi.out.alloc HBi.out.size _⟩
                        · have HX := Lib.hid (HSj.out (HPj.out.2 (by omega)))
                          go_wp2_with fail
                          exact ⟨⟨j + 1, by simp, by omega, HX.out, HBj.out.alloc HBj.out.size _⟩, by simp [intOf]; omega⟩
                · obtain rfl : j = n := by omega
                  have HX := Lib.hid (HSU.out (HO.out.2 ⟨hn1.out, hokj⟩))
                  clear hbi hokj
                  go_wp2_with fail
                  exact ⟨⟨k + 1, by simp, by omega, by rw [HT.out], by rw [HT.out]; exact hn1.out.2, HX.out, HBi.out⟩, by simp [intOf]; omega⟩
      · obtain rfl : k = m := by omega
        have HX := Lib.hid (HY.out hok)
        clear hb hok
        go_wp2_with fail
        go_ret
        exact ⟨by rw [HX.out]; rfl, HB.out⟩
/-- Are there few contours, of few points each? -/
def FewG (LL : List (List Pt)) : Prop := (∀ i, i < LL.length → (ct LL i).length ≤ 100) ∧ LL.length ≤ 20
instance (LL : List (List Pt)) : Decidable (FewG LL) := inferInstanceAs (Decidable (_ ∧ _))
set_option maxHeartbeats 4000000 in
theorem same_any (A A' : Option Addr) (m c c' : Nat) (LL : List (List Pt)) (w : World) (h : Ctl w A m LL) (h' : Ctl w A' m LL) (hm : m ≤ 1000000) (hl : ∀ i, i < m → (ct LL i).length ≤ 1000000) :
    Calls Try.prog 12 #[.slice A m c, .slice A' m c'] w fun e w' => e = .returned (.bool true) ∧ Below w.heap.size w w' := by
  have H1 := Lib.hid h
  have H2 := Lib.hid h'
  have HL := Lib.hid hl
  clear h h' hl
  go_enter Try.func12, Try.ntmps12
  go_wp2_with fail
  go_loopw [5] (fun i wr => ∃ k : Nat, i = .int .i64 (k : Int) ∧ k ≤ m ∧ Below w.heap.size w wr) (fun i _ => m - (intOf i).toNat)
  case atStart => exact ⟨0, rfl, Nat.zero_le _, Below.refl _ _⟩
  case round =>
    obtain ⟨k, rfl, hk, hb⟩ := hrel
    have HB := Lib.hid hb
    by_cases hgo : k < m
    · obtain ⟨a, B, c0, rfl, hc, hpt⟩ := H1.out.at_ hb hgo
      obtain ⟨a', B', c0', rfl, hc', hpt'⟩ := H2.out.at_ hb hgo
      have HC := Lib.hid (show ∀ W, Below wr.heap.size wr W → W.cell? (a.add k) = some (.slice B (ct LL k).length c0) from fun W hW => by
        obtain ⟨ad, B1, c1, e1, e2, e3, _⟩ := (H1.out.bel hb).get k hgo
        injection e1 with e1
        subst e1
        rw [hW.cell (by rw [block_of_add]; exact e2)]
        exact hc)
      have HC' := Lib.hid (show ∀ W, Below wr.heap.size wr W → W.cell? (a'.add k) = some (.slice B' (ct LL k).length c0') from fun W hW => by
        obtain ⟨ad, B1, c1, e1, e2, e3, _⟩ := (H2.out.bel hb).get k hgo
        injection e1 with e1
        subst e1
        rw [hW.cell (by rw [block_of_add]; exact e2)]
        exact hc')
      have hn5 := HL.out k hgo
      obtain ⟨L, hL⟩ : ∃ L, L = ct LL k := ⟨_, rfl⟩
      rw [← hL] at hc hc' hpt hpt' hn5 HC HC'
      obtain ⟨n, hn⟩ : ∃ n, n = L.length := ⟨_, rfl⟩
      rw [← hn] at hc hc' hpt hpt' hn5 HC HC'
      have HP := Lib.hid hpt
      have HP' := Lib.hid hpt'
      clear hb hpt hpt' hL hn
      go_wp2_with fail
      go_quiet (fail)
      all_goals
        go_wp2_with fail
        clear hc hc'
        go_loopw [6] (fun v wi => ∃ j : Nat, v = .int .i64 (j : Int) ∧ j ≤ n ∧ Below wr.heap.size wr wi) (fun v _ => n - (intOf v).toNat)
        case atStart => exact ⟨0, rfl, Nat.zero_le _, below_drewN (Below.refl _ _) _⟩
        case round =>
          obtain ⟨j, rfl, hj, hbi⟩ := hrel
          have HBi := Lib.hid (HB.out.trans (hbi.mono HB.out.size))
          have HBj := Lib.hid hbi
          have hc := HC.out _ hbi
          have hc' := HC'.out _ hbi
          by_cases hgj : j < n
          · obtain ⟨b, rfl, d0, d1, d2⟩ := HP.out.at_ hbi hgj
            obtain ⟨b', rfl, d0', d1', d2'⟩ := HP'.out.at_ hbi hgj
            obtain ⟨x, hx⟩ : ∃ x, x = px L j := ⟨_, rfl⟩
            obtain ⟨y, hy⟩ : ∃ y, y = py L j := ⟨_, rfl⟩
            obtain ⟨o, ho⟩ : ∃ o, o = po L j := ⟨_, rfl⟩
            rw [← hx] at d0 d0'
            rw [← hy] at d1 d1'
            rw [← ho] at d2 d2'
            clear hbi hx hy ho
            go_wp2_with fail
            go_quiet (fail)
            all_goals
              go_wp2_with fail
              exact ⟨⟨j + 1, by simp, by omega, below_drewN HBj.out _⟩, by simp [intOf]; omega⟩
          · obtain rfl : j = n := by omega
            clear hbi
            go_wp2_with fail
            exact ⟨⟨k + 1, by simp, by omega, HBi.out⟩, by simp [intOf]; omega⟩
    · obtain rfl : k = m := by omega
      clear hb
      go_wp2_with fail
      go_ret
      exact ⟨rfl, HB.out⟩
end Go.Proofs.Ytlfnagfcggmeaaa
