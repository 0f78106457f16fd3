/- Proved here: what stands in memory while points are told: a row of flags, two builders, and two boxes. No condition. -/
import Derived.Test.YtfhaloclbbmbeaaGreatM43
namespace Go.Proofs.YtfhaloclbbmbeaaGreat
open Go.RowKit
structure TpS (w W : World) (b1 b2 g : Nat) (v : Value) (l0 l1 l2 : List UInt8) (r1 r2 : Option Nat) (ax ay : Int) (ao : Bool) : Prop where
  bel : Below w.heap.size w W
  row : W.ownsRow w.heap.size 5 1 v l0.length (Lib.byteCells l0)
  w1 : Bw w.heap.size b1 l1 r1 W
  w2 : Bw w.heap.size b2 l2 r2 W
  d1 : ∀ k, ¬ (v.ownBlock = some k ∧ r1 = some k)
  d2 : ∀ k, ¬ (v.ownBlock = some k ∧ r2 = some k)
  d3 : ∀ k, ¬ (r1 = some k ∧ r2 = some k)
  n : b1 ≠ b2
  og : w.heap.size ≤ g
  box : Pz W g ax ay ao
theorem row_kr {B b : Nat} {l l0 : List UInt8} {r : Option Nat} {v : Value} {W W' : World} (h : W.ownsRow B 5 1 v l0.length (Lib.byteCells l0)) (hb : Bw B b l r W) (hd : ∀ k, ¬ (v.ownBlock = some k ∧ r = some k)) (k : Kr b r W W') : W'.ownsRow B 5 1 v l0.length (Lib.byteCells l0) := by
  refine ⟨h.1, ?_⟩
  rcases h.2 with h0 | ⟨j, cap, cur, hv, hg, hh, rest⟩
  · exact .inl h0
  · refine .inr ⟨j, cap, cur, hv, hg, ?_, rest⟩
    rw [k j (heap_lt hh) (fun e => ?_) fun e => hd j ⟨by rw [hv]; rfl, e⟩]
    · exact hh
    · obtain ⟨p, v2, h3, _⟩ := hb.blk
      rw [← e, hh] at h3
      injection h3 with h3
      injection h3 with _ h3 _
      exact absurd h3 (by decide)
theorem Pz.kr {B b g : Nat} {l : List UInt8} {r : Option Nat} {x y : Int} {o : Bool} {W W' : World} (h : Pz W g x y o) (hb : Bw B b l r W) (k : Kr b r W W') : Pz W' g x y o := (k.keep hb h (by decide) (by decide)).trans h
theorem Bw.next {B b : Nat} {l : List UInt8} {r : Option Nat} {W W' : World} (h : Bw B b l r W) (hb : Below W.heap.size W W') : Bw B b l r W' :=
  h.of (hb.block _ h.lt) fun k hk => by obtain ⟨_, cs, fr, h3⟩ := h.row hk; exact hb.block k (heap_lt h3)
theorem Bw.grown {B b : Nat} {l : List UInt8} {r : Option Nat} {W W' : World} {v : Value} {n : Nat} {xs : List Value} (h : Bw B b l r W) (ho : W.ownsRow B 5 1 v n xs) (hd : ∀ k, ¬ (v.ownBlock = some k ∧ r = some k)) (hg : W.grownBy W' v.ownBlock) : Bw B b l r W' := by
  obtain ⟨p, v2, h1, _, _⟩ := h.blk
  refine h.of (hg.block b h.lt (own_not ho h1 (by decide))) fun k hk => ?_
  obtain ⟨_, cs, fr, h3⟩ := h.row hk
  exact hg.block k (heap_lt h3) fun e => hd k ⟨e.symm, hk⟩
section
variable {w W W' : World} {b1 b2 g : Nat} {v : Value} {l0 l1 l2 : List UInt8} {r1 r2 : Option Nat} {ax ay : Int} {ao : Bool}
theorem TpS.next (h : TpS w W b1 b2 g v l0 l1 l2 r1 r2 ax ay ao) (hb : Below W.heap.size W W') : TpS w W' b1 b2 g v l0 l1 l2 r1 r2 ax ay ao :=
  ⟨h.bel.trans (hb.mono h.bel.size), own_bel h.row hb, h.w1.next hb, h.w2.next hb, h.d1, h.d2, h.d3, h.n, h.og, h.box.bel hb⟩
theorem TpS.app (h : TpS w W b1 b2 g v l0 l1 l2 r1 r2 ax ay ao) {v' : Value} {f : Nat} (hf : f < 256) (ho : W'.ownsRow w.heap.size 5 1 v' (l0.length + 1) (Lib.byteCells l0 ++ [.int .u8 (f : Int)])) (hg : W.grownBy W' v.ownBlock) (hat : v'.ownBlock = v.ownBlock ∨ v'.ownBlock = some W.heap.size) :
    TpS w W' b1 b2 g v' (l0 ++ [UInt8.ofNat f]) l1 l2 r1 r2 ax ay ao := by
  have hne : ∀ {b : Nat} {l : List UInt8} {r : Option Nat}, Bw w.heap.size b l r W → (∀ k, ¬ (v.ownBlock = some k ∧ r = some k)) → ∀ k, ¬ (v'.ownBlock = some k ∧ r = some k) := by
    intro b l r hw hd k hk
    rcases hat with e | e
    · exact hd k ⟨e.symm.trans hk.1, hk.2⟩
    · obtain ⟨_, cs, fr, h3⟩ := hw.row hk.2
      have := heap_lt h3
      have e2 := e.symm.trans hk.1
      injection e2 with e2
      omega
  refine ⟨below_grown h.bel h.row hg, ?_, h.w1.grown h.row h.d1 hg, h.w2.grown h.row h.d2 hg, hne h.w1 h.d1, hne h.w2 h.d2, h.d3, h.n, h.og, (hg.block g h.box.lt (own_not h.row h.box (by decide))).trans h.box⟩
  have e1 : Lib.byteCells (l0 ++ [UInt8.ofNat f]) = Lib.byteCells l0 ++ [.int .u8 (f : Int)] := by
    rw [Lib.byteCells_append]
    congr 1
    simp only [Lib.byteCells, List.map_cons, List.map_nil, UInt8.toNat_ofNat']
    rw [Nat.mod_eq_of_lt (by omega)]
  rw [e1, List.length_append]
  exact ho
theorem TpS.put1 (h : TpS w W b1 b2 g v l0 l1 l2 r1 r2 ax ay ao) {l' : List UInt8} (h1 : ∃ r', Bw w.heap.size b1 l' r' W' ∧ (r' = r1 ∨ ∃ k, r' = some k ∧ W.heap.size ≤ k)) (hb : Below w.heap.size W W') (k : Kr b1 r1 W W') : ∃ r', TpS w W' b1 b2 g v l0 l' l2 r' r2 ax ay ao := by
  obtain ⟨r', h2, h3⟩ := h1
  refine ⟨r', h.bel.trans hb, row_kr h.row h.w1 h.d1 k, h2, h.w2.other h.w1 h.n.symm (fun k hk => h.d3 k ⟨hk.2, hk.1⟩) k, fun j hj => ?_, h.d2, fun j hj => ?_, h.n, h.og, h.box.kr h.w1 k⟩
  · rcases h3 with h3 | ⟨i, h3, h4⟩
    · exact h.d1 j ⟨hj.1, h3.symm.trans hj.2⟩
    · obtain ⟨_, cs, fr, h5⟩ := own_type h.row hj.1.symm
      have := heap_lt h5
      have e := h3.symm.trans hj.2
      injection e with e
      omega
  · rcases h3 with h3 | ⟨i, h3, h4⟩
    · exact h.d3 j ⟨h3.symm.trans hj.1, hj.2⟩
    · obtain ⟨_, cs, fr, h5⟩ := h.w2.row hj.2
      have := heap_lt h5
      have e := h3.symm.trans hj.1
      injection e with e
      omega
theorem TpS.put2 (h : TpS w W b1 b2 g v l0 l1 l2 r1 r2 ax ay ao) {l' : List UInt8} (h1 : ∃ r', Bw w.heap.size b2 l' r' W' ∧ (r' = r2 ∨ ∃ k, r' = some k ∧ W.heap.size ≤ k)) (hb : Below w.heap.size W W') (k : Kr b2 r2 W W') : ∃ r', TpS w W' b1 b2 g v l0 l1 l' r1 r' ax ay ao := by
  obtain ⟨r', h2, h3⟩ := h1
  refine ⟨r', h.bel.trans hb, row_kr h.row h.w2 h.d2 k, h.w1.other h.w2 h.n (fun k hk => h.d3 k ⟨hk.1, hk.2⟩) k, h2, h.d1, fun j hj => ?_, fun j hj => ?_, h.n, h.og, h.box.kr h.w2 k⟩
  · rcases h3 with h3 | ⟨i, h3, h4⟩
    · exact h.d2 j ⟨hj.1, h3.symm.trans hj.2⟩
    · obtain ⟨_, cs, fr, h5⟩ := own_type h.row hj.1.symm
      have := heap_lt h5
      have e := h3.symm.trans hj.2
      injection e with e
      omega
  · rcases h3 with h3 | ⟨i, h3, h4⟩
    · exact h.d3 j ⟨hj.1, h3.symm.trans hj.2⟩
    · obtain ⟨_, cs, fr, h5⟩ := h.w1.row hj.1
      have := heap_lt h5
      have e := h3.symm.trans hj.2
      injection e with e
      omega
theorem Bw.far {B b : Nat} {l : List UInt8} {r : Option Nat} {x y : Int} {o : Bool} (h : Bw B b l r W) (hg : Pz W g x y o) (j : Nat) (u : Value) : Bw B b l r (W.setCell ⟨g, j, none⟩ u) := by
  obtain ⟨p, v2, h1, _, _⟩ := h.blk
  refine h.of (Below.heap_setCell W ⟨g, j, none⟩ u b (fun e => ?_)) fun k hk => Below.heap_setCell W ⟨g, j, none⟩ u k (fun e => ?_)
  · have h2 : W.heap[g]? = _ := hg
    have e : b = g := e
    rw [← e, h1] at h2
    injection h2 with h2
    injection h2 with _ h2 _
    exact absurd h2 (by decide)
  · obtain ⟨_, cs, fr, h3⟩ := h.row hk
    have h2 : W.heap[g]? = _ := hg
    have e : k = g := e
    rw [← e, h3] at h2
    injection h2 with h2
    injection h2 with _ h2 _
    exact absurd h2 (by decide)
theorem row_far {B : Nat} {x y : Int} {o : Bool} (h : W.ownsRow B 5 1 v l0.length (Lib.byteCells l0)) (hg : Pz W g x y o) (j : Nat) (u : Value) : (W.setCell ⟨g, j, none⟩ u).ownsRow B 5 1 v l0.length (Lib.byteCells l0) := by
  refine ⟨h.1, ?_⟩
  rcases h.2 with h0 | ⟨k, cap, cur, hv, hg2, hh, rest⟩
  · exact .inl h0
  · refine .inr ⟨k, cap, cur, hv, hg2, ?_, rest⟩
    rw [Below.heap_setCell W ⟨g, j, none⟩ u k (fun e => ?_)]
    · exact hh
    · have h2 : W.heap[g]? = _ := hg
      have e : k = g := e
      rw [← e, hh] at h2
      injection h2 with h2
      injection h2 with _ h2 _
      exact absurd h2 (by decide)
theorem TpS.set0 (h : TpS w W b1 b2 g v l0 l1 l2 r1 r2 ax ay ao) (x : Int) : TpS w (W.setCell ⟨g, 0, none⟩ (.int .i64 x)) b1 b2 g v l0 l1 l2 r1 r2 x ay ao :=
  ⟨below_set h.bel h.og, row_far h.row h.box _ _, h.w1.far h.box _ _, h.w2.far h.box _ _, h.d1, h.d2, h.d3, h.n, h.og, h.box.set0 x⟩
theorem TpS.set1 (h : TpS w W b1 b2 g v l0 l1 l2 r1 r2 ax ay ao) (y : Int) : TpS w (W.setCell ⟨g, 1, none⟩ (.int .i64 y)) b1 b2 g v l0 l1 l2 r1 r2 ax y ao :=
  ⟨below_set h.bel h.og, row_far h.row h.box _ _, h.w1.far h.box _ _, h.w2.far h.box _ _, h.d1, h.d2, h.d3, h.n, h.og, h.box.set1 y⟩
theorem TpS.set2 (h : TpS w W b1 b2 g v l0 l1 l2 r1 r2 ax ay ao) (o : Bool) : TpS w (W.setCell ⟨g, 2, none⟩ (.bool o)) b1 b2 g v l0 l1 l2 r1 r2 ax ay o :=
  ⟨below_set h.bel h.og, row_far h.row h.box _ _, h.w1.far h.box _ _, h.w2.far h.box _ _, h.d1, h.d2, h.d3, h.n, h.og, h.box.set2 o⟩
end
theorem TpS.new (w : World) : TpS w (((w.alloc (.cells #[.pointer none, .slice none 0 0] 173)).alloc (.cells #[.pointer none, .slice none 0 0] 173)).alloc (.cells #[.int .i64 0, .int .i64 0, .bool false] 75)) w.heap.size (w.heap.size + 1) (w.heap.size + 2) (.slice none 0 0) [] [] [] none none 0 0 false := by
  have e1 := Bw.new w w.heap.size (Nat.le_refl _)
  have e2 := Bw.new (w.alloc (.cells #[.pointer none, .slice none 0 0] 173)) w.heap.size (by simp)
  have e2' : Bw w.heap.size (w.heap.size + 1) [] none ((w.alloc (.cells #[.pointer none, .slice none 0 0] 173)).alloc (.cells #[.pointer none, .slice none 0 0] 173)) := by simpa using e2
  have e3 := Pz.new ((w.alloc (.cells #[.pointer none, .slice none 0 0] 173)).alloc (.cells #[.pointer none, .slice none 0 0] 173)) 0 0 false
  refine ⟨(((Below.refl _ _).alloc (Nat.le_refl _) _).alloc (by simp) _).alloc (by simp; omega) _, World.ownsRow_nil _ _ _ _, (e1.next ((Below.refl _ _).alloc (Nat.le_refl _) _)).next ((Below.refl _ _).alloc (Nat.le_refl _) _), e2'.next ((Below.refl _ _).alloc (Nat.le_refl _) _), fun k hk => ?_, fun k hk => ?_, fun k hk => ?_, by omega, by omega, by simpa using e3⟩
  · cases hk.2
  · cases hk.2
  · cases hk.2
structure TqS (w W : World) (b1 b2 g b3 : Nat) (v : Value) (l0 l1 l2 : List UInt8) (r1 r2 : Option Nat) (ax ay : Int) (ao : Bool) (x y : Int) (o : Bool) : Prop where
  s : TpS w W b1 b2 g v l0 l1 l2 r1 r2 ax ay ao
  pz : Pz W b3 x y o
  ne : g ≠ b3
section
variable {w W W' : World} {b1 b2 g b3 : Nat} {v : Value} {l0 l1 l2 : List UInt8} {r1 r2 : Option Nat} {ax ay x y : Int} {ao o : Bool}
theorem TqS.next (h : TqS w W b1 b2 g b3 v l0 l1 l2 r1 r2 ax ay ao x y o) (hb : Below W.heap.size W W') : TqS w W' b1 b2 g b3 v l0 l1 l2 r1 r2 ax ay ao x y o := ⟨h.s.next hb, h.pz.bel hb, h.ne⟩
theorem TqS.app (h : TqS w W b1 b2 g b3 v l0 l1 l2 r1 r2 ax ay ao x y o) {v' : Value} {f : Nat} (hf : f < 256) (ho : W'.ownsRow w.heap.size 5 1 v' (l0.length + 1) (Lib.byteCells l0 ++ [.int .u8 (f : Int)])) (hg : W.grownBy W' v.ownBlock) (hat : v'.ownBlock = v.ownBlock ∨ v'.ownBlock = some W.heap.size) :
    TqS w W' b1 b2 g b3 v' (l0 ++ [UInt8.ofNat f]) l1 l2 r1 r2 ax ay ao x y o := ⟨h.s.app hf ho hg hat, (hg.block b3 h.pz.lt (own_not h.s.row h.pz (by decide))).trans h.pz, h.ne⟩
theorem TqS.put1 (h : TqS w W b1 b2 g b3 v l0 l1 l2 r1 r2 ax ay ao x y o) {l' : List UInt8} (h1 : ∃ r', Bw w.heap.size b1 l' r' W' ∧ (r' = r1 ∨ ∃ k, r' = some k ∧ W.heap.size ≤ k)) (hb : Below w.heap.size W W') (k : Kr b1 r1 W W') : ∃ r', TqS w W' b1 b2 g b3 v l0 l' l2 r' r2 ax ay ao x y o := by
  obtain ⟨r', h2⟩ := h.s.put1 h1 hb k
  exact ⟨r', h2, h.pz.kr h.s.w1 k, h.ne⟩
theorem TqS.put2 (h : TqS w W b1 b2 g b3 v l0 l1 l2 r1 r2 ax ay ao x y o) {l' : List UInt8} (h1 : ∃ r', Bw w.heap.size b2 l' r' W' ∧ (r' = r2 ∨ ∃ k, r' = some k ∧ W.heap.size ≤ k)) (hb : Below w.heap.size W W') (k : Kr b2 r2 W W') : ∃ r', TqS w W' b1 b2 g b3 v l0 l1 l' r1 r' ax ay ao x y o := by
  obtain ⟨r', h2⟩ := h.s.put2 h1 hb k
  exact ⟨r', h2, h.pz.kr h.s.w2 k, h.ne⟩
theorem TpS.box3 (h : TpS w W b1 b2 g v l0 l1 l2 r1 r2 ax ay ao) (x y : Int) (o : Bool) : TqS w (W.alloc (.cells #[.int .i64 x, .int .i64 y, .bool o] 75)) b1 b2 g W.heap.size v l0 l1 l2 r1 r2 ax ay ao x y o :=
  ⟨h.next ((Below.refl _ _).alloc (Nat.le_refl _) _), Pz.new W x y o, Nat.ne_of_lt h.box.lt⟩
theorem TqS.set (h : TqS w W b1 b2 g b3 v l0 l1 l2 r1 r2 ax ay ao x y o) : TpS w (((W.setCell ⟨g, 0, none⟩ (.int .i64 x)).setCell ⟨g, 1, none⟩ (.int .i64 y)).setCell ⟨g, 2, none⟩ (.bool o)) b1 b2 g v l0 l1 l2 r1 r2 x y o :=
  ((h.s.set0 x).set1 y).set2 o
end
structure Tp2 (w W : World) (b2 : Nat) (v : Value) (l0 l2 : List UInt8) (r2 : Option Nat) : Prop where
  bel : Below w.heap.size w W
  row : W.ownsRow w.heap.size 5 1 v l0.length (Lib.byteCells l0)
  w2 : Bw w.heap.size b2 l2 r2 W
  d2 : ∀ k, ¬ (v.ownBlock = some k ∧ r2 = some k)
structure Tp1 (w W : World) (v : Value) (l0 : List UInt8) : Prop where
  bel : Below w.heap.size w W
  row : W.ownsRow w.heap.size 5 1 v l0.length (Lib.byteCells l0)
section
variable {w W W' : World} {b1 b2 g : Nat} {v : Value} {l0 l1 l2 : List UInt8} {r1 r2 : Option Nat} {ax ay : Int} {ao : Bool}
theorem TpS.two (h : TpS w W b1 b2 g v l0 l1 l2 r1 r2 ax ay ao) (hb : Below w.heap.size W W') (k : Kr b1 r1 W W') : Tp2 w W' b2 v l0 l2 r2 :=
  ⟨h.bel.trans hb, row_kr h.row h.w1 h.d1 k, h.w2.other h.w1 h.n.symm (fun k hk => h.d3 k ⟨hk.2, hk.1⟩) k, h.d2⟩
theorem Tp2.next (h : Tp2 w W b2 v l0 l2 r2) (hb : Below W.heap.size W W') : Tp2 w W' b2 v l0 l2 r2 := ⟨h.bel.trans (hb.mono h.bel.size), own_bel h.row hb, h.w2.next hb, h.d2⟩
theorem Tp2.one (h : Tp2 w W b2 v l0 l2 r2) (hb : Below w.heap.size W W') (k : Kr b2 r2 W W') : Tp1 w W' v l0 := ⟨h.bel.trans hb, row_kr h.row h.w2 h.d2 k⟩
theorem Tp1.next (h : Tp1 w W v l0) (hb : Below W.heap.size W W') : Tp1 w W' v l0 := ⟨h.bel.trans (hb.mono h.bel.size), own_bel h.row hb⟩
theorem row_conv {B : Nat} (h : W.ownsRow B 5 1 v l0.length (Lib.byteCells l0)) (h0 : 0 < l0.length) : (convert 166 9 v).run Tryz.prog W = .ok (.string ⟨l0.toArray⟩) W := by
  rcases h.2 with ⟨_, hz⟩ | ⟨j, cap, cur, hv, hg, hh, rest⟩
  · omega
  · subst hv
    refine run_convert_bytes_back _ 166 9 5 _ _ l0 Tryz.underlying166 Tryz.underlying5 Tryz.underlying9 fun i hi => ?_
    rw [h.cells (g := j) rfl i (.int .u8 (l0[i].toNat : Int)) (by simp [Lib.byteCells, hi])]
end
end Go.Proofs.YtfhaloclbbmbeaaGreat
