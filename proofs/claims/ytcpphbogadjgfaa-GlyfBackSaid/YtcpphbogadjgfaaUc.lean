/- Proved here: what stands in memory while the document's contours are put together; its last loops' steps. No condition. -/
import Derived.Test.YtcpphbogadjgfaaUb
import Derived.Test.YtcpphbogadjgfaaTi
namespace Go.Proofs.Ytcpphbogadjgfaa
open Go.RowKit

/-- A row of points, if it is anywhere. -/
def T39 (W : World) (B : Option Addr) : Prop := ∀ ad, B = some ad → ∃ cs fr, W.heap[ad.block]? = some (.cells cs 39 fr)
/-- k contours, each in a row of its own. -/
structure Fo (W : World) (k : Nat) (C : Nat → List Pt) (cs : List Value) : Prop where
  len : cs.length = k
  get : ∀ i, i < k → ∃ B c, cs[i]? = some (.slice B (C i).length c) ∧ Ptl W B (C i).length (C i) ∧ T39 W B
section
variable {W W' : World} {k : Nat} {C : Nat → List Pt} {cs : List Value}
theorem T39.next {B : Option Addr} (h : T39 W B) (hb : Below W.heap.size W W') : T39 W' B := fun ad e => by
  obtain ⟨c, fr, h1⟩ := h ad e
  exact ⟨c, fr, (hb.block _ (heap_lt h1)).trans h1⟩
theorem T39.grown {B : Option Addr} {base n : Nat} {v : Value} {xs : List Value} (h : T39 W B) (ho : W.ownsRow base 36 1 v n xs) (hg : W.grownBy W' v.ownBlock) : T39 W' B := fun ad e => by
  obtain ⟨c, fr, h1⟩ := h ad e
  exact ⟨c, fr, (hg.block _ (heap_lt h1) (own_not ho h1 (by decide))).trans h1⟩
theorem Ptl.grown {B : Option Addr} {m base n : Nat} {P : List Pt} {v : Value} {xs : List Value} (h : Ptl W B m P) (ht : T39 W B) (ho : W.ownsRow base 36 1 v n xs) (hg : W.grownBy W' v.ownBlock) : Ptl W' B m P :=
  ⟨h.len, fun i hi => by
    obtain ⟨ad, h1, h2, h3, h4, h5⟩ := h.get i hi
    obtain ⟨c, fr, h6⟩ := ht ad h1
    have hb : ∀ j, W'.cell? (ad.add j) = W.cell? (ad.add j) := fun j => World.cell?_of_block (by rw [block_of_add]; exact hg.block _ h2 (own_not ho h6 (by decide)))
    exact ⟨ad, h1, Nat.lt_of_lt_of_le h2 hg.size, by rw [hb]; exact h3, by rw [hb]; exact h4, by rw [hb]; exact h5⟩⟩
theorem Fo.next (f : Fo W k C cs) (hb : Below W.heap.size W W') : Fo W' k C cs := ⟨f.len, fun i hi => by
  obtain ⟨B, c, h1, h2, h3⟩ := f.get i hi
  exact ⟨B, c, h1, h2.bel hb, h3.next hb⟩⟩
theorem Fo.grown {base n : Nat} {v : Value} {xs : List Value} (f : Fo W k C cs) (ho : W.ownsRow base 36 1 v n xs) (hg : W.grownBy W' v.ownBlock) : Fo W' k C cs := ⟨f.len, fun i hi => by
  obtain ⟨B, c, h1, h2, h3⟩ := f.get i hi
  exact ⟨B, c, h1, h2.grown h3 ho hg, h3.grown ho hg⟩⟩
theorem Fo.snoc (f : Fo W k C cs) {B : Option Addr} {c d : Nat} (hd : (C k).length = d) (hp : Ptl W B d (C k)) (ht : T39 W B) : Fo W (k + 1) C (cs ++ [.slice B d c]) := by
  refine ⟨by rw [List.length_append, f.len]; rfl, fun i hi => ?_⟩
  rcases Nat.lt_or_ge i k with h | h
  · obtain ⟨B', c', h1, h2, h3⟩ := f.get i h
    exact ⟨B', c', by rw [List.getElem?_append_left (by rw [f.len]; exact h)]; exact h1, h2, h3⟩
  · have : i = k := by omega
    subst this
    exact ⟨B, c, by rw [List.getElem?_append_right (by rw [f.len]; exact Nat.le_refl _), f.len, Nat.sub_self, hd]; rfl, by rw [hd]; exact hp, ht⟩
end
theorem own_t39 {w : World} {base size n c : Nat} {A : Option Addr} {xs : List Value} (h : w.ownsRow base 39 size (.slice A n c) n xs) : T39 w A := by
  intro ad hA
  subst hA
  rcases h.2 with ⟨h1, h2⟩ | ⟨j, cap, cur, h1, h3, h4, h5⟩
  · injection h1 with e1; cases e1
  · injection h1 with e1 e2 e3
    injection e1 with e1
    rw [e1]
    exact ⟨cur, _, h4⟩
/-- The contours so far. -/
structure OuS (w W : World) (v : Value) (i : Nat) (C : Nat → List Pt) (cs : List Value) : Prop where
  bel : Below w.heap.size w W
  own : W.ownsRow w.heap.size 36 1 v i cs
  fo : Fo W i C cs
section
variable {w W W' : World} {v : Value} {i : Nat} {C : Nat → List Pt} {cs : List Value}
theorem OuS.start (w : World) (C : Nat → List Pt) : OuS w w (.slice none 0 0) 0 C [] := ⟨Below.refl _ _, World.ownsRow_nil _ _ _ _, ⟨rfl, fun i hi => by omega⟩⟩
theorem OuS.next (h : OuS w W v i C cs) (hb : Below W.heap.size W W') : OuS w W' v i C cs := ⟨h.bel.trans (hb.mono h.bel.size), own_bel h.own hb, h.fo.next hb⟩
theorem OuS.push (h : OuS w W v i C cs) {v' : Value} {B : Option Addr} {c d : Nat} (hd : (C i).length = d) (hp : Ptl W B d (C i)) (ht : T39 W B) (ho : W'.ownsRow w.heap.size 36 1 v' (i + 1) (cs ++ [.slice B d c])) (hg : W.grownBy W' v.ownBlock) : OuS w W' v' (i + 1) C (cs ++ [.slice B d c]) :=
  ⟨below_grown h.bel h.own hg, ho, (h.fo.grown h.own hg).snoc hd (hp.grown ht h.own hg) (ht.grown h.own hg)⟩
theorem OuS.ctl {A : Option Addr} {c : Nat} (h : OuS w W (.slice A i c) i C cs) : Ctl W A i ((List.range i).map C) :=
  ⟨by simp, fun j hj => by
    obtain ⟨ad, h1, h2, h3⟩ := own_cell h.own (by omega)
    obtain ⟨B, c', h4, h5, _⟩ := h.fo.get j hj
    rw [ct_gen hj]
    exact ⟨ad, B, c', h1, h2, h3 _ _ h4, h5⟩⟩
end
/-- The points of a contour so far. -/
structure RpS (w W : World) (v : Value) (n : Nat) (R : List Pt) : Prop where
  bel : Below w.heap.size w W
  own : W.ownsRow w.heap.size 39 3 v n (ptC R)
section
variable {w W W' : World} {v : Value} {n : Nat} {R : List Pt}
theorem RpS.start (w : World) : RpS w w (.slice none 0 0) 0 [] := ⟨Below.refl _ _, World.ownsRow_nil _ _ _ _⟩
theorem RpS.next (h : RpS w W v n R) (hb : Below W.heap.size W W') : RpS w W' v n R := ⟨h.bel.trans (hb.mono h.bel.size), own_bel h.own hb⟩
theorem RpS.push (h : RpS w W v n R) {v' : Value} {e : Pt} (ho : W'.ownsRow w.heap.size 39 3 v' (n + 1) (ptC R ++ [.int .i64 e.1, .int .i64 e.2.1, .bool e.2.2])) (hg : W.grownBy W' v.ownBlock) : RpS w W' v' (n + 1) (R ++ [e]) :=
  ⟨below_grown h.bel h.own hg, by rw [ptC_snoc]; exact ho⟩
end
/-- A point is appended, at a step of a region that draws its order. -/
theorem step_pt0 {ops : Array Oper} {o : Oper} {a : Act} {K : Act → World → Prop} {Q : Exit → Act → World → Prop} {E0 : Prop} {wr : World} (hgd : o.guard = none) (s x : Operand)
    (ho : o.op = .call { callee := .builtin .append, args := #[s, x], argTypes := #[36, 36] }) (w : World) (v : Value) (n : Nat) (R : List Pt) (e1 e2 : Int) (e3 : Bool) (hs : a.eval s = v)
    (hown : RpS w wr v n R) (hn : n ≤ 1000000) (hx : a.eval x = .slice (some ⟨wr.heap.size, 0, none⟩) 1 1)
    (h : ∀ A c w', RpS w w' (.slice A (n + 1) c) (n + 1) (R ++ [(e1, e2, e3)]) → K (a.put o.dst (.slice A (n + 1) c)) w') :
    if Region.wanted o (yielded ops a.tmps) = true then Oper.wp Try.prog o a (wr.alloc (.cells #[.int .i64 e1, .int .i64 e2, .bool e3] 39)) K Q else E0 := by
  have hw : Region.wanted o (yielded ops a.tmps) = true := by simp [Region.wanted, hgd]
  rw [if_pos hw]
  obtain ⟨i0, hi0, hz0, hz1, hz2⟩ := info_parts Try.info39
  have hA := hown.next ((Below.refl wr.heap.size wr).alloc (Nat.le_refl _) (.cells #[.int .i64 e1, .int .i64 e2, .bool e3] 39))
  refine wp_append_own _ s x 36 ho w.heap.size 39 i0 _ 3 24 Try.underlying36 hi0 hz0 hz1 hz2 rfl (by decide) v n (ptC R) hs hA.own ⟨wr.heap.size, 0, none⟩ 1 1 [.int .i64 e1, .int .i64 e2, .bool e3] hx rfl (cells_new _ _ _) (by intro u hu; simp at hu; rcases hu with rfl | rfl | rfl <;> rfl) ?_ ?_ ?_ ?_
  · unfold maxLen; omega
  · omega
  · exact hA.bel.size
  · intro v' w' h1 h2 _
    have h3 := hA.push (e := (e1, e2, e3)) h1 h2
    obtain ⟨A, c, rfl⟩ := own_form h1
    exact h A c w' h3
theorem step_pt {ops : Array Oper} {o : Oper} {a : Act} {K : Act → World → Prop} {Q : Exit → Act → World → Prop} {E0 : Prop} {wr : World} (hgd : o.guard = none) (s x : Operand)
    (ho : o.op = .call { callee := .builtin .append, args := #[s, x], argTypes := #[36, 36] }) (w : World) (v : Value) (n : Nat) (R : List Pt) (e1 e2 : Int) (e3 : Bool) (hs : a.eval s = v)
    (hown : RpS w wr v n R) (hn : n ≤ 1000000) (hx : a.eval x = .slice (some ⟨wr.heap.size, 0, none⟩) 1 1)
    (h : ∀ A c w', RpS w w' (.slice A (n + 1) c) (n + 1) (R ++ [(e1, e2, e3)]) → K (a.put o.dst (.slice A (n + 1) c)) w') :
    if Region.wanted o (yielded ops a.tmps) = true then Oper.wp Try.prog o a (wr.alloc (.cells #[.int .i64 e1, .int .i64 e2, .bool e3] 39)).drew K Q else E0 :=
  step_pt0 (wr := wr.drew) hgd s x ho w v n R e1 e2 e3 hs (hown.next (Below.drew (Below.refl _ _))) hn hx h
end Go.Proofs.Ytcpphbogadjgfaa
