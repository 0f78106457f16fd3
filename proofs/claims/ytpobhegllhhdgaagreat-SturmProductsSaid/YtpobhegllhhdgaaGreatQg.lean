/- Proved here: what package poly's divide answers and leaves in memory. Condition: a polynomial of at most 100 numbers of at most 50000 digits, in its one form and not 0, that lies in memory, and a fraction that may be. -/
import Derived.Test.YtpobhegllhhdgaaGreatQf
namespace Go.Proofs.YtpobhegllhhdgaaGreat
open Go.RowKit

/-- What stands in memory in a round of divide: the fraction, its upper number, what is made, what is carried. -/
structure DvH (w W : World) (n d : Int) (gn go gc : Nat) (cur : List Int) (cy : Int) (lo lc : Nat) (bn : Bool) (vn : Value) (bc : Bool) (vc : Value) : Prop where
  bel : Below w.heap.size w W
  x : Rt W w.heap.size n d
  N : Bx 60 W gn bn vn
  O : Ob .c 60 W go cur lo
  C : Bx 60 W gc bc vc
  en : El .c W (.agg #[.bool bn, vn]) n 2
  ec : El .c W (.agg #[.bool bc, vc]) cy lc
  ne : w.heap.size < gn ∧ w.heap.size < go ∧ w.heap.size < gc ∧ gn ≠ go ∧ gn ≠ gc ∧ go ≠ gc
section
variable {w W W' : World} {n d cy : Int} {gn go gc lo lc : Nat} {cur : List Int} {bn bc : Bool} {vn vc : Value}
theorem DvH.next (h : DvH w W n d gn go gc cur cy lo lc bn vn bc vc) (hb : Below W.heap.size W W') : DvH w W' n d gn go gc cur cy lo lc bn vn bc vc :=
  ⟨bel_tr h.bel hb, h.x.below hb h.x.lt, h.N.bel hb, h.O.bel hb, h.C.bel hb, h.en.bel hb, h.ec.bel hb, h.ne⟩
theorem DvH.drew (h : DvH w W n d gn go gc cur cy lo lc bn vn bc vc) : DvH w W.drew n d gn go gc cur cy lo lc bn vn bc vc := h.next ((Below.refl _ _).drew)
theorem DvH.facts (h : DvH w W n d gn go gc cur cy lo lc bn vn bc vc) : W.cell? ⟨gn, 0, none⟩ = some (.bool bn) ∧ W.cell? ⟨gn, 1, none⟩ = some vn ∧ W.cell? ⟨gc, 0, none⟩ = some (.bool bc) ∧ W.cell? ⟨gc, 1, none⟩ = some vc ∧ W.cell? ⟨w.heap.size, 0, none⟩ = some (.int .i64 n) ∧ W.cell? ⟨w.heap.size, 1, none⟩ = some (.int .i64 d) ∧
    W.frozen? ⟨gc, 0, none⟩ = false ∧ W.frozen? ⟨gc, 1, none⟩ = false := ⟨h.N.c0, h.N.c1, h.C.c0, h.C.c1, h.x.c0, h.x.c1, h.C.fr 0, h.C.fr 1⟩
theorem DvH.le {lo' lc' : Nat} (h : DvH w W n d gn go gc cur cy lo lc bn vn bc vc) (h1 : lo ≤ lo') (h2 : lc ≤ lc') : DvH w W n d gn go gc cur cy lo' lc' bn vn bc vc :=
  ⟨h.bel, h.x, h.N, h.O.le h1, h.C, h.en, h.ec.le h2, h.ne⟩
theorem NoInt.rt {w : World} {g p : Nat} {n d : Int} (h : NoInt w p) (hx : Rt w g n d) : g ≠ p := by
  rintro rfl
  exact h ⟨g, 0, none⟩ _ _ rfl hx.c0
/-- A number is stored into a box of which none of these is. -/
theorem DvH.box {g : Nat} {b0 b : Bool} {B0 B : Option Addr} {i0 j0 i j : Nat} (h : DvH w W n d gn go gc cur cy lo lc bn vn bc vc) (hg : Bx 60 W g b0 (.slice B0 i0 j0)) (h1 : w.heap.size < g) (h2 : g ≠ gn) (h3 : g ≠ go) (h4 : g ≠ gc) :
    DvH w ((W.setCell ⟨g, 0, none⟩ (.bool b)).setCell ⟨g, 1, none⟩ (.slice B i j)) n d gn go gc cur cy lo lc bn vn bc vc := by
  have e : ∀ k, k ≠ g → ((W.setCell ⟨g, 0, none⟩ (.bool b)).setCell ⟨g, 1, none⟩ (.slice B i j)).heap[k]? = W.heap[k]? := fun k hk => (Below.heap_setCell _ ⟨g, 1, none⟩ _ k hk).trans (Below.heap_setCell _ ⟨g, 0, none⟩ _ k hk)
  obtain ⟨cells, hc, hr⟩ := h.O
  exact ⟨bel_set (bel_set h.bel (by omega) _ _) (by omega) _ _, (e _ (by omega)).trans h.x, h.N.two (Ne.symm h2) _ _ _ _, ⟨cells, (e _ (Ne.symm h3)).trans hc, (hr.store hg.noint _ _).store (hg.noint.set _ (by intro k z h; cases h)) _ _⟩, h.C.two (Ne.symm h4) _ _ _ _, h.en.box hg _ _ _ _, h.ec.box hg _ _ _ _, h.ne⟩
theorem DvH.putc {b : Bool} {B : Option Addr} {i j : Nat} {z : Int} {lz : Nat} {C : Option Addr} {ic jc : Nat} (h : DvH w W n d gn go gc cur cy lo lc bn vn bc (.slice C ic jc)) (hz : El .c W (.agg #[.bool b, .slice B i j]) z lz) :
    DvH w ((W.setCell ⟨gc, 0, none⟩ (.bool b)).setCell ⟨gc, 1, none⟩ (.slice B i j)) n d gn go gc cur z lo lz bn vn b (.slice B i j) := by
  obtain ⟨n1, n2, n3, n4, n5, n6⟩ := h.ne
  have e : ∀ k, k ≠ gc → ((W.setCell ⟨gc, 0, none⟩ (.bool b)).setCell ⟨gc, 1, none⟩ (.slice B i j)).heap[k]? = W.heap[k]? := fun k hk => (Below.heap_setCell _ ⟨gc, 1, none⟩ _ k hk).trans (Below.heap_setCell _ ⟨gc, 0, none⟩ _ k hk)
  obtain ⟨cells, hc, hr⟩ := h.O
  exact ⟨bel_set (bel_set h.bel (by omega) _ _) (by omega) _ _, (e _ (by omega)).trans h.x, h.N.two n5 _ _ _ _, ⟨cells, (e _ n6).trans hc, (hr.store h.C.noint _ _).store (h.C.noint.set _ (by intro k z h; cases h)) _ _⟩, h.C.put _ _, h.en.box h.C _ _ _ _, hz.box h.C _ _ _ _, h.ne⟩
theorem DvH.puto {b : Bool} {B : Option Addr} {i j : Nat} {z : Int} (h : DvH w W n d gn go gc cur cy lo lc bn vn bc vc) (hz : El .c W (.agg #[.bool b, .slice B i j]) z lo) (k : Nat) :
    DvH w ((W.setCell ⟨go, k * 2, none⟩ (.bool b)).setCell ⟨go, k * 2 + 1, none⟩ (.slice B i j)) n d gn go gc (cur.set k z) cy lo lc bn vn bc vc := by
  obtain ⟨n1, n2, n3, n4, n5, n6⟩ := h.ne
  have e : ∀ t, t ≠ go → ((W.setCell ⟨go, k * 2, none⟩ (.bool b)).setCell ⟨go, k * 2 + 1, none⟩ (.slice B i j)).heap[t]? = W.heap[t]? := fun t ht => (Below.heap_setCell _ ⟨go, k * 2 + 1, none⟩ _ t ht).trans (Below.heap_setCell _ ⟨go, k * 2, none⟩ _ t ht)
  exact ⟨bel_set (bel_set h.bel (by omega) _ _) (by omega) _ _, (e _ (by omega)).trans h.x, h.N.two n4 _ _ _ _, h.O.set k hz, h.C.two (Ne.symm n6) _ _ _ _, h.en.two h.O _ _ _ _ _ _, h.ec.two h.O _ _ _ _ _ _, h.ne⟩
end
/-- The same, boxes of which none is any of these, and numbers. -/
structure DvL (w W : World) (n d : Int) (gn go gc : Nat) (cur : List Int) (cy : Int) (lo lc : Nat) (bn : Bool) (vn : Value) (bc : Bool) (vc : Value) (L : List Nat) (E : List (Value × Int × Nat)) : Prop where
  h : DvH w W n d gn go gc cur cy lo lc bn vn bc vc
  bx : ∀ g ∈ L, Bx 60 W g false (.slice none 0 0) ∧ w.heap.size < g ∧ g ≠ gn ∧ g ≠ go ∧ g ≠ gc
  es : ∀ e ∈ E, El .c W e.1 e.2.1 e.2.2
section
variable {w W W' : World} {n d cy : Int} {gn go gc lo lc : Nat} {cur : List Int} {bn bc : Bool} {vn vc : Value} {L : List Nat} {E : List (Value × Int × Nat)}
theorem DvL.next (h : DvL w W n d gn go gc cur cy lo lc bn vn bc vc L E) (hb : Below W.heap.size W W') : DvL w W' n d gn go gc cur cy lo lc bn vn bc vc L E :=
  ⟨h.h.next hb, fun g hg => ⟨(h.bx g hg).1.bel hb, (h.bx g hg).2⟩, fun e he => (h.es e he).bel hb⟩
theorem DvL.drew (h : DvL w W n d gn go gc cur cy lo lc bn vn bc vc L E) : DvL w W.drew n d gn go gc cur cy lo lc bn vn bc vc L E := h.next ((Below.refl _ _).drew)
theorem DvL.alloc (h : DvL w W n d gn go gc cur cy lo lc bn vn bc vc L E) : DvL w (W.alloc (.cells #[.bool false, .slice none 0 0] 60)) n d gn go gc cur cy lo lc bn vn bc vc (W.heap.size :: L) E := by
  have h1 := h.next (bel_a W (.cells #[.bool false, .slice none 0 0] 60))
  refine ⟨h1.h, fun g hg => ?_, h1.es⟩
  rcases List.mem_cons.1 hg with rfl | hg
  · have e1 := h.h.N.lt
    have e2 := h.h.C.lt
    have e3 := h.h.O.lt
    have e4 := h.h.x.lt
    exact ⟨Bx.new 60 W _ _, by omega, by omega, by omega, by omega⟩
  · exact h1.bx g hg
theorem DvL.put (h : DvL w W n d gn go gc cur cy lo lc bn vn bc vc L E) {Z : Value} {z : Int} {l : Nat} (hz : El .c W Z z l) : DvL w W n d gn go gc cur cy lo lc bn vn bc vc L ((Z, z, l) :: E) :=
  ⟨h.h, h.bx, fun e he => by
    rcases List.mem_cons.1 he with rfl | he
    · exact hz
    · exact h.es e he⟩
theorem DvL.bxs (h : DvL w W n d gn go gc cur cy lo lc bn vn bc vc L E) : ∀ g ∈ L, W.cell? ⟨g, 0, none⟩ = some (.bool false) ∧ W.cell? ⟨g, 1, none⟩ = some (.slice none 0 0) ∧ W.frozen? ⟨g, 0, none⟩ = false ∧ W.frozen? ⟨g, 1, none⟩ = false ∧ g < W.heap.size := fun g hg =>
  ⟨(h.bx g hg).1.c0, (h.bx g hg).1.c1, (h.bx g hg).1.fr 0, (h.bx g hg).1.fr 1, (h.bx g hg).1.lt⟩
/-- Behind: the number in its box. -/
def DvR (w W : World) (n d : Int) (gn go gc : Nat) (cur : List Int) (cy : Int) (lo lc : Nat) (bn : Bool) (vn : Value) (bc : Bool) (vc : Value) (g : Nat) (z : Int) (l : Nat) : Prop :=
  DvH w W n d gn go gc cur cy lo lc bn vn bc vc ∧ w.heap.size < g ∧ g ≠ gn ∧ g ≠ go ∧ g ≠ gc ∧ ∃ b B i j, Bx 60 W g b (.slice B i j) ∧ El .c W (.agg #[.bool b, .slice B i j]) z l
theorem DvL.fin1 (h : DvL w W n d gn go gc cur cy lo lc bn vn bc vc L E) {b : Bool} {B : Option Addr} {i j : Nat} {z : Int} {l g : Nat} (hg : g ∈ L) (he : (.agg #[.bool b, .slice B i j], z, l) ∈ E) :
    DvR w ((W.setCell ⟨g, 0, none⟩ (.bool b)).setCell ⟨g, 1, none⟩ (.slice B i j)) n d gn go gc cur cy lo lc bn vn bc vc g z l := by
  obtain ⟨h1, h2, h3, h4, h5⟩ := h.bx g hg
  exact ⟨h.h.box h1 h2 h3 h4 h5, h2, h3, h4, h5, b, B, i, j, h1.put _ _, (h.es _ he).box h1 _ _ _ _⟩
theorem DvL.fin2 (h : DvL w W n d gn go gc cur cy lo lc bn vn bc vc L E) {b : Bool} {B : Option Addr} {i j : Nat} {z : Int} {l : Nat} (he : (.agg #[.bool b, .slice B i j], z, l) ∈ E) :
    DvR w (W.alloc (.cells #[.bool b, .slice B i j] 60)) n d gn go gc cur cy lo lc bn vn bc vc W.heap.size z l := by
  have h1 := h.next (bel_a W (.cells #[.bool b, .slice B i j] 60))
  have e1 := h.h.N.lt
  have e2 := h.h.C.lt
  have e3 := h.h.O.lt
  have e4 := h.h.x.lt
  exact ⟨h1.h, by omega, by omega, by omega, by omega, b, B, i, j, Bx.new 60 W _ _, h1.es _ he⟩
end
theorem DvH.start {w W : World} {n d : Int} {M lo lc : Nat} {b1 : Bool} {B1 : Option Addr} {i1 j1 : Nat} (hx : Rt W w.heap.size n d) (hb : Below w.heap.size w W) (hz : El .c W (.agg #[.bool b1, .slice B1 i1 j1]) n 2) :
    DvH w (((W.alloc (.cells #[.bool b1, .slice B1 i1 j1] 60)).alloc (.cells (List.flatten (List.replicate M [.bool false, .slice none 0 0])).toArray 60)).alloc (.cells #[.bool false, .slice none 0 0] 60)) n d W.heap.size (W.heap.size + 1) (W.heap.size + 1 + 1) (List.replicate M 0) 0 lo lc b1 (.slice B1 i1 j1) false (.slice none 0 0) := by
  obtain ⟨W1, h1⟩ : ∃ W1, W1 = W.alloc (.cells #[.bool b1, .slice B1 i1 j1] 60) := ⟨_, rfl⟩
  obtain ⟨W2, h2⟩ : ∃ W2, W2 = W1.alloc (.cells (List.flatten (List.replicate M [.bool false, .slice none 0 0])).toArray 60) := ⟨_, rfl⟩
  have s1 : W1.heap.size = W.heap.size + 1 := by rw [h1]; simp
  have s2 : W2.heap.size = W.heap.size + 1 + 1 := by rw [h2, size_a1, s1]
  have b1' : Below W.heap.size W W1 := by rw [h1]; exact bel_a _ _
  have b2' : Below W1.heap.size W1 W2 := by rw [h2]; exact bel_a _ _
  have b3' := bel_a W2 (.cells #[.bool false, .slice none 0 0] 60)
  have e3 := Bx.new 60 W2 false (.slice none 0 0)
  have e2 := Ob.new (K := .c) 60 W1 M lo
  have e1 := Bx.new 60 W b1 (.slice B1 i1 j1)
  rw [← h1] at e1 ⊢
  rw [← h2] at e2 ⊢
  rw [s1] at e2
  rw [s2] at e3
  have hl := hx.lt
  exact ⟨bel_tr (bel_tr (bel_tr hb b1') b2') b3', ((hx.below b1' hl).below b2' (by omega)).below b3' (by omega), (e1.bel b2').bel b3', e2.bel b3', e3, ((hz.bel b1').bel b2').bel b3', El.zero .c _ _, by omega⟩
/-- What divide answers. -/
def DiE (n d : Int) (L : List Int) (l : Nat) (w : World) (e : Ending) (w' : World) : Prop :=
  ∃ A m c, e = .returned (.tuple #[.slice A m c, .bool (decide (hor n d L = 0))]) ∧ Below w.heap.size w w' ∧ (hor n d L = 0 → Pol .c w' (.slice A m c) (syn n d (L.drop 1)) l)
theorem DivBE.open1 {x n : Int} {l : Nat} {w w' : World} {e : Ending} (h : DivBE x n l w e w') : ∃ b B p q, e = .returned (.tuple #[.agg #[.bool b, .slice B p q], .int .i64 (x.tmod n), .int .i64 0]) ∧ El .c w' (.agg #[.bool b, .slice B p q]) (x.tdiv n) l ∧ Below w.heap.size w w' := by
  obtain ⟨Z, rfl, h2, h3⟩ := h
  obtain ⟨b, B, p, q, rfl⟩ := El.form (K := .c) h2
  exact ⟨b, B, p, q, rfl, h2, h3⟩
/-- No remainder, no root. -/
theorem not_root {n d : Int} (hd : 0 < d) (hg : n.natAbs.gcd d.natAbs = 1) {L : List Int} {i : Nat} (hi : i + 1 < L.length) (h : ¬ d ∣ co L (i + 1) + hd0 (syn n d (L.drop (i + 1 + 1))) * n) : hor n d L ≠ 0 := by
  rcases L with _ | ⟨c, cs⟩
  · simp at hi
  · intro h0
    have h1 := ((root_iff hd hg c cs).1 h0).1
    have h2 := exq_drop cs i h1
    simp only [List.length_cons] at hi
    rw [drop_cons (by omega)] at h2
    refine h ?_
    rw [co_cons, List.drop_succ_cons]
    exact h2.2
theorem pdiv_true {n d cy : Int} (hm : Maybe n d) {L : List Int} (h0 : 0 < L.length) (hx : exq n d (L.drop (0 + 1)) ∧ cy = hd0 (syn n d (L.drop (0 + 1))) * n) : (sgn (co L 0 + cy) == 0) = decide (hor n d L = 0) := by
  rw [sgn_zero]
  have e := drop_cons (T := L) (k := 0) h0
  rw [List.drop_zero] at e
  have h := root_iff (n := n) (d := d) hm.1 hm.2 (co L 0) (L.drop (0 + 1))
  rw [← e, ← hx.2] at h
  exact decide_eq_decide.2 ⟨fun h1 => h.2 ⟨hx.1, h1⟩, fun h1 => (h.1 h1).2⟩
theorem pdiv_step {n d : Int} {L : List Int} {i k : Nat} (hik : i = k + 1) (hi : i < L.length) :
    (List.replicate i (0 : Int) ++ syn n d (L.drop (i + 1))).set k ((co L i + hd0 (syn n d (L.drop (i + 1))) * n).tdiv d) = List.replicate k 0 ++ syn n d (L.drop (k + 1)) := by
  subst hik
  rw [List.replicate_succ', List.append_assoc, List.set_append_right _ _ (by simp), List.length_replicate, Nat.sub_self, List.singleton_append, List.set_cons_zero, drop_cons hi]
  rfl
theorem pdiv_exact {n d : Int} {L : List Int} {i k : Nat} (hik : i = k + 1) (hi : i < L.length) (hx : exq n d (L.drop (i + 1))) (hd : d ∣ co L i + hd0 (syn n d (L.drop (i + 1))) * n) : exq n d (L.drop (k + 1)) := by
  subst hik
  rw [drop_cons hi]
  exact ⟨hx, hd⟩
theorem pdiv_head {n d : Int} {L : List Int} {i k : Nat} (hik : i = k + 1) (hi : i < L.length) : hd0 (syn n d (L.drop (k + 1))) = (co L i + hd0 (syn n d (L.drop (i + 1))) * n).tdiv d := by
  subst hik
  rw [drop_cons hi]
  rfl
end Go.Proofs.YtpobhegllhhdgaaGreat
