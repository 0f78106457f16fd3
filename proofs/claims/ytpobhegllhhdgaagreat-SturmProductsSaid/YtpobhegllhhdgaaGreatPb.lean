/- Proved here: words for slices of numbers (a sign and a slice of digits each) as they lie in memory. No condition but lists that lie in memory. -/
import Derived.Test.YtpobhegllhhdgaaGreatPa
import Derived.Test.YtpobhegllhhdgaaGreatGB
namespace Go.Proofs.YtpobhegllhhdgaaGreat
open Go.RowKit

/-- In which form a number lies: any, its one form, the document's. -/
inductive Kd where
  | a | c | n
/-- Z reads as the number z. -/
def El : Kd → World → Value → Int → Nat → Prop
  | .a => BigA
  | .c => BigC
  | .n => NumC
theorem add_next (A : Addr) (k : Nat) : (⟨(A.add k).block, (A.add k).off + 1, none⟩ : Addr) = A.add (k + 1) := by
  unfold Addr.add
  split
  · next h => subst h; simp
  · simp [Nat.add_assoc]
theorem add_zero_ (A : Addr) : A.add 0 = A := by simp [Addr.add]
theorem add_at (g j : Nat) : (⟨g, 0, none⟩ : Addr).add j = ⟨g, j, none⟩ := by unfold Addr.add; split <;> simp_all
section
variable {K : Kd} {w w' : World} {Z : Value} {z : Int} {l l' : Nat}
theorem El.bel (h : El K w Z z l) (hb : Below w.heap.size w w') : El K w' Z z l := by
  cases K
  · exact BigA.bel h hb
  · exact BigC.bel h hb
  · exact NumC.bel h hb
theorem El.le (h : El K w Z z l) (hl : l ≤ l') : El K w Z z l' := by
  cases K
  · exact BigA.le h hl
  · exact BigC.le h hl
  · exact NumC.le h hl
theorem El.drew (h : El K w Z z l) : El K w.drew Z z l := by cases K <;> exact h
theorem El.drewN (h : El K w Z z l) (n : Nat) : El K (w.drewN n) Z z l := by
  cases K <;> (obtain ⟨a, b, c, h1, h2, h3⟩ := h; exact ⟨a, b, c, h1, h2.drewN n, h3⟩)
theorem El.form (h : El K w Z z l) : ∃ n B p q, Z = .agg #[.bool n, .slice B p q] := by
  cases K
  all_goals
    obtain ⟨n, v, xs, rfl, h2, _⟩ := h
    obtain ⟨B, q, rfl⟩ := h2.slice
    exact ⟨n, B, _, q, rfl⟩
theorem El.zero (K : Kd) (w : World) (l : Nat) : El K w (.agg #[.bool false, .slice none 0 0]) 0 l := by
  cases K
  · exact ⟨false, _, [], rfl, Arr.nil _ _, eg_nil, Nat.zero_le _, rfl⟩
  · exact ⟨false, _, [], rfl, Arr.nil _ _, eg_nil, ⟨top_nil, fun _ => rfl⟩, Nat.zero_le _, rfl⟩
  · exact ⟨false, _, [], rfl, Arr.nil _ _, (fun j => by simp), ⟨top_nil, fun _ => rfl⟩, Nat.zero_le _, rfl⟩
end
/-- A block that holds no integers. -/
def NoInt (w : World) (g : Nat) : Prop := ∀ (a : Addr) k z, a.block = g → w.cell? a ≠ some (.int k z)
theorem cell_far (w : World) (p : Addr) (x : Value) {a : Addr} (h : a.block ≠ p.block) : (w.setCell p x).cell? a = w.cell? a := by
  unfold World.cell?
  rw [Below.heap_setCell w p x a.block h]
theorem Arr.store {w : World} {k : IntKind} {v : Value} {xs : List Nat} (h : Arr w k v xs) {g : Nat} (hg : NoInt w g) (j : Nat) (x : Value) : Arr (w.setCell ⟨g, j, none⟩ x) k v xs := by
  obtain ⟨A, c, h1, h2, h3, h4, h5⟩ := h
  refine ⟨A, c, h1, h2, h3, h4, fun ad ha => ⟨fun h0 => by rw [World.setCell]; simpa using (h5 ad ha).1 h0, fun i hi => ?_⟩⟩
  have h6 := (h5 ad ha).2 i hi
  rw [cell_far _ _ _ (by intro he; exact hg _ _ _ he h6)]
  exact h6
theorem El.store {K : Kd} {w : World} {Z : Value} {z : Int} {l : Nat} (h : El K w Z z l) {g : Nat} (hg : NoInt w g) (j : Nat) (x : Value) : El K (w.setCell ⟨g, j, none⟩ x) Z z l := by
  cases K
  all_goals
    obtain ⟨n, v, xs, h1, h2, h3⟩ := h
    exact ⟨n, v, xs, h1, h2.store hg j x, h3⟩
theorem NoInt.set {w : World} {g : Nat} (h : NoInt w g) (j : Nat) {x : Value} (hx : ∀ k z, x ≠ .int k z) : NoInt (w.setCell ⟨g, j, none⟩ x) g := by
  intro a k z ha he
  rcases a with ⟨b, o, s⟩
  subst ha
  unfold World.cell? World.setCell at he
  rcases hh : w.heap[b]? with _ | o'
  · simp [Array.getElem?_modify, hh] at he
  · cases o' with
    | cells c e f =>
      simp [Array.getElem?_modify, hh] at he
      obtain ⟨hs, he⟩ := he
      subst hs
      rw [Array.getElem?_setIfInBounds] at he
      split at he
      · split at he
        · exact hx k z (Option.some.inj he)
        · cases he
      · exact h ⟨b, o, none⟩ k z rfl (by unfold World.cell?; rw [hh]; simpa using he)
    | _ => simp [Array.getElem?_modify, hh] at he

/-- The cells hold the numbers L. -/
def Rw (K : Kd) (w : World) (cells : List Value) (L : List Int) (l : Nat) : Prop :=
  cells.length = 2 * L.length ∧ ∀ i, i < L.length → ∃ n B p q, cells[2 * i]? = some (.bool n) ∧ cells[2 * i + 1]? = some (.slice B p q) ∧ El K w (.agg #[.bool n, .slice B p q]) (co L i) l
/-- The slice v reads as the numbers L. -/
def Pol (K : Kd) (w : World) (v : Value) (L : List Int) (l : Nat) : Prop :=
  ∃ A c, v = .slice A L.length c ∧ L.length ≤ c ∧ c ≤ maxLen ∧ (A = none → c = 0) ∧
    ∀ ad, A = some ad → ad.block < w.heap.size ∧ ∀ i, i < L.length → ∃ n B p q, w.cell? (ad.add (i * 2)) = some (.bool n) ∧ w.cell? (ad.add (i * 2 + 1)) = some (.slice B p q) ∧ El K w (.agg #[.bool n, .slice B p q]) (co L i) l
section
variable {K : Kd} {w w' : World} {v : Value} {L : List Int} {l l' : Nat}
theorem Pol.bel (h : Pol K w v L l) (hb : Below w.heap.size w w') : Pol K w' v L l := by
  obtain ⟨A, c, h1, h2, h3, h4, h5⟩ := h
  refine ⟨A, c, h1, h2, h3, h4, fun ad ha => ⟨Nat.lt_of_lt_of_le (h5 ad ha).1 hb.size, fun i hi => ?_⟩⟩
  obtain ⟨n, B, p, q, e1, e2, e3⟩ := (h5 ad ha).2 i hi
  exact ⟨n, B, p, q, by rw [hb.cell (by rw [block_of_add]; exact (h5 ad ha).1)]; exact e1, by rw [hb.cell (by rw [block_of_add]; exact (h5 ad ha).1)]; exact e2, e3.bel hb⟩
theorem Pol.le (h : Pol K w v L l) (hl : l ≤ l') : Pol K w v L l' := by
  obtain ⟨A, c, h1, h2, h3, h4, h5⟩ := h
  refine ⟨A, c, h1, h2, h3, h4, fun ad ha => ⟨(h5 ad ha).1, fun i hi => ?_⟩⟩
  obtain ⟨n, B, p, q, e1, e2, e3⟩ := (h5 ad ha).2 i hi
  exact ⟨n, B, p, q, e1, e2, e3.le hl⟩
theorem Pol.drew (h : Pol K w v L l) : Pol K w.drew v L l := h.bel ((Below.refl _ w).drew)
theorem Pol.alloc (h : Pol K w v L l) (o : Obj) : Pol K (w.alloc o) v L l := h.bel (bel_a w o)
theorem Pol.any (h : Pol .c w v L l) : Pol .a w v L l := by
  obtain ⟨A, c, h1, h2, h3, h4, h5⟩ := h
  refine ⟨A, c, h1, h2, h3, h4, fun ad ha => ⟨(h5 ad ha).1, fun i hi => ?_⟩⟩
  obtain ⟨n, B, p, q, e1, e2, e3⟩ := (h5 ad ha).2 i hi
  exact ⟨n, B, p, q, e1, e2, BigC.any e3⟩
theorem Pol.nil (K : Kd) (w : World) (l : Nat) : Pol K w (.slice none 0 0) [] l := ⟨none, 0, rfl, Nat.le_refl _, Nat.zero_le _, fun _ => rfl, fun _ h => by cases h⟩
theorem Pol.slice (h : Pol K w v L l) : ∃ A c, v = .slice A L.length c := by
  obtain ⟨A, c, h, _⟩ := h
  exact ⟨A, c, h⟩
theorem Pol.cap {A : Option Addr} {m c : Nat} (h : Pol K w (.slice A m c) L l) : m = L.length ∧ m ≤ c ∧ c ≤ maxLen := by
  obtain ⟨A', c', h1, h2, h3, h4, h5⟩ := h
  injection h1 with e1 e2 e3
  subst e1 e2 e3
  exact ⟨rfl, h2, h3⟩
theorem Pol.get {A : Option Addr} {m c : Nat} (h : Pol K w (.slice A m c) L l) (i : Nat) (hi : i < L.length) :
    ∃ ad n B p q, A = some ad ∧ ad.block < w.heap.size ∧ w.cell? (ad.add (i * 2)) = some (.bool n) ∧ w.cell? (ad.add (i * 2 + 1)) = some (.slice B p q) ∧ El K w (.agg #[.bool n, .slice B p q]) (co L i) l := by
  obtain ⟨A', c', h1, h2, h3, h4, h5⟩ := h
  injection h1 with e1 e2 e3
  subst e1 e3
  rcases A with _ | ad
  · have := h4 rfl
    omega
  · obtain ⟨n, B, p, q, f1, f2, f3⟩ := (h5 ad rfl).2 i hi
    exact ⟨ad, n, B, p, q, rfl, (h5 ad rfl).1, f1, f2, f3⟩
theorem Pol.take {A : Option Addr} {m c n : Nat} (h : Pol K w (.slice A m c) L l) (hn : n ≤ L.length) : Pol K w (.slice A n c) (L.take n) l := by
  obtain ⟨A', c', h1, h2, h3, h4, h5⟩ := h
  injection h1 with e1 e2 e3
  subst e1 e3
  have hl : (L.take n).length = n := List.length_take_of_le hn
  refine ⟨A, c, by rw [hl], by omega, h3, h4, fun ad ha => ⟨(h5 ad ha).1, fun i hi => ?_⟩⟩
  rw [co_take, if_pos (by omega)]
  exact (h5 ad ha).2 i (by omega)
theorem Pol.trz {A : Option Addr} {m c : Nat} (h : Pol K w (.slice A m c) L l) : Pol K w (.slice A (pl L) c) (trz L) l := h.take (pl_le L)
theorem Rw.nil (K : Kd) (w : World) (l : Nat) : Rw K w [] [] l := ⟨rfl, fun i hi => by simp at hi⟩
theorem Rw.bel {cells : List Value} (h : Rw K w cells L l) (hb : Below w.heap.size w w') : Rw K w' cells L l :=
  ⟨h.1, fun i hi => by obtain ⟨n, B, p, q, e1, e2, e3⟩ := h.2 i hi; exact ⟨n, B, p, q, e1, e2, e3.bel hb⟩⟩
theorem Rw.le {cells : List Value} (h : Rw K w cells L l) (hl : l ≤ l') : Rw K w cells L l' :=
  ⟨h.1, fun i hi => by obtain ⟨n, B, p, q, e1, e2, e3⟩ := h.2 i hi; exact ⟨n, B, p, q, e1, e2, e3.le hl⟩⟩
theorem Rw.store {cells : List Value} (h : Rw K w cells L l) {g : Nat} (hg : NoInt w g) (j : Nat) (x : Value) : Rw K (w.setCell ⟨g, j, none⟩ x) cells L l :=
  ⟨h.1, fun i hi => by obtain ⟨n, B, p, q, e1, e2, e3⟩ := h.2 i hi; exact ⟨n, B, p, q, e1, e2, e3.store hg j x⟩⟩
theorem Rw.snoc {cells : List Value} (h : Rw K w cells L l) {n : Bool} {B : Option Addr} {p q : Nat} {z : Int} (hz : El K w (.agg #[.bool n, .slice B p q]) z l) : Rw K w (cells ++ [.bool n, .slice B p q]) (L ++ [z]) l := by
  have hl := h.1
  refine ⟨by simp [hl]; omega, fun i hi => ?_⟩
  simp at hi
  rcases Nat.lt_or_ge i L.length with h1 | h1
  · obtain ⟨n, B, p, q, e1, e2, e3⟩ := h.2 i h1
    refine ⟨n, B, p, q, by rw [List.getElem?_append_left (by omega)]; exact e1, by rw [List.getElem?_append_left (by omega)]; exact e2, ?_⟩
    have : co (L ++ [z]) i = co L i := by simp [co, List.getD_eq_getElem?_getD, List.getElem?_append_left h1]
    rw [this]; exact e3
  · obtain rfl : i = L.length := by omega
    refine ⟨n, B, p, q, by rw [List.getElem?_append_right (by omega), show 2 * L.length - cells.length = 0 by omega]; rfl, by rw [List.getElem?_append_right (by omega), show 2 * L.length + 1 - cells.length = 1 by omega]; rfl, ?_⟩
    have : co (L ++ [z]) L.length = z := by simp [co]
    rw [this]; exact hz
theorem Rw.set {cells : List Value} (h : Rw K w cells L l) {n : Bool} {B : Option Addr} {p q : Nat} {z : Int} (hz : El K w (.agg #[.bool n, .slice B p q]) z l) (i : Nat) : Rw K w ((cells.set (2 * i) (.bool n)).set (2 * i + 1) (.slice B p q)) (L.set i z) l := by
  have hl := h.1
  refine ⟨by simp [hl], fun j hj => ?_⟩
  simp at hj
  by_cases hij : j = i
  · subst hij
    refine ⟨n, B, p, q, ?_, ?_, ?_⟩
    · rw [List.getElem?_set_ne (by omega), List.getElem?_set_self (by omega)]
    · rw [List.getElem?_set_self (by simp; omega)]
    · rw [co_set _ _ _ _ hj, if_pos rfl]; exact hz
  · obtain ⟨n', B', p', q', e1, e2, e3⟩ := h.2 j hj
    refine ⟨n', B', p', q', ?_, ?_, ?_⟩
    · rw [List.getElem?_set_ne (by omega), List.getElem?_set_ne (by omega)]; exact e1
    · rw [List.getElem?_set_ne (by omega), List.getElem?_set_ne (by omega)]; exact e2
    · have : co (L.set i z) j = co L j := by
        simp [co, List.getD_eq_getElem?_getD, List.getElem?_set_ne (Ne.symm hij)]
      rw [this]; exact e3
theorem Rw.zeros (K : Kd) (w : World) (n l : Nat) : Rw K w (List.flatten (List.replicate n [.bool false, .slice none 0 0])) (List.replicate n 0) l := by
  induction n with
  | zero => exact Rw.nil K w l
  | succ n ih =>
    have := ih.snoc (El.zero K w l)
    rw [List.replicate_succ', List.replicate_succ', List.flatten_append]
    simpa using this
end
/-- The numbers L lie in a block of their own. -/
def Ob (K : Kd) (T : TypeId) (w : World) (g : Nat) (L : List Int) (l : Nat) : Prop := ∃ cells : List Value, w.heap[g]? = some (.cells cells.toArray T (0, 0)) ∧ Rw K w cells L l
section
variable {K : Kd} {T : TypeId} {w w' : World} {g : Nat} {L : List Int} {l l' : Nat}
theorem Ob.lt (h : Ob K T w g L l) : g < w.heap.size := by
  obtain ⟨cells, h1, _⟩ := h
  rcases Nat.lt_or_ge g w.heap.size with hl | hl
  · exact hl
  · rw [Array.getElem?_eq_none hl] at h1; cases h1
theorem Ob.bel (h : Ob K T w g L l) (hb : Below w.heap.size w w') : Ob K T w' g L l := by
  have hl := h.lt
  obtain ⟨cells, h1, h2⟩ := h
  exact ⟨cells, (hb.block g hl).trans h1, h2.bel hb⟩
theorem Ob.le (h : Ob K T w g L l) (hl : l ≤ l') : Ob K T w g L l' := by
  obtain ⟨cells, h1, h2⟩ := h
  exact ⟨cells, h1, h2.le hl⟩
theorem Ob.drew (h : Ob K T w g L l) : Ob K T w.drew g L l := h.bel ((Below.refl _ w).drew)
theorem Ob.fr (h : Ob K T w g L l) (j : Nat) : w.frozen? ⟨g, j, none⟩ = false := by
  obtain ⟨cells, h1, _⟩ := h
  simp [World.frozen?, h1]
theorem Ob.get (h : Ob K T w g L l) (i : Nat) (hi : i < L.length) : ∃ n B p q, w.cell? ⟨g, i * 2, none⟩ = some (.bool n) ∧ w.cell? ⟨g, i * 2 + 1, none⟩ = some (.slice B p q) ∧ El K w (.agg #[.bool n, .slice B p q]) (co L i) l := by
  obtain ⟨cells, h1, h2⟩ := h
  obtain ⟨n, B, p, q, e1, e2, e3⟩ := h2.2 i hi
  refine ⟨n, B, p, q, ?_, ?_, e3⟩
  · unfold World.cell?; rw [h1]; simpa [Nat.mul_comm] using e1
  · unfold World.cell?; rw [h1]; simpa [Nat.mul_comm] using e2
theorem Ob.noint (h : Ob K T w g L l) : NoInt w g := by
  obtain ⟨cells, h1, h2⟩ := h
  intro a k z ha he
  unfold World.cell? at he
  rw [ha, h1] at he
  by_cases hs : a.spot.isSome
  · simp [hs] at he
  · simp [hs] at he
    have hlt : a.off < cells.length := by
      rcases Nat.lt_or_ge a.off cells.length with hl | hl
      · exact hl
      · rw [List.getElem?_eq_none hl] at he; cases he
    have hl := h2.1
    obtain ⟨n, B, p, q, e1, e2, e3⟩ := h2.2 (a.off / 2) (by omega)
    rcases Nat.mod_two_eq_zero_or_one a.off with hm | hm
    · rw [show 2 * (a.off / 2) = a.off by omega, he] at e1; cases e1
    · rw [show 2 * (a.off / 2) + 1 = a.off by omega, he] at e2; cases e2
theorem heap_set {w : World} {g j : Nat} {cells : List Value} {T : TypeId} (h : w.heap[g]? = some (.cells cells.toArray T (0, 0))) (x : Value) : (w.setCell ⟨g, j, none⟩ x).heap[g]? = some (.cells (cells.set j x).toArray T (0, 0)) := by
  simp [World.setCell, Array.getElem?_modify, h]
theorem Ob.set (h : Ob K T w g L l) (i : Nat) {n : Bool} {B : Option Addr} {p q : Nat} {z : Int} (hz : El K w (.agg #[.bool n, .slice B p q]) z l) :
    Ob K T ((w.setCell ⟨g, i * 2, none⟩ (.bool n)).setCell ⟨g, i * 2 + 1, none⟩ (.slice B p q)) g (L.set i z) l := by
  have hn := h.noint
  have hn2 := hn.set (i * 2) (x := .bool n) (by intro k z h; cases h)
  obtain ⟨cells, h1, h2⟩ := h
  refine ⟨_, heap_set (heap_set h1 _) _, ?_⟩
  rw [show i * 2 = 2 * i by omega] at hn2 ⊢
  exact (((h2.store hn _ _).store hn2 _ _).set ((hz.store hn _ _).store hn2 _ _) i)
theorem Ob.pol (h : Ob K T w g L l) (hl : L.length ≤ 1000000) : Pol K w (.slice (some ⟨g, 0, none⟩) L.length L.length) L l := by
  refine ⟨_, _, rfl, Nat.le_refl _, by unfold maxLen; omega, (fun h => by cases h), fun ad ha => ?_⟩
  injection ha with ha
  subst ha
  refine ⟨h.lt, fun i hi => ?_⟩
  rw [add_at, add_at]
  exact h.get i hi
theorem Ob.new (T : TypeId) (w : World) (n l : Nat) : Ob K T (w.alloc (.cells (List.flatten (List.replicate n [.bool false, .slice none 0 0])).toArray T)) w.heap.size (List.replicate n 0) l :=
  ⟨_, heap_alloc_new w _, Rw.zeros K _ n l⟩
end
theorem Pol.of_own {K : Kd} {w : World} {b n : Nat} {e : TypeId} {v : Value} {cells : List Value} {L : List Int} {l : Nat} (h : w.ownsRow b e 2 v n cells) (hr : Rw K w cells L l) : Pol K w v L l := by
  have hl := h.1
  have hl2 := hr.1
  rcases h.2 with ⟨h0, h1⟩ | ⟨g, cap, cur, hv, hg, hh, hc, hm, hcur, ht⟩
  · have : L = [] := List.eq_nil_of_length_eq_zero (by omega)
    subst this
    rw [h0]
    exact Pol.nil K w l
  · have hn : n = L.length := by omega
    refine ⟨_, cap, by rw [hv, hn], by omega, hm, (fun h => by cases h), fun ad ha => ?_⟩
    injection ha with ha
    subst ha
    refine ⟨?_, fun i hi => ?_⟩
    · rcases Nat.lt_or_ge g w.heap.size with hlt | hge
      · exact hlt
      · rw [Array.getElem?_eq_none hge] at hh; cases hh
    · obtain ⟨n', B, p, q, e1, e2, e3⟩ := hr.2 i hi
      refine ⟨n', B, p, q, ?_, ?_, e3⟩
      · rw [add_at, cell_of_row w g _ cur _ (0, 0) hh, show i * 2 = 2 * i by omega, ← e1, ← ht, List.getElem?_take, if_pos (by omega)]
        simp
      · rw [add_at, cell_of_row w g _ cur _ (0, 0) hh, show i * 2 + 1 = 2 * i + 1 by omega, ← e2, ← ht, List.getElem?_take, if_pos (by omega)]
        simp
theorem made_two (n : Nat) : madeCells (Value.agg #[.bool false, .slice none 0 0]).cells (n * 2) = (List.flatten (List.replicate n [Value.bool false, .slice none 0 0])).toArray := by
  have e : (Value.agg #[.bool false, .slice none 0 0]).cells = #[.bool false, .slice none 0 0] := rfl
  rw [e]
  apply Array.ext'
  simp only [madeCells]
  induction n with
  | zero => simp
  | succ n ih =>
    rw [show (n + 1) * 2 = n * 2 + 1 + 1 by omega, Array.range_succ, Array.range_succ]
    rw [List.replicate_succ', List.flatten_append]
    simp at ih ⊢
    rw [ih]
end Go.Proofs.YtpobhegllhhdgaaGreat
