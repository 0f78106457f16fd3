/- Proved here: words for the document's Parse. No condition. -/
import Derived.Test.YtlidagofjkilgaaVb
namespace Go.Proofs.Ytlidagofjkilgaa
open Go.RowKit

theorem byt_bv2 : ∀ (p : List UInt8), p.length = 2 → byt 2 (bv p 0) = p
  | [a, b], _ => by
    have ha := UInt8.toNat_lt a
    have hb := UInt8.toNat_lt b
    have e : bv [a, b] 0 = a.toNat * 256 + b.toNat := by simp [bv]
    rw [e, byt_two _ (by omega)]
    have e1 : (a.toNat * 256 + b.toNat) / 256 = a.toNat := by omega
    have e2 : (a.toNat * 256 + b.toNat) % 256 = b.toNat := by omega
    rw [e1, e2]
    simp
theorem piece_four (l : List UInt8) : piece l 4 8 = piece l 4 2 ++ piece l 6 2 ++ piece l 8 2 ++ piece l 10 2 := by
  unfold piece
  have e : ∀ (m : List UInt8), m.take 8 = m.take 2 ++ (m.drop 2).take 2 ++ (m.drop 4).take 2 ++ (m.drop 6).take 2 := fun m => by
    have h1 := List.take_add (l := m) (i := 2) (j := 6)
    have h2 := List.take_add (l := m.drop 2) (i := 2) (j := 4)
    have h3 := List.take_add (l := (m.drop 2).drop 2) (i := 2) (j := 2)
    simp only [List.drop_drop] at h1 h2 h3
    rw [show (8 : Nat) = 2 + 6 from rfl, h1, show (6 : Nat) = 2 + 4 from rfl, h2, show (4 : Nat) = 2 + 2 from rfl, h3]
    simp [List.append_assoc]
  rw [e (l.drop 4)]
  simp only [List.drop_drop]
theorem nums_iff {l : List UInt8} {n : Nat} (h : 12 ≤ l.length) (hn : bv (piece l 4 2) 0 = n) (h64 : n ≤ 64) (h0 : 0 < n) :
    piece l 4 8 = nums n ↔ (bv (piece l 6 2) 0 = 16 * 2 ^ pw n ∧ bv (piece l 8 2) 0 = pw n ∧ bv (piece l 10 2) 0 = 16 * n - 16 * 2 ^ pw n) := by
  have hb := bits_log n (by omega) h0
  have l4 : ∀ a, a + 2 ≤ l.length → (piece l a 2).length = 2 := fun a ha => piece_len ha
  constructor
  · intro he
    rw [piece_four l] at he
    unfold nums at he
    have h1 := List.append_inj he (by rw [List.length_append, List.length_append, List.length_append, List.length_append, l4 4 (by omega), l4 6 (by omega), l4 8 (by omega), byt_len, byt_len, byt_len])
    have h2 := List.append_inj h1.1 (by rw [List.length_append, List.length_append, l4 4 (by omega), l4 6 (by omega), byt_len, byt_len])
    have h3 := List.append_inj h2.1 (by rw [l4 4 (by omega), byt_len])
    rw [h3.2, h2.2, h1.2]
    exact ⟨byt_bv 2 _ (by omega), byt_bv 2 _ (by omega), byt_bv 2 _ (by omega)⟩
  · rintro ⟨e1, e2, e3⟩
    rw [piece_four l]
    unfold nums
    rw [← e3, ← e1, ← e2, byt_bv2 _ (l4 6 (by omega)), byt_bv2 _ (l4 8 (by omega)), byt_bv2 _ (l4 10 (by omega)), ← hn, byt_bv2 _ (l4 4 (by omega))]
theorem Try.info74 : (Try.prog.info? 74).map (fun i => (i.zero, i.size, i.bytes)) = some (some (.agg #[.int .i64 0, .int .i64 0]), 2, 16) := by kernel_rfl
/-- The two lists that the document's Parse makes. -/
structure PsR (w W : World) (vo va : Value) (n1 n2 : Nat) (L : List (List UInt8 × List UInt8)) (R : List Row) : Prop where
  bel : Below w.heap.size w W
  oo : W.ownsRow w.heap.size 25 2 vo n1 (tabC L)
  oa : W.ownsRow w.heap.size 74 2 va n2 (spC R)
theorem PsR.next {w W W' : World} {vo va : Value} {n1 n2 : Nat} {L : List (List UInt8 × List UInt8)} {R : List Row} (h : PsR w W vo va n1 n2 L R) (hb : Below W.heap.size W W') : PsR w W' vo va n1 n2 L R :=
  ⟨h.bel.trans (hb.mono h.bel.size), own_bel h.oo hb, own_bel h.oa hb⟩
theorem PsR.start {w W : World} (h : Below w.heap.size w W) : PsR w W (.slice none 0 0) (.slice none 0 0) 0 0 [] [] := ⟨h, World.ownsRow_nil _ _ _ _, World.ownsRow_nil _ _ _ _⟩
theorem PsR.tab {w W W' : World} {vo va vo' : Value} {n1 n2 : Nat} {L : List (List UInt8 × List UInt8)} {R : List Row} {t d : List UInt8} (h : PsR w W vo va n1 n2 L R) (hg : W.grownBy W' vo.ownBlock) (ho : W'.ownsRow w.heap.size 25 2 vo' (n1 + 1) (tabC L ++ [.string ⟨t.toArray⟩, .string ⟨d.toArray⟩])) : PsR w W' vo' va (n1 + 1) n2 (L ++ [(t, d)]) R :=
  ⟨below_grown h.bel h.oo hg, by rw [tabC_snoc]; exact ho, own_kept h.oa h.oo (by decide) hg⟩
theorem PsR.span {w W W' : World} {vo va va' : Value} {n1 n2 : Nat} {L : List (List UInt8 × List UInt8)} {R : List Row} {r : Row} (h : PsR w W vo va n1 n2 L R) (hg : W.grownBy W' va.ownBlock) (ho : W'.ownsRow w.heap.size 74 2 va' (n2 + 1) (spC R ++ [.int .i64 (r.place : Int), .int .i64 ((r.place + r.size : Nat) : Int)])) : PsR w W' vo va' n1 (n2 + 1) L (R ++ [r]) :=
  ⟨below_grown h.bel h.oa hg, own_kept h.oo h.oa (by decide) hg, by rw [spC_snoc]; exact ho⟩
/-- The two boxes of a row that was read. -/
structure BxP (W : World) (b c : Nat) (x y : ByteArray) (p q : Int) : Prop where
  bb : W.heap[b]? = some (.cells #[.string x, .string y] 25 (0, 0))
  bc : W.heap[c]? = some (.cells #[.int .i64 p, .int .i64 q] 74 (0, 0))
section
variable {W W' : World} {b c : Nat} {x y : ByteArray} {p q : Int}
theorem BxP.new (W : World) (x y : ByteArray) (p q : Int) : BxP ((W.alloc (.cells #[.string x, .string y] 25)).alloc (.cells #[.int .i64 p, .int .i64 q] 74)) W.heap.size (W.heap.size + 1) x y p q := by
  refine ⟨?_, ?_⟩
  · rw [Below.heap_alloc _ _ _ (by simp)]; exact heap_alloc_new W _
  · have h := heap_alloc_new (W.alloc (.cells #[.string x, .string y] 25)) (.cells #[.int .i64 p, .int .i64 q] 74)
    simpa using h
theorem BxP.bel (h : BxP W b c x y p q) (hb : Below W.heap.size W W') : BxP W' b c x y p q := ⟨(hb.block b (heap_lt h.bb)).trans h.bb, (hb.block c (heap_lt h.bc)).trans h.bc⟩
theorem BxP.grown (h : BxP W b c x y p q) {row : Option Nat} (hg : W.grownBy W' row) (h1 : some b ≠ row) (h2 : some c ≠ row) : BxP W' b c x y p q := ⟨(hg.block b (heap_lt h.bb) h1).trans h.bb, (hg.block c (heap_lt h.bc) h2).trans h.bc⟩
theorem BxP.cells (h : BxP W b c x y p q) : W.cell? ⟨b, 0, none⟩ = some (.string x) ∧ W.cell? ⟨b, 1, none⟩ = some (.string y) ∧ W.cell? ⟨c, 0, none⟩ = some (.int .i64 p) ∧ W.cell? ⟨c, 1, none⟩ = some (.int .i64 q) :=
  ⟨cell_of_row W b 0 _ 25 (0, 0) h.bb, cell_of_row W b 1 _ 25 (0, 0) h.bb, cell_of_row W c 0 _ 74 (0, 0) h.bc, cell_of_row W c 1 _ 74 (0, 0) h.bc⟩
end
/-- A block behind a world is none that a list of that world owns. -/
theorem own_far {w : World} {base e size n g : Nat} {v : Value} {xs : List Value} (h : w.ownsRow base e size v n xs) (hg : w.heap.size ≤ g) : some g ≠ v.ownBlock := by
  intro he
  have := (h.lt g he.symm).2
  omega
theorem ru16_same (s : ByteArray) (a : Nat) (w : World) (hs : s.size ≤ 1000000000) (ha : a + 2 ≤ s.size) :
    Calls Try.prog 31 #[.string s, .int .i64 (a : Int)] w fun e w' => e = .returned (.tuple #[.int .u16 (bv (piece s.data.toList a 2) 0 : Int), .int .i64 0]) ∧ w = w' := by
  have h := ru16_any s (a : Int) w hs (by omega)
  have h2 := cutL_in (l := s.data.toList) (a := a) (n := 2) (by rw [size_list]; exact ha)
  rw [show ((2 : Nat) : Int) = 2 from rfl] at h2
  rw [h2.1, h2.2] at h
  exact h
end Go.Proofs.Ytlidagofjkilgaa
