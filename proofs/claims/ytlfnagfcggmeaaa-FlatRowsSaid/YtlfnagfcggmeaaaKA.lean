/- Proved here: parts as they lie in memory; which may be; what bytes tell, and what is made of parts (plain); what is made is parsed to itself (plain). No condition. · which numbers fit, which parts may be: in the program and in the document. No condition. · which lists of parts may be: in the program and in the document. Condition: they lie in memory, at most 100000 of them. -/
import Derived.Test.YtlfnagfcggmeaaaTA
import Derived.Test.YtlfnagfcggmeaaaPA
namespace Go.Proofs.Ytlfnagfcggmeaaa.C
open Go.RowKit

/-- A part: a glyph; DX, DY; A, B, C, D. -/
abbrev Prt := Int × Int × Int × Int × Int × Int × Int
def p0 : Prt := (0, 0, 0, 0, 0, 0, 0)
def qp (L : List Prt) (i : Nat) : Prt := L.getD i p0
def prC (p : Prt) : List Value := [.int .i64 p.1, .int .i64 p.2.1, .int .i64 p.2.2.1, .int .i64 p.2.2.2.1, .int .i64 p.2.2.2.2.1, .int .i64 p.2.2.2.2.2.1, .int .i64 p.2.2.2.2.2.2]
def plC (L : List Prt) : List Value := L.flatMap prC
theorem plC_snoc (L : List Prt) (p : Prt) : plC (L ++ [p]) = plC L ++ prC p := by simp [plC]
theorem plC_get : ∀ (L : List Prt) (i : Nat), i < L.length → ∀ j, j < 7 → (plC L)[i * 7 + j]? = (prC (qp L i))[j]?
  | t :: L, 0, _, j, hj => by
    have e : plC (t :: L) = prC t ++ plC L := rfl
    rw [e, List.getElem?_append_left (by show _ < 7; omega), show 0 * 7 + j = j by omega]
    rfl
  | t :: L, i + 1, h, j, hj => by
    have ih := plC_get L i (by simp at h; omega) j hj
    have e : plC (t :: L) = prC t ++ plC L := rfl
    rw [e, List.getElem?_append_right (by show 7 ≤ _; omega)]
    have : (i + 1) * 7 + j - (prC t).length = i * 7 + j := by show (i + 1) * 7 + j - 7 = _; omega
    rw [this, ih]
    rfl
/-- A list of parts, as it lies in memory. -/
structure Prl (w : World) (A : Option Addr) (m : Nat) (L : List Prt) : Prop where
  len : L.length = m
  get : ∀ i, i < m → ∃ ad, A = some ad ∧ ad.block < w.heap.size ∧ ∀ j u, (prC (qp L i))[j]? = some u → w.cell? (ad.add (i * 7 + j)) = some u
theorem Prl.nil (w : World) : Prl w none 0 [] := ⟨rfl, fun i hi => by omega⟩
theorem Prl.bel {w w' : World} {A : Option Addr} {m : Nat} {L : List Prt} (h : Prl w A m L) (hb : Below w.heap.size w w') : Prl w' A m L :=
  ⟨h.len, fun i hi => by
    obtain ⟨ad, h1, h2, h3⟩ := h.get i hi
    exact ⟨ad, h1, Nat.lt_of_lt_of_le h2 hb.size, fun j u hu => by rw [hb.cell (by rw [block_of_add]; exact h2)]; exact h3 j u hu⟩⟩
theorem add_nextk (a : Addr) (n k : Nat) (hk : 0 < k) : (⟨(a.add n).block, (a.add n).off + k, none⟩ : Addr) = a.add (n + k) := by
  unfold Addr.add
  have hnk : n + k ≠ 0 := by omega
  split
  · next h => subst h; simp
  · simp [Nat.add_assoc]
/-- Part i's cells, as the walk asks for them. -/
theorem Prl.at_ {w : World} {A : Option Addr} {m : Nat} {L : List Prt} (h : Prl w A m L) {W : World} (hb : Below w.heap.size w W) {i : Nat} (hi : i < m) :
    ∃ ad, A = some ad ∧ (W.cell? (ad.add (i * 7)) = some (.int .i64 (qp L i).1) ∧ W.cell? { block := (ad.add (i * 7)).block, off := (ad.add (i * 7)).off + 1 } = some (.int .i64 (qp L i).2.1)
      ∧ W.cell? { block := (ad.add (i * 7)).block, off := (ad.add (i * 7)).off + 2 } = some (.int .i64 (qp L i).2.2.1) ∧ W.cell? { block := (ad.add (i * 7)).block, off := (ad.add (i * 7)).off + 3 } = some (.int .i64 (qp L i).2.2.2.1)
      ∧ W.cell? { block := (ad.add (i * 7)).block, off := (ad.add (i * 7)).off + 4 } = some (.int .i64 (qp L i).2.2.2.2.1) ∧ W.cell? { block := (ad.add (i * 7)).block, off := (ad.add (i * 7)).off + 5 } = some (.int .i64 (qp L i).2.2.2.2.2.1)
      ∧ W.cell? { block := (ad.add (i * 7)).block, off := (ad.add (i * 7)).off + 6 } = some (.int .i64 (qp L i).2.2.2.2.2.2)) := by
  obtain ⟨ad, h1, h2, h3⟩ := h.get i hi
  refine ⟨ad, h1, ?_⟩
  have hc : ∀ j u, (prC (qp L i))[j]? = some u → W.cell? (ad.add (i * 7 + j)) = some u := fun j u hu => by rw [hb.cell (by rw [block_of_add]; exact h2)]; exact h3 j u hu
  refine ⟨hc 0 _ rfl, ?_, ?_, ?_, ?_, ?_, ?_⟩
  · rw [add_nextk _ _ 1 (by omega)]; exact hc 1 _ rfl
  · rw [add_nextk _ _ 2 (by omega)]; exact hc 2 _ rfl
  · rw [add_nextk _ _ 3 (by omega)]; exact hc 3 _ rfl
  · rw [add_nextk _ _ 4 (by omega)]; exact hc 4 _ rfl
  · rw [add_nextk _ _ 5 (by omega)]; exact hc 5 _ rfl
  · rw [add_nextk _ _ 6 (by omega)]; exact hc 6 _ rfl
theorem own_prl {w : World} {base T n c : Nat} {A : Option Addr} {L : List Prt} (h : w.ownsRow base T 7 (.slice A n c) n (plC L)) (hn : L.length = n) : Prl w A n L := by
  refine ⟨hn, fun i hi => ?_⟩
  obtain ⟨ad, h1, h2, h3⟩ := own_cell h (by omega)
  refine ⟨ad, h1, h2, fun j u hu => ?_⟩
  have hj : j < 7 := by
    rcases Nat.lt_or_ge j 7 with hl | hl
    · exact hl
    · rw [List.getElem?_eq_none (by show 7 ≤ j; omega)] at hu; cases hu
  exact h3 _ _ ((plC_get L i (by omega) j hj).trans hu)
/-- Does a number fit into two bytes; is an x or y from -32767 up to 32767; may a part be; may they be? -/
def okF (n : Int) : Prop := -32768 ≤ n ∧ n ≤ 32767
instance (n : Int) : Decidable (okF n) := inferInstanceAs (Decidable (_ ∧ _))
def okU (n : Int) : Prop := -32767 ≤ n ∧ n ≤ 32767
instance (n : Int) : Decidable (okU n) := inferInstanceAs (Decidable (_ ∧ _))
def okP (p : Prt) (G : Int) : Prop := (0 ≤ p.1 ∧ p.1 < G) ∧ okF p.2.1 ∧ okF p.2.2.1 ∧ okF p.2.2.2.1 ∧ okF p.2.2.2.2.1 ∧ okF p.2.2.2.2.2.1 ∧ okF p.2.2.2.2.2.2
instance (p : Prt) (G : Int) : Decidable (okP p G) := inferInstanceAs (Decidable (_ ∧ _))
def okG (G : Int) : Prop := 1 ≤ G ∧ G ≤ 1024
instance (G : Int) : Decidable (okG G) := inferInstanceAs (Decidable (_ ∧ _))
def MayL (L : List Prt) (G : Int) : Prop := okG G ∧ (1 ≤ L.length ∧ L.length ≤ 64) ∧ ∀ i, i < L.length → okP (qp L i) G
instance (L : List Prt) (G : Int) : Decidable (MayL L G) := inferInstanceAs (Decidable (okG G ∧ (1 ≤ L.length ∧ L.length ≤ 64) ∧ ∀ i, i < L.length → okP (qp L i) G))

/-- Which bits may be; how many bytes DX and DY have, and the numbers. -/
def okB (f : Nat) : Prop := f / 2 % 2 = 1 ∧ f / 16 % 2 = 0 ∧ f / 2048 % 2 = 0 ∧ f < 8192 ∧ f / 8 % 2 + f / 64 % 2 + f / 128 % 2 ≤ 1
instance (f : Nat) : Decidable (okB f) := inferInstanceAs (Decidable (_ ∧ _))
def mvw (f : Nat) : Nat := if f % 2 = 1 then 4 else 2
def nuw (f : Nat) : Nat := if f / 8 % 2 = 1 then 2 else if f / 64 % 2 = 1 then 4 else if f / 128 % 2 = 1 then 8 else 0
def sg8 (n : Nat) : Int := if 128 ≤ n then (n : Int) - 256 else n
def s2 (l : List UInt8) (a : Nat) : Int := sg16 (n2 l a)
def mvX (l : List UInt8) (f a : Nat) : Int := if f % 2 = 1 then s2 l a else sg8 (bat l a)
def mvY (l : List UInt8) (f a : Nat) : Int := if f % 2 = 1 then s2 l (a + 2) else sg8 (bat l (a + 1))
/-- A, B, C and D. -/
def nu4 (l : List UInt8) (f a : Nat) : Int × Int × Int × Int :=
  if f / 8 % 2 = 1 then (s2 l a, 0, 0, s2 l a) else if f / 64 % 2 = 1 then (s2 l a, 0, 0, s2 l (a + 2)) else if f / 128 % 2 = 1 then (s2 l a, s2 l (a + 2), s2 l (a + 4), s2 l (a + 6)) else (16384, 0, 0, 16384)
/-- The part at a place: an error, the part, whether another one follows, and where. -/
def prt (l : List UInt8) (G : Int) (a : Nat) : Int × Prt × Bool × Nat :=
  if l.length < a + 4 then (3, p0, false, 0) else if ¬ okB (n2 l a) ∨ G ≤ (n2 l (a + 2) : Int) then (4, p0, false, 0)
  else if l.length < a + 4 + mvw (n2 l a) + nuw (n2 l a) then (3, p0, false, 0)
  else (0, ((n2 l (a + 2) : Int), mvX l (n2 l a) (a + 4), mvY l (n2 l a) (a + 4), nu4 l (n2 l a) (a + 4 + mvw (n2 l a))), decide (n2 l a / 32 % 2 = 1), a + 4 + mvw (n2 l a) + nuw (n2 l a))
/-- The parts from a place on, n at the most: an error, and the parts. -/
def prs (l : List UInt8) (G : Int) : Nat → List Prt → Nat → Int × List Prt
  | 0, _, _ => (6, [])
  | n + 1, acc, a => if (prt l G a).1 ≠ 0 then ((prt l G a).1, []) else if (prt l G a).2.2.1 = true then prs l G n (acc ++ [(prt l G a).2.1]) (prt l G a).2.2.2 else (0, acc ++ [(prt l G a).2.1])
def isN (l : List UInt8) : Prop := 2 ≤ l.length ∧ 32768 ≤ n2 l 0
instance (l : List UInt8) : Decidable (isN l) := inferInstanceAs (Decidable (_ ∧ _))
/-- What Parse answers. -/
def PA (l : List UInt8) (G : Int) : Int × List Prt := if ¬ okG G then (1, []) else if l.length < 10 then (3, []) else if ¬ isN l then (4, []) else prs l G 64 [] 10

/-- A number of two bytes, with its sign, and of one. -/
def u2 (n : Int) : List UInt8 := byt 2 (n % 65536).toNat
def u1 (n : Int) : List UInt8 := byt 1 (n % 256).toNat
theorem u2_len (n : Int) : (u2 n).length = 2 := byt_len _ _
theorem u1_len (n : Int) : (u1 n).length = 1 := byt_len _ _
def tin (n : Int) : Prop := -128 ≤ n ∧ n ≤ 127
instance (n : Int) : Decidable (tin n) := inferInstanceAs (Decidable (_ ∧ _))
/-- The bits of a part, and its bytes. -/
def mvB (p : Prt) : Nat := if tin p.2.1 ∧ tin p.2.2.1 then 0 else 1
def nuB (p : Prt) : Nat := if p.2.2.2.2.1 ≠ 0 ∨ p.2.2.2.2.2.1 ≠ 0 then 128 else if p.2.2.2.1 ≠ p.2.2.2.2.2.2 then 64 else if p.2.2.2.1 ≠ 16384 then 8 else 0
def flg (p : Prt) (last : Bool) : Nat := 2 + mvB p + nuB p + (if last then 0 else 32)
def mvE (p : Prt) : List UInt8 := if tin p.2.1 ∧ tin p.2.2.1 then u1 p.2.1 ++ u1 p.2.2.1 else u2 p.2.1 ++ u2 p.2.2.1
def nuE (p : Prt) : List UInt8 := if p.2.2.2.2.1 ≠ 0 ∨ p.2.2.2.2.2.1 ≠ 0 then u2 p.2.2.2.1 ++ u2 p.2.2.2.2.1 ++ u2 p.2.2.2.2.2.1 ++ u2 p.2.2.2.2.2.2
  else if p.2.2.2.1 ≠ p.2.2.2.2.2.2 then u2 p.2.2.2.1 ++ u2 p.2.2.2.2.2.2 else if p.2.2.2.1 ≠ 16384 then u2 p.2.2.2.1 else []
def prE (p : Prt) (last : Bool) : List UInt8 := byt 2 (flg p last) ++ u2 p.1 ++ mvE p ++ nuE p
/-- The bytes of the first k parts. -/
def pkE (L : List Prt) : Nat → List UInt8
  | 0 => []
  | k + 1 => pkE L k ++ prE (qp L k) (decide (k + 1 = L.length))
def hdE : List UInt8 := [255, 255, 0, 0, 0, 0, 0, 0, 0, 0]
def mkE (L : List Prt) : Int := if MayL L 1024 then 0 else 1
def mkB (L : List Prt) : List UInt8 := if MayL L 1024 then hdE ++ pkE L L.length else []
theorem mvE_len (p : Prt) : 2 ≤ (mvE p).length ∧ (mvE p).length ≤ 4 := by
  unfold mvE; split <;> simp [u1_len, u2_len]
theorem nuE_len (p : Prt) : (nuE p).length ≤ 8 := by
  unfold nuE; repeat' split
  all_goals simp [u2_len]
theorem prE_len (p : Prt) (b : Bool) : (prE p b).length ≤ 16 := by
  have h1 := mvE_len p
  have h2 := nuE_len p
  unfold prE
  simp only [List.length_append, byt_len, u2_len]
  omega
theorem pkE_len (L : List Prt) : ∀ k, (pkE L k).length ≤ 16 * k
  | 0 => by simp [pkE]
  | k + 1 => by
    have h1 := pkE_len L k
    have h2 := prE_len (qp L k) (decide (k + 1 = L.length))
    simp only [pkE, List.length_append]
    omega
theorem flg_lt (p : Prt) (b : Bool) : flg p b < 256 := by
  unfold flg mvB nuB; repeat' split
  all_goals omega
/-- Bytes that stand at a place. -/
def Ats (l : List UInt8) (a : Nat) (bs : List UInt8) : Prop := ∃ r, l.drop a = bs ++ r
theorem Ats.app {l : List UInt8} {a : Nat} {x y : List UInt8} (h : Ats l a (x ++ y)) : Ats l a x ∧ Ats l (a + x.length) y := by
  obtain ⟨r, h⟩ := h
  refine ⟨⟨y ++ r, by rw [h, List.append_assoc]⟩, ⟨r, ?_⟩⟩
  rw [← List.drop_drop, h, List.append_assoc, List.drop_left]
theorem Ats.len {l : List UInt8} {a : Nat} {x : List UInt8} (h : Ats l a x) (hx : 0 < x.length) : a + x.length ≤ l.length := by
  obtain ⟨r, h⟩ := h
  have := congrArg List.length h
  rw [List.length_drop, List.length_append] at this
  omega
theorem Ats.piece {l : List UInt8} {a : Nat} {x : List UInt8} (h : Ats l a x) : piece l a x.length = x := by
  obtain ⟨r, h⟩ := h
  unfold Ytlfnagfcggmeaaa.piece
  rw [h, List.take_left]
theorem Ats.n2 {l : List UInt8} {a n : Nat} (h : Ats l a (byt 2 n)) (hn : n < 65536) : n2 l a = n ∧ a + 2 ≤ l.length := by
  have h1 := h.piece
  rw [byt_len] at h1
  have h2 := h.len (by rw [byt_len]; omega)
  rw [byt_len] at h2
  refine ⟨?_, h2⟩
  unfold Ytlfnagfcggmeaaa.n2
  rw [h1]
  exact byt_bv 2 n (by omega)
theorem Ats.s2 {l : List UInt8} {a : Nat} {n : Int} (h : Ats l a (u2 n)) (hn : okF n) : s2 l a = n ∧ a + 2 ≤ l.length := by
  obtain ⟨h1, h2⟩ := Ats.n2 h (by omega)
  refine ⟨?_, h2⟩
  unfold Ytlfnagfcggmeaaa.C.s2 sg16
  rw [h1]
  obtain ⟨h3, h4⟩ := hn
  split <;> omega
theorem Ats.b1 {l : List UInt8} {a : Nat} {n : Int} (h : Ats l a (u1 n)) (hn : tin n) : sg8 (bat l a) = n ∧ a + 1 ≤ l.length := by
  have h2 := h.len (by rw [u1_len]; omega)
  rw [u1_len] at h2
  have h1 := h.piece
  rw [u1_len] at h1
  refine ⟨?_, h2⟩
  rw [← piece_one h2, h1]
  unfold u1
  rw [byt_bv 1 _ (by omega)]
  unfold sg8
  obtain ⟨h3, h4⟩ := hn
  split <;> omega
theorem flg_bits (p : Prt) (b : Bool) : okB (flg p b) ∧ flg p b % 2 = mvB p ∧ (flg p b / 8 % 2 = 1 ↔ nuB p = 8) ∧ (flg p b / 64 % 2 = 1 ↔ nuB p = 64) ∧ (flg p b / 128 % 2 = 1 ↔ nuB p = 128) ∧ (flg p b / 32 % 2 = 1 ↔ b = false) := by
  unfold flg okB
  have h1 : mvB p = 0 ∨ mvB p = 1 := by unfold mvB; split <;> simp
  have h2 : nuB p = 0 ∨ nuB p = 8 ∨ nuB p = 64 ∨ nuB p = 128 := by unfold nuB; (repeat' split) <;> simp
  rcases h1 with h1 | h1 <;> rcases h2 with h2 | h2 | h2 | h2 <;> rw [h1, h2] <;> cases b <;> simp
/-- A part that is told is read again. -/
theorem prt_back {l : List UInt8} {a : Nat} {p : Prt} {b : Bool} (h : Ats l a (prE p b)) (hp : okP p 1024) : prt l 1024 a = (0, p, !b, a + (prE p b).length) ∧ a + (prE p b).length ≤ l.length := by
  obtain ⟨⟨g0, g1⟩, hx, hy, hA, hB, hC, hD⟩ := hp
  have hl := h.len (by unfold prE; simp only [List.length_append, byt_len]; omega)
  refine ⟨?_, hl⟩
  unfold prE at h hl ⊢
  obtain ⟨h, hn⟩ := h.app
  obtain ⟨h, hm⟩ := h.app
  obtain ⟨hf, hg⟩ := h.app
  simp only [List.length_append, byt_len, u2_len] at hg hm hn hl ⊢
  obtain ⟨f1, f2⟩ := hf.n2 (by have := flg_lt p b; omega)
  obtain ⟨g2, g3⟩ := Ats.n2 hg (by omega)
  obtain ⟨z1, z2, z3, z4, z5, z6⟩ := flg_bits p b
  have g2' : ((n2 l (a + 2) : Nat) : Int) = p.1 := by rw [g2]; omega
  have wm : mvw (flg p b) = (mvE p).length := by
    unfold mvw mvE
    rw [z2]
    unfold mvB
    split <;> simp [u1_len, u2_len]
  have wn : nuw (flg p b) = (nuE p).length := by
    unfold nuw nuE
    simp only [z3, z4, z5]
    unfold nuB
    repeat' split
    all_goals (first | (simp [u2_len]; done) | (exfalso; simp_all))
  have vx : mvX l (flg p b) (a + 4) = p.2.1 ∧ mvY l (flg p b) (a + 4) = p.2.2.1 := by
    unfold mvX mvY
    rw [z2]
    unfold mvB
    unfold mvE at hm
    by_cases ht : tin p.2.1 ∧ tin p.2.2.1
    · rw [if_pos ht] at hm ⊢
      obtain ⟨h1, h2⟩ := hm.app
      rw [u1_len] at h2
      exact ⟨by simpa using (Ats.b1 h1 ht.1).1, by simpa using (Ats.b1 h2 ht.2).1⟩
    · rw [if_neg ht] at hm ⊢
      obtain ⟨h1, h2⟩ := hm.app
      rw [u2_len] at h2
      exact ⟨by simpa using (Ats.s2 h1 hx).1, by simpa using (Ats.s2 h2 hy).1⟩
  have vn : nu4 l (flg p b) (a + 4 + mvw (flg p b)) = p.2.2.2 := by
    rw [wm]
    have hn : Ats l (a + 4 + (mvE p).length) (nuE p) := by rw [show a + 4 + (mvE p).length = a + (2 + 2 + (mvE p).length) by omega]; exact hn
    obtain ⟨k, hk⟩ : ∃ k, k = a + 4 + (mvE p).length := ⟨_, rfl⟩
    rw [← hk] at hn ⊢
    unfold nu4
    simp only [z3, z4, z5]
    unfold nuB
    unfold nuE at hn
    by_cases c1 : p.2.2.2.2.1 ≠ 0 ∨ p.2.2.2.2.2.1 ≠ 0
    · rw [if_pos c1] at hn ⊢
      obtain ⟨h3, hd⟩ := hn.app
      obtain ⟨h2, hc⟩ := h3.app
      obtain ⟨ha, hb⟩ := h2.app
      simp only [List.length_append, u2_len] at hd hc hb
      rw [if_neg (by decide), if_neg (by decide), if_pos rfl, (Ats.s2 ha hA).1, (Ats.s2 hb hB).1, (Ats.s2 hc hC).1, (Ats.s2 hd hD).1]
    · rw [if_neg c1] at hn ⊢
      have hb0 : p.2.2.2.2.1 = 0 := Classical.byContradiction fun h => c1 (.inl h)
      have hc0 : p.2.2.2.2.2.1 = 0 := Classical.byContradiction fun h => c1 (.inr h)
      by_cases c2 : p.2.2.2.1 ≠ p.2.2.2.2.2.2
      · rw [if_pos c2] at hn ⊢
        obtain ⟨ha, hd⟩ := hn.app
        rw [u2_len] at hd
        rw [if_neg (by decide), if_pos rfl, (Ats.s2 ha hA).1, (Ats.s2 hd hD).1]
        exact Prod.ext rfl (Prod.ext hb0.symm (Prod.ext hc0.symm rfl))
      · rw [if_neg c2] at hn ⊢
        have hd0 : p.2.2.2.1 = p.2.2.2.2.2.2 := Classical.byContradiction c2
        by_cases c3 : p.2.2.2.1 ≠ 16384
        · rw [if_pos c3] at hn ⊢
          rw [if_pos rfl, (Ats.s2 hn hA).1]
          exact Prod.ext rfl (Prod.ext hb0.symm (Prod.ext hc0.symm hd0))
        · have ha0 : p.2.2.2.1 = 16384 := Classical.byContradiction c3
          rw [if_neg c3, if_neg (by decide), if_neg (by decide), if_neg (by decide)]
          exact Prod.ext ha0.symm (Prod.ext hb0.symm (Prod.ext hc0.symm (by rw [← hd0]; exact ha0.symm)))
  have vf : decide (flg p b / 32 % 2 = 1) = !b := by
    cases b
    · exact decide_eq_true (z6.2 rfl)
    · exact decide_eq_false fun h => by cases z6.1 h
  unfold prt
  rw [if_neg (by omega), f1, g2', if_neg (by rintro (h | h)
                                             · exact h z1
                                             · omega), wm, wn, if_neg (by omega), vx.1, vx.2, ← wm, vn, vf]
  rw [wm, show a + 4 + (mvE p).length + (nuE p).length = a + (2 + 2 + (mvE p).length + (nuE p).length) by omega]
theorem prs_back (L : List Prt) (l : List UInt8) (hM : MayL L 1024) (hl : l = hdE ++ pkE L L.length) : ∀ n k, n + k = L.length → 0 < n → prs l 1024 (64 - k) (L.take k) (10 + (pkE L k).length) = (0, L)
  | n + 1, k, h, _ => by
    have hk : k < L.length := by omega
    have hat : ∀ j, k + 1 + j ≤ L.length → ∃ r, pkE L (k + 1 + j) = pkE L (k + 1) ++ r := by
      intro j
      induction j with
      | zero => intro _; exact ⟨[], by simp⟩
      | succ j ih =>
        intro hj
        obtain ⟨r, hr⟩ := ih (by omega)
        exact ⟨r ++ prE (qp L (k + 1 + j)) (decide (k + 1 + j + 1 = L.length)), by rw [show k + 1 + (j + 1) = k + 1 + j + 1 by omega]; show pkE L (k + 1 + j) ++ prE (qp L (k + 1 + j)) (decide (k + 1 + j + 1 = L.length)) = _; rw [hr, List.append_assoc]⟩
    obtain ⟨r, hr⟩ := hat n (by omega)
    have ha : Ats l (10 + (pkE L k).length) (prE (qp L k) (decide (k + 1 = L.length))) := by
      refine ⟨r, ?_⟩
      have e1 : pkE L L.length = pkE L k ++ prE (qp L k) (decide (k + 1 = L.length)) ++ r := by
        rw [show pkE L L.length = pkE L (k + 1 + n) by rw [show L.length = k + 1 + n by omega], hr]
        rfl
      rw [hl, e1, show (10 : Nat) + (pkE L k).length = (hdE ++ pkE L k).length by rw [List.length_append]; rfl, List.append_assoc, ← List.append_assoc hdE, List.drop_left]
    obtain ⟨h1, _⟩ := prt_back ha (hM.2.2 k hk)
    have h64 := hM.2.1.2
    obtain ⟨t, ht⟩ : ∃ t, 64 - k = t + 1 := ⟨63 - k, by omega⟩
    rw [ht]
    unfold prs
    rw [h1]
    have htk : L.take k ++ [qp L k] = L.take (k + 1) := by
      rw [List.take_add_one, List.getElem?_eq_getElem hk]
      congr 1
      simp [qp, hk]
    by_cases hn : n = 0
    · have hkl : k + 1 = L.length := by omega
      rw [if_neg (by simp), if_neg (by simp [hkl]), htk, hkl, List.take_length]
    · have hkl : ¬ k + 1 = L.length := by omega
      rw [if_neg (by simp), if_pos (by simp [hkl]), htk]
      have ih := prs_back L l hM hl n (k + 1) (by omega) (by omega)
      rw [show t = 64 - (k + 1) by omega, show 10 + (pkE L k).length + (prE (qp L k) (decide (k + 1 = L.length))).length = 10 + (pkE L (k + 1)).length by simp only [pkE, List.length_append]; omega]
      exact ih
theorem hd_isN (r : List UInt8) : isN (hdE ++ r) := by
  refine ⟨by simp [hdE], ?_⟩
  show 32768 ≤ n2 ((255 : UInt8) :: 255 :: _) 0
  unfold n2 piece
  simp [bv]
/-- What is made is parsed to itself. -/
theorem mk_back {L : List Prt} (hM : MayL L 1024) : PA (mkB L) 1024 = (0, L) ∧ isN (mkB L) := by
  unfold mkB
  rw [if_pos hM]
  refine ⟨?_, hd_isN _⟩
  unfold PA
  rw [if_neg (fun h => h ⟨by decide, by decide⟩), if_neg (by rw [List.length_append]; show ¬ (10 + _ < 10); omega), if_neg (fun h => h (hd_isN _))]
  exact prs_back L _ hM rfl L.length 0 (by omega) hM.2.1.1
theorem sg16_okF (m : Nat) (h : m < 65536) : okF (sg16 m) := sg16_in m h
theorem s2_okF (l : List UInt8) (a : Nat) : okF (s2 l a) := sg16_in _ (n2_lt l a)
theorem sg8_okF (m : Nat) (h : m < 256) : okF (sg8 m) := by unfold sg8 okF; split <;> omega
theorem prt_may {l : List UInt8} {G : Int} {a : Nat} (h : (prt l G a).1 = 0) : okP (prt l G a).2.1 G := by
  unfold prt at h ⊢
  by_cases c1 : l.length < a + 4
  · rw [if_pos c1] at h; cases h
  rw [if_neg c1] at h ⊢
  by_cases c2 : ¬ okB (n2 l a) ∨ G ≤ (n2 l (a + 2) : Int)
  · rw [if_pos c2] at h; cases h
  rw [if_neg c2] at h ⊢
  by_cases c3 : l.length < a + 4 + mvw (n2 l a) + nuw (n2 l a)
  · rw [if_pos c3] at h; cases h
  rw [if_neg c3]
  have z : okF 0 := ⟨by decide, by decide⟩
  have o : okF 16384 := ⟨by decide, by decide⟩
  refine ⟨⟨by show 0 ≤ ((n2 l (a + 2) : Nat) : Int); omega, ?_⟩, ?_, ?_, ?_⟩
  · rcases Int.lt_or_le (n2 l (a + 2) : Int) G with h | h
    · exact h
    · exact absurd (.inr h) c2
  · show okF (mvX l _ _)
    unfold mvX; split
    · exact s2_okF _ _
    · exact sg8_okF _ (bat_lt _ _)
  · show okF (mvY l _ _)
    unfold mvY; split
    · exact s2_okF _ _
    · exact sg8_okF _ (bat_lt _ _)
  · show okF (nu4 l _ _).1 ∧ okF (nu4 l _ _).2.1 ∧ okF (nu4 l _ _).2.2.1 ∧ okF (nu4 l _ _).2.2.2
    unfold nu4; repeat' split
    all_goals (refine ⟨?_, ?_, ?_, ?_⟩ <;> first | exact s2_okF _ _ | exact z | exact o)
theorem qp_app (L : List Prt) (p : Prt) (i : Nat) : qp (L ++ [p]) i = if i < L.length then qp L i else if i = L.length then p else p0 := by
  unfold qp
  rw [List.getD_eq_getElem?_getD, List.getD_eq_getElem?_getD]
  by_cases h1 : i < L.length
  · rw [if_pos h1, List.getElem?_append_left h1]
  · rw [if_neg h1, List.getElem?_append_right (by omega)]
    by_cases h2 : i = L.length
    · rw [if_pos h2, h2]; simp
    · rw [if_neg h2, List.getElem?_eq_none (by simp; omega)]; rfl
theorem prs_may (l : List UInt8) (G : Int) (hG : okG G) : ∀ n acc a, n + acc.length = 64 → (∀ i, i < acc.length → okP (qp acc i) G) → (prs l G n acc a).1 = 0 → MayL (prs l G n acc a).2 G
  | 0, acc, a, _, _, h => by simp [prs] at h
  | n + 1, acc, a, hn, hacc, h => by
    unfold prs at h ⊢
    by_cases c1 : (prt l G a).1 ≠ 0
    · rw [if_pos c1] at h; exact absurd h c1
    rw [if_neg c1] at h ⊢
    have c1' : (prt l G a).1 = 0 := Classical.byContradiction c1
    have hnew : ∀ i, i < (acc ++ [(prt l G a).2.1]).length → okP (qp (acc ++ [(prt l G a).2.1]) i) G := by
      intro i hi
      rw [List.length_append] at hi
      have hi : i < acc.length + 1 := hi
      rw [qp_app]
      split
      · exact hacc i (by assumption)
      · rw [if_pos (by omega)]; exact prt_may c1'
    by_cases c2 : (prt l G a).2.2.1 = true
    · rw [if_pos c2] at h ⊢
      exact prs_may l G hG n _ _ (by simp; omega) hnew h
    · rw [if_neg c2]
      exact ⟨hG, by simp; omega, hnew⟩
/-- What is parsed may be. -/
theorem PA_may {l : List UInt8} {G : Int} (h : (PA l G).1 = 0) : MayL (PA l G).2 G := by
  unfold PA at h ⊢
  by_cases c1 : ¬ okG G
  · rw [if_pos c1] at h; cases h
  rw [if_neg c1] at h ⊢
  by_cases c2 : l.length < 10
  · rw [if_pos c2] at h; cases h
  rw [if_neg c2] at h ⊢
  by_cases c3 : ¬ isN l
  · rw [if_pos c3] at h; cases h
  rw [if_neg c3] at h ⊢
  exact prs_may l G (Classical.byContradiction c1) 64 [] 10 rfl (fun i hi => absurd hi (by simp)) h
end Go.Proofs.Ytlfnagfcggmeaaa.C
namespace Go.Proofs.Ytlfnagfcggmeaaa.C
open Go.RowKit

theorem fits_any (x : Int) (w : World) : Calls Try.prog 74 #[.int .i64 x] w fun e w' => e = .returned (.bool (decide (okF x))) ∧ w = w' := by
  by_cases h1 : -32768 ≤ x
  · by_cases h2 : x ≤ 32767
    · rw [decide_eq_true (show okF x from ⟨h1, h2⟩)]
      go_enter Try.func74, Try.ntmps74
      go_wp2_with fail
      go_ret
      exact ⟨rfl, rfl⟩
    · rw [decide_eq_false (fun h : okF x => h2 h.2)]
      go_enter Try.func74, Try.ntmps74
      go_wp2_with fail
      go_ret
      exact ⟨rfl, rfl⟩
  · rw [decide_eq_false (fun h : okF x => h1 h.1)]
    go_enter Try.func74, Try.ntmps74
    go_wp2_with fail
    go_ret
    exact ⟨rfl, rfl⟩
theorem rshort_any (x : Int) (w : World) : Calls Try.prog 58 #[.int .i64 x] w fun e w' => e = .returned (.bool (decide (okF x))) ∧ w = w' := by
  by_cases h1 : -32768 ≤ x
  · by_cases h2 : x ≤ 32767
    · rw [decide_eq_true (show okF x from ⟨h1, h2⟩)]
      go_enter Try.func58, Try.ntmps58
      go_wp2_with fail
      go_ret
      exact ⟨rfl, rfl⟩
    · rw [decide_eq_false (fun h : okF x => h2 h.2)]
      go_enter Try.func58, Try.ntmps58
      go_wp2_with fail
      go_ret
      exact ⟨rfl, rfl⟩
  · rw [decide_eq_false (fun h : okF x => h1 h.1)]
    go_enter Try.func58, Try.ntmps58
    go_wp2_with fail
    go_ret
    exact ⟨rfl, rfl⟩
theorem unit_any (x : Int) (w : World) : Calls Try.prog 70 #[.int .i64 x] w fun e w' => e = .returned (.bool (decide (okU x))) ∧ w = w' := by
  by_cases h1 : -32767 ≤ x
  · by_cases h2 : x ≤ 32767
    · rw [decide_eq_true (show okU x from ⟨h1, h2⟩)]
      go_enter Try.func70, Try.ntmps70
      go_wp2_with fail
      go_ret
      exact ⟨rfl, rfl⟩
    · rw [decide_eq_false (fun h : okU x => h2 h.2)]
      go_enter Try.func70, Try.ntmps70
      go_wp2_with fail
      go_ret
      exact ⟨rfl, rfl⟩
  · rw [decide_eq_false (fun h : okU x => h1 h.1)]
    go_enter Try.func70, Try.ntmps70
    go_wp2_with fail
    go_ret
    exact ⟨rfl, rfl⟩
theorem runit_any (x : Int) (w : World) : Calls Try.prog 72 #[.int .i64 x] w fun e w' => e = .returned (.bool (decide (okU x))) ∧ w = w' := by
  by_cases h1 : -32767 ≤ x
  · by_cases h2 : x ≤ 32767
    · rw [decide_eq_true (show okU x from ⟨h1, h2⟩)]
      go_enter Try.func72, Try.ntmps72
      go_wp2_with fail
      go_ret
      exact ⟨rfl, rfl⟩
    · rw [decide_eq_false (fun h : okU x => h2 h.2)]
      go_enter Try.func72, Try.ntmps72
      go_wp2_with fail
      go_ret
      exact ⟨rfl, rfl⟩
  · rw [decide_eq_false (fun h : okU x => h1 h.1)]
    go_enter Try.func72, Try.ntmps72
    go_wp2_with fail
    go_ret
    exact ⟨rfl, rfl⟩
theorem glyphs_any (x : Int) (w : World) : Calls Try.prog 56 #[.int .i64 x] w fun e w' => e = .returned (.bool (decide (okG x))) ∧ w = w' := by
  by_cases h1 : 1 ≤ x
  · by_cases h2 : x ≤ 1024
    · rw [decide_eq_true (show okG x from ⟨h1, h2⟩)]
      go_enter Try.func56, Try.ntmps56
      go_wp2_with fail
      go_ret
      exact ⟨rfl, rfl⟩
    · rw [decide_eq_false (fun h : okG x => h2 h.2)]
      go_enter Try.func56, Try.ntmps56
      go_wp2_with fail
      go_ret
      exact ⟨rfl, rfl⟩
  · rw [decide_eq_false (fun h : okG x => h1 h.1)]
    go_enter Try.func56, Try.ntmps56
    go_wp2_with fail
    go_ret
    exact ⟨rfl, rfl⟩
/-- A part as an argument, and in its box. -/
def prA (p : Prt) : Array Value := #[.int .i64 p.1, .int .i64 p.2.1, .int .i64 p.2.2.1, .int .i64 p.2.2.2.1, .int .i64 p.2.2.2.2.1, .int .i64 p.2.2.2.2.2.1, .int .i64 p.2.2.2.2.2.2]
/-- A part in a box. -/
def Bp (w : World) (b : Nat) (p : Prt) : Prop := w.heap[b]? = some (.cells #[.int .i64 p.1, .int .i64 p.2.1, .int .i64 p.2.2.1, .int .i64 p.2.2.2.1, .int .i64 p.2.2.2.2.1, .int .i64 p.2.2.2.2.2.1, .int .i64 p.2.2.2.2.2.2] 54 (0, 0))
theorem Bp.cells {w : World} {h : Nat} {p : Prt} (k : Bp w h p) : w.cell? ⟨h, 0, none⟩ = some (.int .i64 p.1) ∧ w.cell? ⟨h, 1, none⟩ = some (.int .i64 p.2.1) ∧ w.cell? ⟨h, 2, none⟩ = some (.int .i64 p.2.2.1) ∧ w.cell? ⟨h, 3, none⟩ = some (.int .i64 p.2.2.2.1) ∧ w.cell? ⟨h, 4, none⟩ = some (.int .i64 p.2.2.2.2.1) ∧ w.cell? ⟨h, 5, none⟩ = some (.int .i64 p.2.2.2.2.2.1) ∧ w.cell? ⟨h, 6, none⟩ = some (.int .i64 p.2.2.2.2.2.2) :=
  ⟨cell_of_row w h 0 _ 54 (0, 0) k, cell_of_row w h 1 _ 54 (0, 0) k, cell_of_row w h 2 _ 54 (0, 0) k, cell_of_row w h 3 _ 54 (0, 0) k, cell_of_row w h 4 _ 54 (0, 0) k, cell_of_row w h 5 _ 54 (0, 0) k, cell_of_row w h 6 _ 54 (0, 0) k⟩
theorem Bp.lt {w : World} {h : Nat} {p : Prt} (k : Bp w h p) : h < w.heap.size := heap_lt k
theorem Bp.bel {w w' : World} {h : Nat} {p : Prt} (k : Bp w h p) (hb : Below w.heap.size w w') : Bp w' h p := (hb.block h k.lt).trans k
theorem Bp.fr {w : World} {h : Nat} {p : Prt} (k : Bp w h p) (j : Nat) : w.frozen? ⟨h, j, none⟩ = false := by
  unfold Bp at k
  simp [World.frozen?, k]
theorem Bp.new (w : World) (a b c d e f g : Int) : Bp (w.alloc (.cells #[.int .i64 a, .int .i64 b, .int .i64 c, .int .i64 d, .int .i64 e, .int .i64 f, .int .i64 g] 54)) w.heap.size (a, b, c, d, e, f, g) := heap_alloc_new w _
set_option maxHeartbeats 8000000 in
set_option maxRecDepth 100000 in
theorem mayPart_any (g x y a b c d G : Int) (w : World) : Calls Try.prog 57 #[.agg #[.int .i64 g, .int .i64 x, .int .i64 y, .int .i64 a, .int .i64 b, .int .i64 c, .int .i64 d], .int .i64 G] w fun e w' => e = .returned (.bool (decide (okP (g, x, y, a, b, c, d) G))) ∧ Below w.heap.size w w' := by
  have HB0 := Lib.hid (show Below w.heap.size w (w.alloc (.cells #[.int .i64 g, .int .i64 x, .int .i64 y, .int .i64 a, .int .i64 b, .int .i64 c, .int .i64 d] 54)) from (Below.refl _ _).alloc (Nat.le_refl _) _)
  have hO : okP (g, x, y, a, b, c, d) G ↔ (0 ≤ g ∧ g < G) ∧ okF x ∧ okF y ∧ okF a ∧ okF b ∧ okF c ∧ okF d := Iff.rfl
  have qx := fun W => fits_any x W
  have qy := fun W => fits_any y W
  have qa := fun W => fits_any a W
  have qb := fun W => fits_any b W
  have qc := fun W => fits_any c W
  have qd := fun W => fits_any d W
  by_cases k0 : 0 ≤ g
  · by_cases k1 : g < G
    · by_cases k2 : okF x
      · rw [decide_eq_true k2] at qx
        by_cases k3 : okF y
        · rw [decide_eq_true k3] at qy
          by_cases k4 : okF a
          · rw [decide_eq_true k4] at qa
            by_cases k5 : okF b
            · rw [decide_eq_true k5] at qb
              by_cases k6 : okF c
              · rw [decide_eq_true k6] at qc
                by_cases k7 : okF d
                · rw [decide_eq_true k7] at qd
                  rw [decide_eq_true (hO.2 ⟨⟨k0, k1⟩, k2, k3, k4, k5, k6, k7⟩)]
                  have Qx := Lib.hid qx
                  have Qy := Lib.hid qy
                  have Qa := Lib.hid qa
                  have Qb := Lib.hid qb
                  have Qc := Lib.hid qc
                  have Qd := Lib.hid qd
                  clear hO qx qy qa qb qc qd k2 k3 k4 k5 k6 k7
                  go_enter Try.func57, Try.ntmps57
                  go_wp2_with (first | (go_at_call 74; (with_reducible refine (Qx.out _).mono ?_); rintro e w' ⟨rfl, rfl⟩) | (go_at_call 74; (with_reducible refine (Qy.out _).mono ?_); rintro e w' ⟨rfl, rfl⟩) | (go_at_call 74; (with_reducible refine (Qa.out _).mono ?_); rintro e w' ⟨rfl, rfl⟩) | (go_at_call 74; (with_reducible refine (Qb.out _).mono ?_); rintro e w' ⟨rfl, rfl⟩) | (go_at_call 74; (with_reducible refine (Qc.out _).mono ?_); rintro e w' ⟨rfl, rfl⟩) | (go_at_call 74; (with_reducible refine (Qd.out _).mono ?_); rintro e w' ⟨rfl, rfl⟩))
                  go_ret
                  exact ⟨rfl, HB0.out⟩
                · rw [decide_eq_false k7] at qd
                  rw [decide_eq_false (fun h => k7 (hO.1 h).2.2.2.2.2.2)]
                  have Qx := Lib.hid qx
                  have Qy := Lib.hid qy
                  have Qa := Lib.hid qa
                  have Qb := Lib.hid qb
                  have Qc := Lib.hid qc
                  have Qd := Lib.hid qd
                  clear hO qx qy qa qb qc qd k2 k3 k4 k5 k6 k7
                  go_enter Try.func57, Try.ntmps57
                  go_wp2_with (first | (go_at_call 74; (with_reducible refine (Qx.out _).mono ?_); rintro e w' ⟨rfl, rfl⟩) | (go_at_call 74; (with_reducible refine (Qy.out _).mono ?_); rintro e w' ⟨rfl, rfl⟩) | (go_at_call 74; (with_reducible refine (Qa.out _).mono ?_); rintro e w' ⟨rfl, rfl⟩) | (go_at_call 74; (with_reducible refine (Qb.out _).mono ?_); rintro e w' ⟨rfl, rfl⟩) | (go_at_call 74; (with_reducible refine (Qc.out _).mono ?_); rintro e w' ⟨rfl, rfl⟩) | (go_at_call 74; (with_reducible refine (Qd.out _).mono ?_); rintro e w' ⟨rfl, rfl⟩))
                  go_ret
                  exact ⟨rfl, HB0.out⟩
              · rw [decide_eq_false k6] at qc
                rw [decide_eq_false (fun h => k6 (hO.1 h).2.2.2.2.2.1)]
                have Qx := Lib.hid qx
                have Qy := Lib.hid qy
                have Qa := Lib.hid qa
                have Qb := Lib.hid qb
                have Qc := Lib.hid qc
                have Qd := Lib.hid qd
                clear hO qx qy qa qb qc qd k2 k3 k4 k5 k6
                go_enter Try.func57, Try.ntmps57
                go_wp2_with (first | (go_at_call 74; (with_reducible refine (Qx.out _).mono ?_); rintro e w' ⟨rfl, rfl⟩) | (go_at_call 74; (with_reducible refine (Qy.out _).mono ?_); rintro e w' ⟨rfl, rfl⟩) | (go_at_call 74; (with_reducible refine (Qa.out _).mono ?_); rintro e w' ⟨rfl, rfl⟩) | (go_at_call 74; (with_reducible refine (Qb.out _).mono ?_); rintro e w' ⟨rfl, rfl⟩) | (go_at_call 74; (with_reducible refine (Qc.out _).mono ?_); rintro e w' ⟨rfl, rfl⟩) | (go_at_call 74; (with_reducible refine (Qd.out _).mono ?_); rintro e w' ⟨rfl, rfl⟩))
                go_ret
                exact ⟨rfl, HB0.out⟩
            · rw [decide_eq_false k5] at qb
              rw [decide_eq_false (fun h => k5 (hO.1 h).2.2.2.2.1)]
              have Qx := Lib.hid qx
              have Qy := Lib.hid qy
              have Qa := Lib.hid qa
              have Qb := Lib.hid qb
              have Qc := Lib.hid qc
              have Qd := Lib.hid qd
              clear hO qx qy qa qb qc qd k2 k3 k4 k5
              go_enter Try.func57, Try.ntmps57
              go_wp2_with (first | (go_at_call 74; (with_reducible refine (Qx.out _).mono ?_); rintro e w' ⟨rfl, rfl⟩) | (go_at_call 74; (with_reducible refine (Qy.out _).mono ?_); rintro e w' ⟨rfl, rfl⟩) | (go_at_call 74; (with_reducible refine (Qa.out _).mono ?_); rintro e w' ⟨rfl, rfl⟩) | (go_at_call 74; (with_reducible refine (Qb.out _).mono ?_); rintro e w' ⟨rfl, rfl⟩) | (go_at_call 74; (with_reducible refine (Qc.out _).mono ?_); rintro e w' ⟨rfl, rfl⟩) | (go_at_call 74; (with_reducible refine (Qd.out _).mono ?_); rintro e w' ⟨rfl, rfl⟩))
              go_ret
              exact ⟨rfl, HB0.out⟩
          · rw [decide_eq_false k4] at qa
            rw [decide_eq_false (fun h => k4 (hO.1 h).2.2.2.1)]
            have Qx := Lib.hid qx
            have Qy := Lib.hid qy
            have Qa := Lib.hid qa
            have Qb := Lib.hid qb
            have Qc := Lib.hid qc
            have Qd := Lib.hid qd
            clear hO qx qy qa qb qc qd k2 k3 k4
            go_enter Try.func57, Try.ntmps57
            go_wp2_with (first | (go_at_call 74; (with_reducible refine (Qx.out _).mono ?_); rintro e w' ⟨rfl, rfl⟩) | (go_at_call 74; (with_reducible refine (Qy.out _).mono ?_); rintro e w' ⟨rfl, rfl⟩) | (go_at_call 74; (with_reducible refine (Qa.out _).mono ?_); rintro e w' ⟨rfl, rfl⟩) | (go_at_call 74; (with_reducible refine (Qb.out _).mono ?_); rintro e w' ⟨rfl, rfl⟩) | (go_at_call 74; (with_reducible refine (Qc.out _).mono ?_); rintro e w' ⟨rfl, rfl⟩) | (go_at_call 74; (with_reducible refine (Qd.out _).mono ?_); rintro e w' ⟨rfl, rfl⟩))
            go_ret
            exact ⟨rfl, HB0.out⟩
        · rw [decide_eq_false k3] at qy
          rw [decide_eq_false (fun h => k3 (hO.1 h).2.2.1)]
          have Qx := Lib.hid qx
          have Qy := Lib.hid qy
          have Qa := Lib.hid qa
          have Qb := Lib.hid qb
          have Qc := Lib.hid qc
          have Qd := Lib.hid qd
          clear hO qx qy qa qb qc qd k2 k3
          go_enter Try.func57, Try.ntmps57
          go_wp2_with (first | (go_at_call 74; (with_reducible refine (Qx.out _).mono ?_); rintro e w' ⟨rfl, rfl⟩) | (go_at_call 74; (with_reducible refine (Qy.out _).mono ?_); rintro e w' ⟨rfl, rfl⟩) | (go_at_call 74; (with_reducible refine (Qa.out _).mono ?_); rintro e w' ⟨rfl, rfl⟩) | (go_at_call 74; (with_reducible refine (Qb.out _).mono ?_); rintro e w' ⟨rfl, rfl⟩) | (go_at_call 74; (with_reducible refine (Qc.out _).mono ?_); rintro e w' ⟨rfl, rfl⟩) | (go_at_call 74; (with_reducible refine (Qd.out _).mono ?_); rintro e w' ⟨rfl, rfl⟩))
          go_ret
          exact ⟨rfl, HB0.out⟩
      · rw [decide_eq_false k2] at qx
        rw [decide_eq_false (fun h => k2 (hO.1 h).2.1)]
        have Qx := Lib.hid qx
        have Qy := Lib.hid qy
        have Qa := Lib.hid qa
        have Qb := Lib.hid qb
        have Qc := Lib.hid qc
        have Qd := Lib.hid qd
        clear hO qx qy qa qb qc qd k2
        go_enter Try.func57, Try.ntmps57
        go_wp2_with (first | (go_at_call 74; (with_reducible refine (Qx.out _).mono ?_); rintro e w' ⟨rfl, rfl⟩) | (go_at_call 74; (with_reducible refine (Qy.out _).mono ?_); rintro e w' ⟨rfl, rfl⟩) | (go_at_call 74; (with_reducible refine (Qa.out _).mono ?_); rintro e w' ⟨rfl, rfl⟩) | (go_at_call 74; (with_reducible refine (Qb.out _).mono ?_); rintro e w' ⟨rfl, rfl⟩) | (go_at_call 74; (with_reducible refine (Qc.out _).mono ?_); rintro e w' ⟨rfl, rfl⟩) | (go_at_call 74; (with_reducible refine (Qd.out _).mono ?_); rintro e w' ⟨rfl, rfl⟩))
        go_ret
        exact ⟨rfl, HB0.out⟩
    · rw [decide_eq_false (fun h => k1 (hO.1 h).1.2)]
      have Qx := Lib.hid qx
      have Qy := Lib.hid qy
      have Qa := Lib.hid qa
      have Qb := Lib.hid qb
      have Qc := Lib.hid qc
      have Qd := Lib.hid qd
      clear hO qx qy qa qb qc qd
      go_enter Try.func57, Try.ntmps57
      go_wp2_with (first | (go_at_call 74; (with_reducible refine (Qx.out _).mono ?_); rintro e w' ⟨rfl, rfl⟩) | (go_at_call 74; (with_reducible refine (Qy.out _).mono ?_); rintro e w' ⟨rfl, rfl⟩) | (go_at_call 74; (with_reducible refine (Qa.out _).mono ?_); rintro e w' ⟨rfl, rfl⟩) | (go_at_call 74; (with_reducible refine (Qb.out _).mono ?_); rintro e w' ⟨rfl, rfl⟩) | (go_at_call 74; (with_reducible refine (Qc.out _).mono ?_); rintro e w' ⟨rfl, rfl⟩) | (go_at_call 74; (with_reducible refine (Qd.out _).mono ?_); rintro e w' ⟨rfl, rfl⟩))
      go_ret
      exact ⟨rfl, HB0.out⟩
  · rw [decide_eq_false (fun h => k0 (hO.1 h).1.1)]
    have Qx := Lib.hid qx
    have Qy := Lib.hid qy
    have Qa := Lib.hid qa
    have Qb := Lib.hid qb
    have Qc := Lib.hid qc
    have Qd := Lib.hid qd
    clear hO qx qy qa qb qc qd
    go_enter Try.func57, Try.ntmps57
    go_wp2_with (first | (go_at_call 74; (with_reducible refine (Qx.out _).mono ?_); rintro e w' ⟨rfl, rfl⟩) | (go_at_call 74; (with_reducible refine (Qy.out _).mono ?_); rintro e w' ⟨rfl, rfl⟩) | (go_at_call 74; (with_reducible refine (Qa.out _).mono ?_); rintro e w' ⟨rfl, rfl⟩) | (go_at_call 74; (with_reducible refine (Qb.out _).mono ?_); rintro e w' ⟨rfl, rfl⟩) | (go_at_call 74; (with_reducible refine (Qc.out _).mono ?_); rintro e w' ⟨rfl, rfl⟩) | (go_at_call 74; (with_reducible refine (Qd.out _).mono ?_); rintro e w' ⟨rfl, rfl⟩))
    go_ret
    exact ⟨rfl, HB0.out⟩
set_option maxHeartbeats 8000000 in
set_option maxRecDepth 100000 in
theorem rone_any (g x y a b c d G : Int) (w : World) : Calls Try.prog 41 #[.agg #[.int .i64 g, .int .i64 x, .int .i64 y, .int .i64 a, .int .i64 b, .int .i64 c, .int .i64 d], .int .i64 G] w fun e w' => e = .returned (.bool (decide (okP (g, x, y, a, b, c, d) G))) ∧ Below w.heap.size w w' := by
  have HB0 := Lib.hid (show Below w.heap.size w (w.alloc (.cells #[.int .i64 g, .int .i64 x, .int .i64 y, .int .i64 a, .int .i64 b, .int .i64 c, .int .i64 d] 54)) from (Below.refl _ _).alloc (Nat.le_refl _) _)
  have hO : okP (g, x, y, a, b, c, d) G ↔ (0 ≤ g ∧ g < G) ∧ okF x ∧ okF y ∧ okF a ∧ okF b ∧ okF c ∧ okF d := Iff.rfl
  have qx := fun W => rshort_any x W
  have qy := fun W => rshort_any y W
  have qa := fun W => rshort_any a W
  have qb := fun W => rshort_any b W
  have qc := fun W => rshort_any c W
  have qd := fun W => rshort_any d W
  by_cases k0 : 0 ≤ g
  · by_cases k1 : g < G
    · by_cases k2 : okF x
      · rw [decide_eq_true k2] at qx
        by_cases k3 : okF y
        · rw [decide_eq_true k3] at qy
          by_cases k4 : okF a
          · rw [decide_eq_true k4] at qa
            by_cases k5 : okF b
            · rw [decide_eq_true k5] at qb
              by_cases k6 : okF c
              · rw [decide_eq_true k6] at qc
                by_cases k7 : okF d
                · rw [decide_eq_true k7] at qd
                  rw [decide_eq_true (hO.2 ⟨⟨k0, k1⟩, k2, k3, k4, k5, k6, k7⟩)]
                  have Qx := Lib.hid qx
                  have Qy := Lib.hid qy
                  have Qa := Lib.hid qa
                  have Qb := Lib.hid qb
                  have Qc := Lib.hid qc
                  have Qd := Lib.hid qd
                  clear hO qx qy qa qb qc qd k2 k3 k4 k5 k6 k7
                  go_enter Try.func41, Try.ntmps41
                  go_wp2_with (first | (go_at_call 58; (with_reducible refine (Qx.out _).mono ?_); rintro e w' ⟨rfl, rfl⟩) | (go_at_call 58; (with_reducible refine (Qy.out _).mono ?_); rintro e w' ⟨rfl, rfl⟩) | (go_at_call 58; (with_reducible refine (Qa.out _).mono ?_); rintro e w' ⟨rfl, rfl⟩) | (go_at_call 58; (with_reducible refine (Qb.out _).mono ?_); rintro e w' ⟨rfl, rfl⟩) | (go_at_call 58; (with_reducible refine (Qc.out _).mono ?_); rintro e w' ⟨rfl, rfl⟩) | (go_at_call 58; (with_reducible refine (Qd.out _).mono ?_); rintro e w' ⟨rfl, rfl⟩))
                  go_ret
                  exact ⟨rfl, HB0.out⟩
                · rw [decide_eq_false k7] at qd
                  rw [decide_eq_false (fun h => k7 (hO.1 h).2.2.2.2.2.2)]
                  have Qx := Lib.hid qx
                  have Qy := Lib.hid qy
                  have Qa := Lib.hid qa
                  have Qb := Lib.hid qb
                  have Qc := Lib.hid qc
                  have Qd := Lib.hid qd
                  clear hO qx qy qa qb qc qd k2 k3 k4 k5 k6 k7
                  go_enter Try.func41, Try.ntmps41
                  go_wp2_with (first | (go_at_call 58; (with_reducible refine (Qx.out _).mono ?_); rintro e w' ⟨rfl, rfl⟩) | (go_at_call 58; (with_reducible refine (Qy.out _).mono ?_); rintro e w' ⟨rfl, rfl⟩) | (go_at_call 58; (with_reducible refine (Qa.out _).mono ?_); rintro e w' ⟨rfl, rfl⟩) | (go_at_call 58; (with_reducible refine (Qb.out _).mono ?_); rintro e w' ⟨rfl, rfl⟩) | (go_at_call 58; (with_reducible refine (Qc.out _).mono ?_); rintro e w' ⟨rfl, rfl⟩) | (go_at_call 58; (with_reducible refine (Qd.out _).mono ?_); rintro e w' ⟨rfl, rfl⟩))
                  go_ret
                  exact ⟨rfl, HB0.out⟩
              · rw [decide_eq_false k6] at qc
                rw [decide_eq_false (fun h => k6 (hO.1 h).2.2.2.2.2.1)]
                have Qx := Lib.hid qx
                have Qy := Lib.hid qy
                have Qa := Lib.hid qa
                have Qb := Lib.hid qb
                have Qc := Lib.hid qc
                have Qd := Lib.hid qd
                clear hO qx qy qa qb qc qd k2 k3 k4 k5 k6
                go_enter Try.func41, Try.ntmps41
                go_wp2_with (first | (go_at_call 58; (with_reducible refine (Qx.out _).mono ?_); rintro e w' ⟨rfl, rfl⟩) | (go_at_call 58; (with_reducible refine (Qy.out _).mono ?_); rintro e w' ⟨rfl, rfl⟩) | (go_at_call 58; (with_reducible refine (Qa.out _).mono ?_); rintro e w' ⟨rfl, rfl⟩) | (go_at_call 58; (with_reducible refine (Qb.out _).mono ?_); rintro e w' ⟨rfl, rfl⟩) | (go_at_call 58; (with_reducible refine (Qc.out _).mono ?_); rintro e w' ⟨rfl, rfl⟩) | (go_at_call 58; (with_reducible refine (Qd.out _).mono ?_); rintro e w' ⟨rfl, rfl⟩))
                go_ret
                exact ⟨rfl, HB0.out⟩
            · rw [decide_eq_false k5] at qb
              rw [decide_eq_false (fun h => k5 (hO.1 h).2.2.2.2.1)]
              have Qx := Lib.hid qx
              have Qy := Lib.hid qy
              have Qa := Lib.hid qa
              have Qb := Lib.hid qb
              have Qc := Lib.hid qc
              have Qd := Lib.hid qd
              clear hO qx qy qa qb qc qd k2 k3 k4 k5
              go_enter Try.func41, Try.ntmps41
              go_wp2_with (first | (go_at_call 58; (with_reducible refine (Qx.out _).mono ?_); rintro e w' ⟨rfl, rfl⟩) | (go_at_call 58; (with_reducible refine (Qy.out _).mono ?_); rintro e w' ⟨rfl, rfl⟩) | (go_at_call 58; (with_reducible refine (Qa.out _).mono ?_); rintro e w' ⟨rfl, rfl⟩) | (go_at_call 58; (with_reducible refine (Qb.out _).mono ?_); rintro e w' ⟨rfl, rfl⟩) | (go_at_call 58; (with_reducible refine (Qc.out _).mono ?_); rintro e w' ⟨rfl, rfl⟩) | (go_at_call 58; (with_reducible refine (Qd.out _).mono ?_); rintro e w' ⟨rfl, rfl⟩))
              go_ret
              exact ⟨rfl, HB0.out⟩
          · rw [decide_eq_false k4] at qa
            rw [decide_eq_false (fun h => k4 (hO.1 h).2.2.2.1)]
            have Qx := Lib.hid qx
            have Qy := Lib.hid qy
            have Qa := Lib.hid qa
            have Qb := Lib.hid qb
            have Qc := Lib.hid qc
            have Qd := Lib.hid qd
            clear hO qx qy qa qb qc qd k2 k3 k4
            go_enter Try.func41, Try.ntmps41
            go_wp2_with (first | (go_at_call 58; (with_reducible refine (Qx.out _).mono ?_); rintro e w' ⟨rfl, rfl⟩) | (go_at_call 58; (with_reducible refine (Qy.out _).mono ?_); rintro e w' ⟨rfl, rfl⟩) | (go_at_call 58; (with_reducible refine (Qa.out _).mono ?_); rintro e w' ⟨rfl, rfl⟩) | (go_at_call 58; (with_reducible refine (Qb.out _).mono ?_); rintro e w' ⟨rfl, rfl⟩) | (go_at_call 58; (with_reducible refine (Qc.out _).mono ?_); rintro e w' ⟨rfl, rfl⟩) | (go_at_call 58; (with_reducible refine (Qd.out _).mono ?_); rintro e w' ⟨rfl, rfl⟩))
            go_ret
            exact ⟨rfl, HB0.out⟩
        · rw [decide_eq_false k3] at qy
          rw [decide_eq_false (fun h => k3 (hO.1 h).2.2.1)]
          have Qx := Lib.hid qx
          have Qy := Lib.hid qy
          have Qa := Lib.hid qa
          have Qb := Lib.hid qb
          have Qc := Lib.hid qc
          have Qd := Lib.hid qd
          clear hO qx qy qa qb qc qd k2 k3
          go_enter Try.func41, Try.ntmps41
          go_wp2_with (first | (go_at_call 58; (with_reducible refine (Qx.out _).mono ?_); rintro e w' ⟨rfl, rfl⟩) | (go_at_call 58; (with_reducible refine (Qy.out _).mono ?_); rintro e w' ⟨rfl, rfl⟩) | (go_at_call 58; (with_reducible refine (Qa.out _).mono ?_); rintro e w' ⟨rfl, rfl⟩) | (go_at_call 58; (with_reducible refine (Qb.out _).mono ?_); rintro e w' ⟨rfl, rfl⟩) | (go_at_call 58; (with_reducible refine (Qc.out _).mono ?_); rintro e w' ⟨rfl, rfl⟩) | (go_at_call 58; (with_reducible refine (Qd.out _).mono ?_); rintro e w' ⟨rfl, rfl⟩))
          go_ret
          exact ⟨rfl, HB0.out⟩
      · rw [decide_eq_false k2] at qx
        rw [decide_eq_false (fun h => k2 (hO.1 h).2.1)]
        have Qx := Lib.hid qx
        have Qy := Lib.hid qy
        have Qa := Lib.hid qa
        have Qb := Lib.hid qb
        have Qc := Lib.hid qc
        have Qd := Lib.hid qd
        clear hO qx qy qa qb qc qd k2
        go_enter Try.func41, Try.ntmps41
        go_wp2_with (first | (go_at_call 58; (with_reducible refine (Qx.out _).mono ?_); rintro e w' ⟨rfl, rfl⟩) | (go_at_call 58; (with_reducible refine (Qy.out _).mono ?_); rintro e w' ⟨rfl, rfl⟩) | (go_at_call 58; (with_reducible refine (Qa.out _).mono ?_); rintro e w' ⟨rfl, rfl⟩) | (go_at_call 58; (with_reducible refine (Qb.out _).mono ?_); rintro e w' ⟨rfl, rfl⟩) | (go_at_call 58; (with_reducible refine (Qc.out _).mono ?_); rintro e w' ⟨rfl, rfl⟩) | (go_at_call 58; (with_reducible refine (Qd.out _).mono ?_); rintro e w' ⟨rfl, rfl⟩))
        go_ret
        exact ⟨rfl, HB0.out⟩
    · rw [decide_eq_false (fun h => k1 (hO.1 h).1.2)]
      have Qx := Lib.hid qx
      have Qy := Lib.hid qy
      have Qa := Lib.hid qa
      have Qb := Lib.hid qb
      have Qc := Lib.hid qc
      have Qd := Lib.hid qd
      clear hO qx qy qa qb qc qd
      go_enter Try.func41, Try.ntmps41
      go_wp2_with (first | (go_at_call 58; (with_reducible refine (Qx.out _).mono ?_); rintro e w' ⟨rfl, rfl⟩) | (go_at_call 58; (with_reducible refine (Qy.out _).mono ?_); rintro e w' ⟨rfl, rfl⟩) | (go_at_call 58; (with_reducible refine (Qa.out _).mono ?_); rintro e w' ⟨rfl, rfl⟩) | (go_at_call 58; (with_reducible refine (Qb.out _).mono ?_); rintro e w' ⟨rfl, rfl⟩) | (go_at_call 58; (with_reducible refine (Qc.out _).mono ?_); rintro e w' ⟨rfl, rfl⟩) | (go_at_call 58; (with_reducible refine (Qd.out _).mono ?_); rintro e w' ⟨rfl, rfl⟩))
      go_ret
      exact ⟨rfl, HB0.out⟩
  · rw [decide_eq_false (fun h => k0 (hO.1 h).1.1)]
    have Qx := Lib.hid qx
    have Qy := Lib.hid qy
    have Qa := Lib.hid qa
    have Qb := Lib.hid qb
    have Qc := Lib.hid qc
    have Qd := Lib.hid qd
    clear hO qx qy qa qb qc qd
    go_enter Try.func41, Try.ntmps41
    go_wp2_with (first | (go_at_call 58; (with_reducible refine (Qx.out _).mono ?_); rintro e w' ⟨rfl, rfl⟩) | (go_at_call 58; (with_reducible refine (Qy.out _).mono ?_); rintro e w' ⟨rfl, rfl⟩) | (go_at_call 58; (with_reducible refine (Qa.out _).mono ?_); rintro e w' ⟨rfl, rfl⟩) | (go_at_call 58; (with_reducible refine (Qb.out _).mono ?_); rintro e w' ⟨rfl, rfl⟩) | (go_at_call 58; (with_reducible refine (Qc.out _).mono ?_); rintro e w' ⟨rfl, rfl⟩) | (go_at_call 58; (with_reducible refine (Qd.out _).mono ?_); rintro e w' ⟨rfl, rfl⟩))
    go_ret
    exact ⟨rfl, HB0.out⟩
end Go.Proofs.Ytlfnagfcggmeaaa.C
namespace Go.Proofs.Ytlfnagfcggmeaaa.C
open Go.RowKit

set_option maxHeartbeats 4000000 in
set_option maxRecDepth 100000 in
theorem may_any (A : Option Addr) (m c : Nat) (L : List Prt) (G : Int) (w : World) (hP : Prl w A m L) (hm : m ≤ 100000) :
    Calls Try.prog 40 #[.slice A m c, .int .i64 G] w fun e w' => e = .returned (.bool (decide (MayL L G))) ∧ Below w.heap.size w w' := by
  have hlen := hP.len
  have CG := Lib.hid (fun W => glyphs_any G W)
  by_cases hG : okG G
  · rw [decide_eq_true hG] at CG
    by_cases h0 : m = 0
    · rw [decide_eq_false (show ¬ MayL L G from fun h => by have := h.2.1.1; omega)]
      subst h0
      clear hlen hP hG
      go_enter Try.func40, Try.ntmps40
      go_wp2_with (go_at_call 56; (with_reducible refine (CG.out _).mono ?_); rintro e w1 ⟨rfl, rfl⟩)
      go_ret
      exact ⟨rfl, Below.refl _ _⟩
    · have e0 : ((m : Int) == 0) = false := by simp [h0]
      by_cases h64 : 64 < m
      · rw [decide_eq_false (show ¬ MayL L G from fun h => by have := h.2.1.2; omega)]
        clear hlen hP h0 hG
        go_enter Try.func40, Try.ntmps40
        go_wp2_with (go_at_call 56; (with_reducible refine (CG.out _).mono ?_); rintro e w1 ⟨rfl, rfl⟩)
        go_ret
        exact ⟨rfl, Below.refl _ _⟩
      · have HY := Lib.hid (show (∀ i, i < m → okP (qp L i) G) → decide (MayL L G) = true from fun h => decide_eq_true ⟨hG, by omega, by rw [hlen]; exact h⟩)
        have HN := Lib.hid (show ∀ k, k < m → ¬ okP (qp L k) G → decide (MayL L G) = false from fun k hk h => decide_eq_false fun h2 => h (h2.2.2 k (by omega)))
        have HI := Lib.hid hP
        clear hlen hP h0 hG
        go_enter Try.func40, Try.ntmps40
        go_wp2_with (go_at_call 56; (with_reducible refine (CG.out _).mono ?_); rintro e w1 ⟨rfl, rfl⟩)
        go_loopw [22] (fun i wr => ∃ k : Nat, i = .int .i64 (k : Int) ∧ k ≤ m ∧ (∀ i, i < k → okP (qp L i) G) ∧ Below w.heap.size w wr) (fun i _ => m - (intOf i).toNat)
        case atStart => exact ⟨0, rfl, Nat.zero_le _, fun i hi => by omega, Below.refl _ _⟩
        case round =>
          obtain ⟨k, rfl, hk, hok, hb⟩ := hrel
          have HB := Lib.hid hb
          by_cases hgo : k < m
          · obtain ⟨ad, rfl, hc⟩ := HI.out.at_ hb hgo
            have HSU := Lib.hid (show okP (qp L k) G → ∀ i, i < k + 1 → okP (qp L i) G from all_succ hok)
            have HNK := Lib.hid (HN.out k hgo)
            obtain ⟨p, hp⟩ : ∃ p, p = qp L k := ⟨_, rfl⟩
            rw [← hp] at hc HSU HNK
            obtain ⟨g, x, y, a, b, c, d⟩ := p
            obtain ⟨c0, c1, c2, c3, c4, c5, c6⟩ := hc
            dsimp only at c0 c1 c2 c3 c4 c5 c6
            have CP := Lib.hid (fun W => mayPart_any g x y a b c d G W)
            clear hp hb hok
            by_cases hp : okP (g, x, y, a, b, c, d) G
            · rw [decide_eq_true hp] at CP
              have HX := Lib.hid (HSU.out hp)
              clear hp
              go_wp2_with (go_at_call 57; (with_reducible refine (CP.out _).mono ?_); rintro e w2 ⟨rfl, hb2⟩; have HB2 := Lib.hid ((HB.out.alloc HB.out.size _).trans (hb2.mono (HB.out.alloc HB.out.size _).size)); clear hb2)
              exact ⟨⟨k + 1, by simp, by omega, HX.out, HB2.out⟩, by simp [intOf]; omega⟩
            · rw [decide_eq_false hp] at CP
              have HX := Lib.hid (HNK.out hp)
              clear hp
              go_wp2_with (go_at_call 57; (with_reducible refine (CP.out _).mono ?_); rintro e w2 ⟨rfl, hb2⟩; have HB2 := Lib.hid ((HB.out.alloc HB.out.size _).trans (hb2.mono (HB.out.alloc HB.out.size _).size)); clear hb2)
              go_ret
              exact ⟨by rw [HX.out]; rfl, HB2.out⟩
          · obtain rfl : k = m := by omega
            have HX := Lib.hid (HY.out hok)
            clear hb hok
            go_wp2_with fail
            go_ret
            exact ⟨by rw [HX.out]; rfl, HB.out⟩
  · rw [decide_eq_false hG] at CG
    rw [decide_eq_false (show ¬ MayL L G from fun h => hG h.1)]
    clear hlen hP hG
    go_enter Try.func40, Try.ntmps40
    go_wp2_with (go_at_call 56; (with_reducible refine (CG.out _).mono ?_); rintro e w1 ⟨rfl, rfl⟩)
    go_ret
    exact ⟨rfl, Below.refl _ _⟩
set_option maxHeartbeats 4000000 in
set_option maxRecDepth 100000 in
theorem rmay_any (A : Option Addr) (m c : Nat) (L : List Prt) (G : Int) (w : World) (hP : Prl w A m L) (hm : m ≤ 100000) :
    Calls Try.prog 24 #[.slice A m c, .int .i64 G] w fun e w' => e = .returned (.bool (decide (MayL L G))) ∧ Below w.heap.size w w' := by
  have hlen := hP.len
  by_cases hG1 : G < 1
  · rw [decide_eq_false (show ¬ MayL L G from fun h => by have := h.1.1; omega)]
    clear hlen hP
    go_enter Try.func24, Try.ntmps24
    go_wp2_with fail
    go_ret
    exact ⟨rfl, Below.refl _ _⟩
  · by_cases hG2 : 1024 < G
    · rw [decide_eq_false (show ¬ MayL L G from fun h => by have := h.1.2; omega)]
      clear hlen hP
      go_enter Try.func24, Try.ntmps24
      go_wp2_with fail
      go_ret
      exact ⟨rfl, Below.refl _ _⟩
    · have hG : okG G := ⟨by omega, by omega⟩
      by_cases h0 : m < 1
      · rw [decide_eq_false (show ¬ MayL L G from fun h => by have := h.2.1.1; omega)]
        clear hlen hP hG
        go_enter Try.func24, Try.ntmps24
        go_wp2_with fail
        go_ret
        exact ⟨rfl, Below.refl _ _⟩
      · by_cases h64 : 64 < m
        · rw [decide_eq_false (show ¬ MayL L G from fun h => by have := h.2.1.2; omega)]
          clear hlen hP hG
          go_enter Try.func24, Try.ntmps24
          go_wp2_with fail
          go_ret
          exact ⟨rfl, Below.refl _ _⟩
        · have HY := Lib.hid (show (∀ i, i < m → okP (qp L i) G) → decide (MayL L G) = true from fun h => decide_eq_true ⟨hG, by omega, by rw [hlen]; exact h⟩)
          have HN := Lib.hid (show ∀ k, k < m → ¬ okP (qp L k) G → decide (MayL L G) = false from fun k hk h => decide_eq_false fun h2 => h (h2.2.2 k (by omega)))
          have HI := Lib.hid hP
          clear hlen hP hG
          go_enter Try.func24, Try.ntmps24
          go_wp2_with fail
          go_loopw [5] (fun i wr => ∃ k : Nat, i = .int .i64 (k : Int) ∧ k ≤ m ∧ (∀ i, i < k → okP (qp L i) G) ∧ Below w.heap.size w wr) (fun i _ => m - (intOf i).toNat)
          case atStart => exact ⟨0, rfl, Nat.zero_le _, fun i hi => by omega, Below.refl _ _⟩
          case round =>
            obtain ⟨k, rfl, hk, hok, hb⟩ := hrel
            have HB := Lib.hid hb
            by_cases hgo : k < m
            · obtain ⟨ad, rfl, hc⟩ := HI.out.at_ hb hgo
              have HSU := Lib.hid (show okP (qp L k) G → ∀ i, i < k + 1 → okP (qp L i) G from all_succ hok)
              have HNK := Lib.hid (HN.out k hgo)
              obtain ⟨p, hp⟩ : ∃ p, p = qp L k := ⟨_, rfl⟩
              rw [← hp] at hc HSU HNK
              obtain ⟨g, x, y, a, b, c, d⟩ := p
              obtain ⟨c0, c1, c2, c3, c4, c5, c6⟩ := hc
              dsimp only at c0 c1 c2 c3 c4 c5 c6
              have CP := Lib.hid (fun W => rone_any g x y a b c d G W)
              clear hp hb hok
              by_cases hp : okP (g, x, y, a, b, c, d) G
              · rw [decide_eq_true hp] at CP
                have HX := Lib.hid (HSU.out hp)
                clear hp
                go_wp2_with (go_at_call 41; (with_reducible refine (CP.out _).mono ?_); rintro e w2 ⟨rfl, hb2⟩; have HB2 := Lib.hid (HB.out.trans (hb2.mono HB.out.size)); clear hb2)
                exact ⟨⟨k + 1, by simp, by omega, HX.out, HB2.out⟩, by simp [intOf]; omega⟩
              · rw [decide_eq_false hp] at CP
                have HX := Lib.hid (HNK.out hp)
                clear hp
                go_wp2_with (go_at_call 41; (with_reducible refine (CP.out _).mono ?_); rintro e w2 ⟨rfl, hb2⟩; have HB2 := Lib.hid (HB.out.trans (hb2.mono HB.out.size)); clear hb2)
                go_ret
                exact ⟨by rw [HX.out]; rfl, HB2.out⟩
            · obtain rfl : k = m := by omega
              have HX := Lib.hid (HY.out hok)
              clear hb hok
              go_wp2_with fail
              go_ret
              exact ⟨by rw [HX.out]; rfl, HB.out⟩
end Go.Proofs.Ytlfnagfcggmeaaa.C
