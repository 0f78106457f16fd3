/- Proved here: whether two tables have a byte together, in the program; lists of rows as they lie in memory. Condition: tables whose end is below 2^32. -/
import Derived.Test.YtlidagofjkilgaaUb
namespace Go.Proofs.Ytlidagofjkilgaa
open Go.RowKit

set_option maxHeartbeats 2000000 in
theorem meet_any (x1 x2 : ByteArray) (s1 s2 p1 p2 n1 n2 : Nat) (w : World) (h1 : p1 + n1 < 4294967296) (h2 : p2 + n2 < 4294967296) :
    Calls Try.prog 49 #[.agg #[.string x1, .int .u32 (s1 : Int), .int .u32 (p1 : Int), .int .u32 (n1 : Int)], .agg #[.string x2, .int .u32 (s2 : Int), .int .u32 (p2 : Int), .int .u32 (n2 : Int)]] w fun e w' => e = .returned (.bool (decide (max p1 p2 < min (p1 + n1) (p2 + n2)))) ∧ Below w.heap.size w w' := by
  have w1 : IntKind.u32.wrap ((p1 : Int) + (n1 : Int)) = ((p1 + n1 : Nat) : Int) := by rw [IntKind.wrap_u32]; omega
  have w2 : IntKind.u32.wrap ((p2 : Int) + (n2 : Int)) = ((p2 + n2 : Nat) : Int) := by rw [IntKind.wrap_u32]; omega
  obtain ⟨a, ha⟩ : ∃ a, a = p1 + n1 := ⟨_, rfl⟩
  obtain ⟨b, hb⟩ : ∃ b, b = p2 + n2 := ⟨_, rfl⟩
  rw [← ha] at w1 ⊢
  rw [← hb] at w2 ⊢
  obtain ⟨x, hx⟩ : ∃ x, x = max p1 p2 := ⟨_, rfl⟩
  obtain ⟨y, hy⟩ : ∃ y, y = min a b := ⟨_, rfl⟩
  have m1 : max (p1 : Int) (p2 : Int) = (x : Int) := by omega
  have m2 : min (a : Int) (b : Int) = (y : Int) := by omega
  rw [← hx, ← hy]
  have HB := Lib.hid (fun (o o2 : Obj) => ((Below.refl w.heap.size w).alloc (Nat.le_refl _) o).alloc (by simp) o2)
  clear ha hb hx hy h1 h2
  by_cases hd : x < y
  · rw [decide_eq_true hd]
    go_enter Try.func49, Try.ntmps49
    go_wp2_with fail
    go_ret
    exact ⟨rfl, HB.out _ _⟩
  · rw [decide_eq_false hd]
    go_enter Try.func49, Try.ntmps49
    go_wp2_with fail
    go_ret
    exact ⟨rfl, HB.out _ _⟩
/-- A list of rows, as it lies in memory. -/
structure Al (w : World) (A : Option Addr) (m : Nat) (R : List Row) : Prop where
  len : R.length = m
  get : ∀ i (hi : i < m), ∃ ad, A = some ad ∧ ad.block < w.heap.size ∧ w.cell? (ad.add (i * 4)) = some (.string ⟨((R[i]'(by omega)).tag).toArray⟩) ∧ w.cell? (ad.add (i * 4 + 1)) = some (.int .u32 ((R[i]'(by omega)).sum : Int)) ∧
    w.cell? (ad.add (i * 4 + 2)) = some (.int .u32 ((R[i]'(by omega)).place : Int)) ∧ w.cell? (ad.add (i * 4 + 3)) = some (.int .u32 ((R[i]'(by omega)).size : Int))
theorem Al.nil (w : World) : Al w none 0 [] := ⟨rfl, fun i hi => by omega⟩
theorem Al.bel {w w' : World} {A : Option Addr} {m : Nat} {R : List Row} (h : Al w A m R) (hb : Below w.heap.size w w') : Al w' A m R :=
  ⟨h.len, fun i hi => by
    obtain ⟨ad, h1, h2, h3, h4, h5, h6⟩ := h.get i hi
    have e : ∀ j, w'.cell? (ad.add j) = w.cell? (ad.add j) := fun j => hb.cell (by rw [block_of_add]; exact h2)
    exact ⟨ad, h1, Nat.lt_of_lt_of_le h2 hb.size, (e _).trans h3, (e _).trans h4, (e _).trans h5, (e _).trans h6⟩⟩
theorem add_two (a : Addr) (n j : Nat) : (⟨(a.add n).block, (a.add n).off + j, none⟩ : Addr) = if n + j = 0 then ⟨a.block, a.off, none⟩ else a.add (n + j) := by
  unfold Addr.add
  split
  · next h => subst h; split <;> simp_all
  · split
    · omega
    · simp [Nat.add_assoc]
theorem Al.at_ {w : World} {A : Option Addr} {m : Nat} {R : List Row} (h : Al w A m R) {W : World} (hb : Below w.heap.size w W) {i : Nat} (hi : i < m) :
    ∃ ad, A = some ad ∧ W.cell? (ad.add (i * 4)) = some (.string ⟨((R[i]'(by have := h.len; omega)).tag).toArray⟩) ∧ W.cell? { block := (ad.add (i * 4)).block, off := (ad.add (i * 4)).off + 1 } = some (.int .u32 ((R[i]'(by have := h.len; omega)).sum : Int)) ∧
      W.cell? { block := (ad.add (i * 4)).block, off := (ad.add (i * 4)).off + 2 } = some (.int .u32 ((R[i]'(by have := h.len; omega)).place : Int)) ∧ W.cell? { block := (ad.add (i * 4)).block, off := (ad.add (i * 4)).off + 3 } = some (.int .u32 ((R[i]'(by have := h.len; omega)).size : Int)) := by
  obtain ⟨ad, h1, h2, h3, h4, h5, h6⟩ := h.get i hi
  have e : ∀ j, W.cell? (ad.add j) = w.cell? (ad.add j) := fun j => hb.cell (by rw [block_of_add]; exact h2)
  refine ⟨ad, h1, (e _).trans h3, ?_, ?_, ?_⟩
  · rw [add_two, if_neg (by omega)]; exact (e _).trans h4
  · rw [add_two, if_neg (by omega)]; exact (e _).trans h5
  · rw [add_two, if_neg (by omega)]; exact (e _).trans h6
theorem total_q (t d : ByteArray) (w : World) (hs : d.data.toList.length ≤ 1000000) : Calls Try.prog 19 #[.string t, .string d] w fun e w' => e = .returned (.int .u32 (total t.data.toList d.data.toList : Int)) ∧ ∃ q, w' = w.drewN q :=
  (total_any t d w hs).mono fun _ _ ⟨q, h1, h2⟩ => ⟨h1, q, h2⟩
theorem behind_snoc (t : List UInt8) (R : List Row) (h : 0 < R.length) : behind t R = bLe t (R[R.length - 1]'(by omega)).tag := by
  unfold behind
  rw [List.getLast?_eq_getElem?, List.getElem?_eq_getElem (by omega)]
end Go.Proofs.Ytlidagofjkilgaa
