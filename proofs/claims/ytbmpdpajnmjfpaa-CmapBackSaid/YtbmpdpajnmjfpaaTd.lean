/- Proved here: what first answers: the place of the first of two that the map holds. Condition: a map that holds the places of first rows. -/
import Derived.Test.YtbmpdpajnmjfpaaTc
namespace Go.Proofs.Ytbmpdpajnmjfpaa
open Go.RowKit Go.Maps

attribute [local irreducible] kw
/-- Two kinds of rows, as they lie in memory. -/
structure Wl (w : World) (a : Addr) (P E : Nat → Nat) : Prop where
  lt : a.block < w.heap.size
  get : ∀ i, i < 2 → w.cell? (a.add (i * 2)) = some (.int .u16 (P i : Int)) ∧ w.cell? (a.add (i * 2 + 1)) = some (.int .u16 (E i : Int))
theorem Wl.bel {w w' : World} {a : Addr} {P E : Nat → Nat} (h : Wl w a P E) (hb : Below w.heap.size w w') : Wl w' a P E :=
  ⟨Nat.lt_of_lt_of_le h.lt hb.size, fun i hi => by
    obtain ⟨h3, h4⟩ := h.get i hi
    exact ⟨by rw [hb.cell (by rw [block_of_add]; exact h.lt)]; exact h3, by rw [hb.cell (by rw [block_of_add]; exact h.lt)]; exact h4⟩⟩
/-- The place of the first of the kinds for which there is a row. -/
def fst2 (l : List UInt8) (n : Nat) (P E : Nat → Nat) : Option Nat := match fr l (P 0) (E 0) n with
  | some x => some x
  | none => fr l (P 1) (E 1) n
theorem fst2_hit {l : List UInt8} {n k x : Nat} {P E : Nat → Nat} (hk : k < 2) (h : ∀ j, j < k → fr l (P j) (E j) n = none) (h2 : fr l (P k) (E k) n = some x) : fst2 l n P E = some x := by
  match k, hk with
  | 0, _ => unfold fst2; rw [h2]
  | 1, _ => unfold fst2; rw [h 0 (by omega)]; exact h2
theorem fst2_none {l : List UInt8} {n : Nat} {P E : Nat → Nat} (h : ∀ j, j < 2 → fr l (P j) (E j) n = none) : fst2 l n P E = none := by
  unfold fst2; rw [h 0 (by omega)]; exact h 1 (by omega)
def FstP (o : Option Nat) : Value := match o with
  | some x => .tuple #[.int .i64 (x : Int), .bool true]
  | none => .tuple #[.int .i64 0, .bool false]
set_option maxHeartbeats 2000000 in
set_option maxRecDepth 100000 in
theorem first_any (l : List UInt8) (n B : Nat) (D : DataW Unit) (a : Addr) (P E : Nat → Nat) (w : World) (ho : w.ownsMap Try.prog 42 (plainElem Try.prog 3) B n D) (hL : LinkM l n D) (hW : Wl w a P E) (hP : ∀ i, P i < 65536) (hE : ∀ i, E i < 65536) :
    Calls Try.prog 26 #[.map (some B), .slice (some a) 2 2] w fun e w' => e = .returned (FstP (fst2 l n P E)) ∧ Below w.heap.size w w' := by
  have HO := Lib.hid ho
  have HL := Lib.hid hL
  have HW := Lib.hid hW
  have HK := Lib.hid (show ∀ k, keyOf Try.prog 42 (.agg #[.int .u16 (P k : Int), .int .u16 (E k : Int)]) = some (kw (P k) (E k)) from fun k => kw_is (hP k) (hE k))
  have HH := Lib.hid (fun k => hL.has (P k) (E k) (hP k) (hE k))
  have HV := Lib.hid (fun k => hL.val (P k) (E k) (hP k) (hE k))
  clear ho hL hW hP hE
  go_enter Try.func26, Try.ntmps26
  go_wp2_with fail
  go_loopw [12] (fun i wr => ∃ k : Nat, i = .int .i64 (k : Int) ∧ k ≤ 2 ∧ (∀ j, j < k → fr l (P j) (E j) n = none) ∧ Below w.heap.size w wr) (fun i _ => 2 - (intOf i).toNat)
  case atStart => exact ⟨0, rfl, Nat.zero_le _, fun j hj => by omega, Below.refl _ _⟩
  case round =>
    obtain ⟨k, rfl, hk, hno, hb⟩ := hrel
    have HB := Lib.hid hb
    have HN := Lib.hid hno
    clear hb hno
    by_cases hgo : k < 2
    · obtain ⟨c0, c1⟩ := (HW.out.bel HB.out).get k hgo
      rw [← add_next] at c1
      have HKk := Lib.hid (HK.out k)
      have HHk := Lib.hid (HH.out k)
      have HVk := Lib.hid (HV.out k)
      have HF1 := Lib.hid (fun x h => fst2_hit (x := x) hgo HN.out h)
      have HF2 := Lib.hid (show fr l (P k) (E k) n = none → ∀ j, j < k + 1 → fr l (P j) (E j) n = none from fun h j hj => by
        rcases Nat.lt_or_ge j k with h1 | h1
        · exact HN.out j h1
        · rw [show j = k by omega]; exact h)
      obtain ⟨p, hp⟩ : ∃ p, p = P k := ⟨_, rfl⟩
      obtain ⟨q, hq⟩ : ∃ q, q = E k := ⟨_, rfl⟩
      obtain ⟨o, hoo⟩ : ∃ o, o = fr l (P k) (E k) n := ⟨_, rfl⟩
      rw [← hp] at c0
      rw [← hq] at c1
      rw [← hp, ← hq] at HKk
      rw [← hp, ← hq] at hoo
      rw [← hp, ← hq] at HHk
      rw [← hp, ← hq] at HVk
      rw [← hp, ← hq] at HF1
      rw [← hp, ← hq] at HF2
      rw [← hoo] at HHk HVk HF1 HF2
      have HB1 := Lib.hid (HB.out.alloc HB.out.size (.cells #[.int .u16 (p : Int), .int .u16 (q : Int)] 42))
      have HO1 := Lib.hid (show (wr.alloc (.cells #[.int .u16 (p : Int), .int .u16 (q : Int)] 42)).ownsMap Try.prog 42 (plainElem Try.prog 3) B n D from (HO.out.kept (grown_below HB.out) (by simp)).alloc _)
      clear hp hq hoo
      cases o with
      | none =>
        have HX := Lib.hid (HF2.out rfl)
        have hh : Maps.has D (kw p q) = false := HHk.out
        have HHH := Lib.hid hh
        clear hh
        go_wp2_with (at_lookup; refine wpList_lookup_own_ok_int _ rfl _ _ 55 rfl 42 3 .i64 lawK Try.underlying55 Try.underlying3 (zeroK _) B n D rfl HO1.out _ _ rfl HKk.out ?_; intro c hat hwc; rw [HHH.out])
        exact ⟨⟨k + 1, by simp, by omega, HX.out, HB1.out⟩, by simp [intOf]; omega⟩
      | some x =>
        have HX := Lib.hid (HF1.out x rfl)
        have HHH := Lib.hid (show Maps.has D (kw p q) = true from HHk.out)
        have HVV := Lib.hid (HVk.out x rfl)
        go_wp2_with (at_lookup; refine wpList_lookup_own_ok_int _ rfl _ _ 55 rfl 42 3 .i64 lawK Try.underlying55 Try.underlying3 (zeroK _) B n D rfl HO1.out _ _ rfl HKk.out ?_; intro c hat hwc; rw [HHH.out]; have hc : c = (x : Int) := (by have h1 := HVV.out (.lit (.int .i64 0)); rw [hat] at h1; unfold num64 at h1; injection h1 with h1; injection h1); rw [hc])
        go_ret2
        exact ⟨by rw [HX.out]; rfl, HB1.out⟩
    · obtain rfl : k = 2 := by omega
      have HX := Lib.hid (fst2_none HN.out)
      go_wp2_with fail
      go_ret2
      exact ⟨by rw [HX.out]; rfl, HB.out⟩
end Go.Proofs.Ytbmpdpajnmjfpaa
