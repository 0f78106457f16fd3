/- Proved here: what BigBack answers: true. Condition: a number in any form that lies in memory, and the library's table of powers of ten at its place. -/
import Derived.Test.YthmpkejdficmgaaDoorTb
import Derived.Test.YthmpkejdficmgaaDoorSc
namespace Go.Proofs.YthmpkejdficmgaaDoor
open Go.RowKit
open Go.Lib (decDigits nDigits)

theorem lim4 (k x : Nat) (hx : x < 4294967296 ^ (4 * k)) : x < 10 ^ (39 * k) := by
  rw [Nat.pow_mul] at hx ⊢
  exact Nat.lt_of_lt_of_le hx (Nat.pow_le_pow_left (by decide) k)
theorem txt_len (x : Int) (hx : x.natAbs < 4294967296 ^ 40) : (txt x).length ≤ 391 := by
  have h1 : nDigits x.natAbs ≤ 39 * 10 := (pad_dec (39 * 10) x.natAbs (lim4 10 x.natAbs hx) (by decide)).2
  unfold txt
  split
  · rw [List.length_cons, Lib.decDigits_length]; omega
  · rw [Lib.decDigits_length]; omega
theorem parse_txt (x : Int) (w : World) (hx : x.natAbs < 4294967296 ^ 40) : Calls Tryd.prog 31 #[.string ⟨(txt x).toArray⟩] w (ParE 0 x 400 w) := by
  have hl := txt_len x hx
  have h := parse_any ⟨(txt x).toArray⟩ w (by show (txt x).toArray.size ≤ _; rw [List.size_toArray]; omega)
  have e1 : pcode (txt x) = 0 := by unfold pcode; rw [if_neg (by omega), if_pos (txt_back x).1]
  have e2 : pnum (txt x) = x := by unfold pnum; rw [if_pos e1]; exact (txt_back x).2
  have e3 : (⟨(txt x).toArray⟩ : ByteArray).data.toList = txt x := rfl
  rw [e3, e1, e2] at h
  exact h
/-- What stands in memory: a number, the document's, and the one that was read. -/
structure BkH (w W : World) (b : Bool) (v : Value) (g : Nat) (bx : Bool) (vx : Value) (h : Nat) (bb : Bool) (vb : Value) (x : Int) : Prop where
  S : SmH w W b v g bx vx x
  B : Bx 24 W h bb vb
  M : BigC W (.agg #[.bool bb, vb]) x 400
section
variable {w W W' : World} {b bx bb : Bool} {v vx vb : Value} {g h : Nat} {x : Int}
theorem BkH.next (H : BkH w W b v g bx vx h bb vb x) (hb : Below W.heap.size W W') : BkH w W' b v g bx vx h bb vb x := ⟨H.S.next hb, H.B.bel hb, H.M.bel hb⟩
theorem BkH.drew (H : BkH w W b v g bx vx h bb vb x) : BkH w W.drew b v g bx vx h bb vb x := ⟨H.S.drew, H.B, H.M⟩
theorem BkH.facts (H : BkH w W b v g bx vx h bb vb x) : W.cell? ⟨g, 0, none⟩ = some (.bool bx) ∧ W.cell? ⟨g, 1, none⟩ = some vx ∧ W.cell? ⟨h, 0, none⟩ = some (.bool bb) ∧ W.cell? ⟨h, 1, none⟩ = some vb :=
  ⟨H.S.X.c0, H.S.X.c1, H.B.c0, H.B.c1⟩
end
set_option maxHeartbeats 4000000 in
theorem back_core (x : Int) (b : Bool) (v : Value) (xs : List Nat) (w : World) (hv : Arr w .u32 v xs) (hx : Eg xs) (hxl : xs.length ≤ 40) (hxv : x = sv b (dw xs)) (ht : Tab w) :
    Calls Tryd.prog 5 #[.agg #[.bool b, v]] w fun e w' => e = .returned (.bool true) ∧ Below w.heap.size w w' := by
  have hxb : x.natAbs < 4294967296 ^ 40 := by
    have h1 := dw_lt hx
    have h2 : x.natAbs = dw xs := by rw [hxv]; cases b <;> simp [sv]
    rw [h2]
    exact Nat.lt_of_lt_of_le h1 (Nat.pow_le_pow_right (by decide) hxl)
  obtain ⟨A, c, rfl⟩ := hv.slice
  obtain ⟨p, hp⟩ : ∃ p, p = xs.length := ⟨_, rfl⟩
  have hbel0 : Below w.heap.size w (w.alloc (.cells #[.bool b, .slice A p c] 24)) := bel_a w _
  rw [← hp] at hv hxl ⊢
  have HA := Lib.hid (show BigA (w.alloc (.cells #[.bool b, .slice A p c] 24)) (.agg #[.bool b, .slice A p c]) x 40 from ⟨b, _, xs, rfl, hv.bel hbel0, hx, by omega, hxv.symm⟩)
  have HB := Lib.hid (And.intro (Bx.new 24 w b (.slice A p c)) hbel0)
  have HT := Lib.hid (ht.below hbel0)
  have HTW := Lib.hid ht
  have HP := Lib.hid (fun W => parse_txt x W hxb)
  have hd : decide (40 < (p : Int)) = false := decide_eq_false (by omega)
  clear hv hx hp hxv hbel0 ht hxb
  go_enter Tryd.func5, Tryd.ntmps5
  go_wp2_with (first
    | (go_at_call 8; (with_reducible refine (awake_any _ HT.out).mono ?_); rintro e w1 ⟨rfl, hb⟩; have HA := Lib.hid (HA.out.bel hb); have HB := Lib.hid (And.intro (HB.out.1.bel hb) (bel_tr HB.out.2 hb)); have f1 := HB.out.1.c0; have f2 := HB.out.1.c1; clear hb)
    | (go_at_call 9; (with_reducible refine (from_any _ x 40 _ HA.out (by decide)).mono ?_); rintro e w2 ⟨Z, rfl, ⟨bx, vx, zx, rfl, hvx, hx2⟩, hb⟩; obtain ⟨Ax, cx, rfl⟩ := hvx.slice; have H := Lib.hid (show SmH w (w2.alloc (.cells #[.bool bx, .slice Ax zx.length cx] 28)) b (.slice A p c) w2.heap.size bx (.slice Ax zx.length cx) x from ⟨(HB.out.1.bel hb).alloc _, (HA.out.bel hb).bel (bel_a _ _), Bx.new 28 w2 _ _, NumC.bel ⟨bx, _, zx, rfl, hvx, hx2⟩ (bel_a _ _), bel_tr (bel_tr HB.out.2 hb) (bel_a _ _)⟩); have HTX := Lib.hid (HTW.out.below H.out.bel); obtain ⟨f1, f2, f3, f4⟩ := H.out.facts; clear hvx hx2 hb)
    | (go_at_call 30; (with_reducible refine (text_any _ x 40 _ H.out.A (by decide) HTX.out).mono ?_); rintro e w3 ⟨rfl, hb⟩; have H := Lib.hid (H.out.next hb); clear hb)
    | (go_at_call 31; (with_reducible refine (HP.out _).mono ?_); rintro e w4 ⟨Z4, rfl, ⟨n4, v4, x4, rfl, hv4, h4⟩, hb⟩; obtain ⟨A4, c4, rfl⟩ := hv4.slice; have H4 := Lib.hid (show BkH w (w4.alloc (.cells #[.bool n4, .slice A4 x4.length c4] 24)) b (.slice A p c) w2.heap.size bx (.slice Ax zx.length cx) w4.heap.size n4 (.slice A4 x4.length c4) x from ⟨(H.out.next hb).next (bel_a _ _), Bx.new 24 w4 _ _, BigC.bel ⟨n4, _, x4, rfl, hv4, h4⟩ (bel_a _ _)⟩); clear hv4 h4 hb))
  go_region_held3 (fun w' => w'.cell? ⟨w2.heap.size, 0, none⟩ = some (.bool bx) ∧ w'.cell? ⟨w2.heap.size, 1, none⟩ = some (.slice Ax zx.length cx) ∧ w'.cell? ⟨w4.heap.size, 0, none⟩ = some (.bool n4) ∧ w'.cell? ⟨w4.heap.size, 1, none⟩ = some (.slice A4 x4.length c4))
    (first | exact H4.out.facts | exact H4.out.drew.facts | go_keep)
    (first
      | (go_at_call 32; (with_reducible refine (rtext_any _ x 80 _ H4.out.drew.S.N (by decide)).mono ?_); rintro e w5 ⟨rfl, hb⟩; have H4 := Lib.hid (H4.out.drew.next hb))
      | (go_at_call 12; (with_reducible refine (to_any _ x 80 _ H4.out.S.N (by decide)).mono ?_); rintro e w6 ⟨Z6, rfl, hZ6, hb⟩; have HZ6 := Lib.hid hZ6; have H4 := Lib.hid (H4.out.next hb))
      | (go_at_call 10; (with_reducible refine (same_any _ Z6 x 400 _ _ H4.out.M HZ6.out (by decide)).mono ?_); rintro e w7 ⟨rfl, hb⟩; have H4 := Lib.hid (H4.out.next hb)))
  all_goals
    go_wp2_with fail
    go_ret
    exact ⟨rfl, H4.out.S.bel⟩
set_option maxHeartbeats 2000000 in
theorem back_long (b : Bool) (v : Value) (xs : List Nat) (w : World) (hv : Arr w .u32 v xs) (hxl : 40 < xs.length) (ht : Tab w) :
    Calls Tryd.prog 5 #[.agg #[.bool b, v]] w fun e w' => e = .returned (.bool true) ∧ Below w.heap.size w w' := by
  obtain ⟨A, c, rfl⟩ := hv.slice
  obtain ⟨p, hp⟩ : ∃ p, p = xs.length := ⟨_, rfl⟩
  have hbel0 : Below w.heap.size w (w.alloc (.cells #[.bool b, .slice A p c] 24)) := bel_a w _
  rw [← hp] at hxl ⊢
  have HB := Lib.hid (And.intro (Bx.new 24 w b (.slice A p c)) hbel0)
  have HT := Lib.hid (ht.below hbel0)
  have hd : decide (40 < (p : Int)) = true := decide_eq_true (by omega)
  clear hv hp hbel0 ht
  go_enter Tryd.func5, Tryd.ntmps5
  go_wp2_with (go_at_call 8; (with_reducible refine (awake_any _ HT.out).mono ?_); rintro e w1 ⟨rfl, hb⟩; have HB := Lib.hid (And.intro (HB.out.1.bel hb) (bel_tr HB.out.2 hb)); have f1 := HB.out.1.c0; have f2 := HB.out.1.c1; clear hb)
  go_ret
  exact ⟨rfl, HB.out.2⟩
theorem law_back (b : Bool) (v : Value) (xs : List Nat) (w : World) (hv : Arr w .u32 v xs) (hx : Eg xs) (ht : Tab w) :
    Calls Tryd.prog 5 #[.agg #[.bool b, v]] w fun e w' => e = .returned (.bool true) ∧ Below w.heap.size w w' := by
  by_cases h1 : 40 < xs.length
  · exact back_long b v xs w hv h1 ht
  · exact back_core _ b v xs w hv hx (by omega) rfl ht
end Go.Proofs.YthmpkejdficmgaaDoor
