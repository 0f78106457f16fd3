/- Proved here: what awake answers. Condition: the library's table of powers of ten at its place. -/
import Derived.Test.YthmpkejdficmgaaDoorRf
namespace Go.Proofs.YthmpkejdficmgaaDoor
open Go.RowKit

def awt : List UInt8 := [45, 49, 56, 52, 52, 54, 55, 52, 52, 48, 55, 51, 55, 48, 57, 53, 53, 49, 54, 49, 54]
def awn : Int := -18446744073709551616
theorem aw_ok : okN awt = true := by decide
theorem aw_val : pval awt = awn := by decide
theorem aw_txt : txt awn = awt := by rw [← aw_val]; exact back_txt _ aw_ok
theorem aw_parse (w : World) : Calls Tryd.prog 31 #[.string ⟨#[45, 49, 56, 52, 52, 54, 55, 52, 52, 48, 55, 51, 55, 48, 57, 53, 53, 49, 54, 49, 54]⟩] w (ParE 0 awn 400 w) := by
  have h := parse_any ⟨#[45, 49, 56, 52, 52, 54, 55, 52, 52, 48, 55, 51, 55, 48, 57, 53, 53, 49, 54, 49, 54]⟩ w (by decide)
  have e1 : pcode awt = 0 := by unfold pcode; rw [if_neg (by decide), if_pos aw_ok]
  have e2 : pnum awt = awn := by unfold pnum; rw [if_pos e1]; exact aw_val
  rw [show (⟨#[45, 49, 56, 52, 52, 54, 55, 52, 52, 48, 55, 51, 55, 48, 57, 53, 53, 49, 54, 49, 54]⟩ : ByteArray).data.toList = awt from rfl, e1, e2] at h
  exact h
theorem aw_text (X : Value) (l : Nat) (w : World) (hX : BigA w X awn l) (hl : l ≤ 50000) (ht : Tab w) : Calls Tryd.prog 30 #[X] w fun e w' => e = .returned (.string ⟨#[45, 49, 56, 52, 52, 54, 55, 52, 52, 48, 55, 51, 55, 48, 57, 53, 53, 49, 54, 49, 54]⟩) ∧ Below w.heap.size w w' := by
  have h := text_any X awn l w hX hl ht
  rw [aw_txt] at h
  exact h
/-- What stands in memory: a and b, each the number. -/
structure AwH (w W : World) (ga gb : Nat) (n m : Bool) (v u : Value) : Prop where
  a : Bx 24 W ga n v
  b : Bx 24 W gb m u
  x : BigA W (.agg #[.bool n, v]) awn 4
  y : BigA W (.agg #[.bool m, u]) awn 400
  bel : Below w.heap.size w W
theorem AwH.next {w W W' : World} {ga gb : Nat} {n m : Bool} {v u : Value} (h : AwH w W ga gb n m v u) (hb : Below W.heap.size W W') : AwH w W' ga gb n m v u :=
  ⟨h.a.bel hb, h.b.bel hb, h.x.bel hb, h.y.bel hb, bel_tr h.bel hb⟩
theorem AwH.facts {w W : World} {ga gb : Nat} {n m : Bool} {v u : Value} (h : AwH w W ga gb n m v u) : W.cell? ⟨ga, 0, none⟩ = some (.bool n) ∧ W.cell? ⟨ga, 1, none⟩ = some v ∧ W.cell? ⟨gb, 0, none⟩ = some (.bool m) ∧ W.cell? ⟨gb, 1, none⟩ = some u :=
  ⟨h.a.c0, h.a.c1, h.b.c0, h.b.c1⟩
theorem aw_cmp (X Y : Value) (w : World) (hX : BigA w X awn 4) (hY : BigA w Y awn 400) : Calls Tryd.prog 20 #[X, Y] w fun e w' => e = .returned (.int .i64 0) ∧ Below w.heap.size w w' := cmp_any X Y awn awn 4 400 w hX hY (by decide)
theorem aw_sign (X : Value) (w : World) (hX : BigA w X awn 4) : Calls Tryd.prog 22 #[X] w fun e w' => e = .returned (.int .i64 (-1)) ∧ Below w.heap.size w w' := sign_any X awn 4 w hX
theorem aw_bits (X : Value) (w : World) (hX : BigA w X awn 4) : Calls Tryd.prog 28 #[X] w fun e w' => e = .returned (.int .i64 65) ∧ Below w.heap.size w w' :=
  (bits_any X awn 4 w hX (by decide)).mono fun _ _ ⟨n, h1, h2, h3⟩ => ⟨by rw [h1, h2.one (show IsBits awn.natAbs 65 from ⟨by decide, .inr (by decide)⟩)]; rfl, h3⟩
theorem aw_sub (X Y : Value) (w : World) (hX : BigA w X awn 4) (hY : BigA w Y awn 400) : Calls Tryd.prog 14 #[X, Y] w (BigE 0 401 w) := sub_any X Y awn awn 4 400 w hX hY (by decide) (by decide)
theorem aw_sign0 (X : Value) (w : World) (hX : BigA w X 0 401) : Calls Tryd.prog 22 #[X] w fun e w' => e = .returned (.int .i64 0) ∧ Below w.heap.size w w' := sign_any X 0 401 w hX
set_option maxHeartbeats 4000000 in
theorem awake_any (w : World) (ht : Tab w) : Calls Tryd.prog 8 #[] w fun e w' => e = .returned (.bool true) ∧ Below w.heap.size w w' := by
  have HT := Lib.hid ht
  clear ht
  have HO1 := Lib.hid (fun W => of_any (-4611686018427387904) W (by decide) (by decide))
  have HO2 := Lib.hid (fun W => of_any 4 W (by decide) (by decide))
  go_enter Tryd.func8, Tryd.ntmps8
  go_wp2_with (first
    | (go_at_call 25; (with_reducible refine (HO1.out _).mono ?_); rintro e w1 ⟨Z1, rfl, hZ1, hb1⟩; have HZ1 := Lib.hid hZ1; have HB1 := Lib.hid hb1; clear hZ1 hb1)
    | (go_at_call 25; (with_reducible refine (HO2.out _).mono ?_); rintro e w2 ⟨Z2, rfl, hZ2, hb2⟩; have HZ2 := Lib.hid hZ2; have HZ1 := Lib.hid (HZ1.out.bel hb2); have HB2 := Lib.hid (bel_tr HB1.out hb2); clear hZ2 hb2)
    | (go_at_call 16; (with_reducible refine (mul_any _ _ _ _ 2 2 _ HZ1.out.any HZ2.out.any (by decide) (by decide)).mono ?_); rintro e w3 ⟨Z3, rfl, ⟨n3, v3, x3, rfl, hv3, h3⟩, hb3⟩; obtain ⟨A3, c3, rfl⟩ := hv3.slice; have HX3 := Lib.hid (And.intro (show BigA w3 (.agg #[.bool n3, .slice A3 x3.length c3]) awn 4 from ⟨n3, _, x3, rfl, hv3, h3.1, h3.2.2.1, h3.2.2.2⟩) (bel_tr HB2.out hb3)); clear hv3 h3 hb3)
    | (go_at_call 31; (with_reducible refine (aw_parse _).mono ?_); rintro e w4 ⟨Z4, rfl, ⟨n4, v4, x4, rfl, hv4, h4⟩, hb4⟩; obtain ⟨A4, c4, rfl⟩ := hv4.slice; have H := Lib.hid (show AwH w (w4.alloc (.cells #[.bool n4, .slice A4 x4.length c4] 24)) w3.heap.size w4.heap.size n3 n4 (.slice A3 x3.length c3) (.slice A4 x4.length c4) from ⟨((Bx.new 24 w3 _ _).bel hb4).alloc _, Bx.new 24 w4 _ _, (HX3.out.1.bel (bel1 hb4)).bel (bel_a w4 _), BigA.bel ⟨n4, _, x4, rfl, hv4, h4.1, h4.2.2.1, h4.2.2.2⟩ (bel_a w4 _), bel_tr (bel_tr HX3.out.2 (bel1 hb4)) (bel_a w4 _)⟩); have HTX := Lib.hid (HT.out.below H.out.bel); obtain ⟨f1, f2, f3, f4⟩ := H.out.facts; clear hv4 h4 hb4)
    | (go_at_call 30; (with_reducible refine (aw_text _ 4 _ H.out.x (by decide) HTX.out).mono ?_); rintro e w5 ⟨rfl, hb5⟩; have H := Lib.hid (H.out.next hb5); clear f1 f2 f3 f4 hb5; obtain ⟨f1, f2, f3, f4⟩ := H.out.facts)
    | (go_at_call 20; (with_reducible refine (aw_cmp _ _ _ H.out.x H.out.y).mono ?_); rintro e w6 ⟨rfl, hb5⟩; have H := Lib.hid (H.out.next hb5); clear f1 f2 f3 f4 hb5; obtain ⟨f1, f2, f3, f4⟩ := H.out.facts)
    | (go_at_call 22; (with_reducible refine (aw_sign _ _ H.out.x).mono ?_); rintro e w7 ⟨rfl, hb5⟩; have H := Lib.hid (H.out.next hb5); clear f1 f2 f3 f4 hb5; obtain ⟨f1, f2, f3, f4⟩ := H.out.facts)
    | (go_at_call 28; (with_reducible refine (aw_bits _ _ H.out.x).mono ?_); rintro e w8 ⟨rfl, hb5⟩; have H := Lib.hid (H.out.next hb5); clear f1 f2 f3 f4 hb5; obtain ⟨f1, f2, f3, f4⟩ := H.out.facts)
    | (go_at_call 14; (with_reducible refine (aw_sub _ _ _ H.out.x H.out.y).mono ?_); rintro e w9 ⟨Z9, rfl, hZ9, hb5⟩; have HZ9 := Lib.hid hZ9; have H := Lib.hid (H.out.next hb5); clear f1 f2 f3 f4 hb5 hZ9; obtain ⟨f1, f2, f3, f4⟩ := H.out.facts)
    | (go_at_call 22; (with_reducible refine (aw_sign0 _ _ HZ9.out.any).mono ?_); rintro e w10 ⟨rfl, hb5⟩; have HE := Lib.hid (bel_tr H.out.bel hb5)))
  go_ret
  exact ⟨rfl, HE.out⟩
end Go.Proofs.YthmpkejdficmgaaDoor
