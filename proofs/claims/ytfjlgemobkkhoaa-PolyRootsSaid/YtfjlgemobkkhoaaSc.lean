/- Proved here: the law PolyValues returns true. Condition: a list of numbers that lies in memory, and a fraction of 64 bits. -/
import Derived.Test.YtfjlgemobkkhoaaSb
namespace Go.Proofs.Ytfjlgemobkkhoaa
open Go.RowKit

/-- A fraction in its box, and the document's polynomial. -/
structure LvS (w W : World) (n d : Int) (y : Value) (T : List Int) : Prop where
  bel : Below w.heap.size w W
  x : Rt W w.heap.size n d
  py : Pol .n W y T 20
theorem LvS.next {w W W' : World} {n d : Int} {y : Value} {T : List Int} (h : LvS w W n d y T) (hb : Below W.heap.size W W') : LvS w W' n d y T := ⟨bel_tr h.bel hb, h.x.below hb h.x.lt, h.py.bel hb⟩
theorem LvS.drew {w W : World} {n d : Int} {y : Value} {T : List Int} (h : LvS w W n d y T) : LvS w W.drew n d y T := h.next ((Below.refl _ _).drew)
/-- A number in its box. -/
def VxS (W : World) (g : Nat) (b : Bool) (v : Value) (z : Int) (l : Nat) : Prop := Bx 38 W g b v ∧ El .c W (.agg #[.bool b, v]) z l
theorem VxS.next {W W' : World} {g : Nat} {b : Bool} {v : Value} {z : Int} {l : Nat} (h : VxS W g b v z l) (hb : Below W.heap.size W W') : VxS W' g b v z l := ⟨h.1.bel hb, h.2.bel hb⟩
theorem VxS.big {W : World} {g : Nat} {b : Bool} {v : Value} {z : Int} {l : Nat} (h : VxS W g b v z l) : BigC W (.agg #[.bool b, v]) z l := h.2
theorem VxS.new (W : World) {b : Bool} {v : Value} {z : Int} {l : Nat} (h : El .c W (.agg #[.bool b, v]) z l) : VxS (W.alloc (.cells #[.bool b, v] 38)) W.heap.size b v z l := ⟨Bx.new 38 W _ _, h.bel (bel_a _ _)⟩
theorem rt_start (w : World) (n d : Int) : Rt (w.alloc (.cells #[.int .i64 n, .int .i64 d] 35)) w.heap.size n d ∧ Below w.heap.size w (w.alloc (.cells #[.int .i64 n, .int .i64 d] 35)) := ⟨Rt.new w n d, bel_a _ _⟩
set_option maxRecDepth 100000 in
set_option maxHeartbeats 4000000 in
theorem law_values_big (A : Option Addr) (m c : Nat) (L : List Int) (l : Nat) (n d : Int) (w : World) (h : Pol .a w (.slice A m c) L l) (h1 : ¬ SmP w A m) :
    Calls Try.prog 4 #[.slice A m c, .agg #[.int .i64 n, .int .i64 d]] w fun e w' => e = .returned (.bool true) ∧ Below w.heap.size w w' := by
  have H1 := Lib.hid (fun W hW => small5_no A m c L l w W h hW h1)
  have HAW := Lib.hid awake_any
  have HB := Lib.hid (rt_start w n d).2
  clear h h1
  go_enter Try.func4, Try.ntmps4
  go_wp2_with (first
    | (go_at_call 7; (with_reducible refine (HAW.out _).mono ?_); rintro e w1 ⟨rfl, hb⟩; have HB := Lib.hid (bel_tr HB.out hb); clear hb)
    | (go_at_call 8; (with_reducible refine (H1.out _ HB.out).mono ?_); rintro e w2 ⟨rfl, hb⟩; have HB := Lib.hid (bel_tr HB.out hb); clear hb))
  go_ret
  exact ⟨rfl, HB.out⟩
set_option maxRecDepth 100000 in
set_option maxHeartbeats 4000000 in
theorem law_values_no (A : Option Addr) (m c : Nat) (L : List Int) (l : Nat) (n d : Int) (w : World) (h : Pol .a w (.slice A m c) L l) (hn : Fit n) (hd : Fit d) (h1 : SmP w A m) (hmb : ¬ Maybe n d) :
    Calls Try.prog 4 #[.slice A m c, .agg #[.int .i64 n, .int .i64 d]] w fun e w' => e = .returned (.bool true) ∧ Below w.heap.size w w' := by
  have H1 := Lib.hid (fun W hW => small5_yes A m c L l w W h hW h1)
  have HP := Lib.hid (h.small h1.2)
  have hm := h1.1
  have HAW := Lib.hid awake_any
  have hmd : decide (Maybe n d) = false := decide_eq_false hmb
  have HM := Lib.hid (fun W => may5_any n d W hn hd)
  rw [hmd] at HM
  have HA := Lib.hid (fun W => pat_no (.slice A m c) n d W hn hd hmb)
  have HW := Lib.hid (fun W => pwo_no (.slice A m c) n d W hn hd hmb)
  have HB := Lib.hid (rt_start w n d)
  obtain ⟨f0, f1⟩ := rt_facts HB.out.1
  clear h h1 hmb hmd hn hd
  go_enter Try.func4, Try.ntmps4
  go_upto_region 7 with (first
    | (go_at_call 7; (with_reducible refine (HAW.out _).mono ?_); rintro e w1 ⟨rfl, hb⟩; have HB := Lib.hid (And.intro (HB.out.1.below hb HB.out.1.lt) (bel_tr HB.out.2 hb)); clear hb f0 f1; obtain ⟨f0, f1⟩ := rt_facts HB.out.1)
    | (go_at_call 8; (with_reducible refine (H1.out _ HB.out.2).mono ?_); rintro e w2 ⟨rfl, hb⟩; have HB := Lib.hid (And.intro (HB.out.1.below hb HB.out.1.lt) (bel_tr HB.out.2 hb)); clear hb f0 f1; obtain ⟨f0, f1⟩ := rt_facts HB.out.1)
    | (go_at_call 9; (with_reducible refine (from5_any A m c L 10 _ (HP.out.bel HB.out.2) (by omega) (by omega)).mono ?_); rintro e w4 ⟨Ax, cx, rfl, hp, hb⟩; have HB := Lib.hid (And.intro (HB.out.1.below hb HB.out.1.lt) (bel_tr HB.out.2 hb)); clear hp hb f0 f1; obtain ⟨f0, f1⟩ := rt_facts HB.out.1)
    | (go_at_call 20; (with_reducible refine (HA.out _).mono ?_); rintro e w5 ⟨rfl, hb⟩; have HB := Lib.hid (And.intro (HB.out.1.below hb HB.out.1.lt) (bel_tr HB.out.2 hb)); clear hb f0 f1; obtain ⟨f0, f1⟩ := rt_facts HB.out.1))
  have HV := Lib.hid (show Bx 38 (w5.alloc (.cells #[.bool false, .slice none 0 0] 38)) w5.heap.size false (.slice none 0 0) ∧ Rt (w5.alloc (.cells #[.bool false, .slice none 0 0] 38)) w.heap.size n d ∧ Below w.heap.size w (w5.alloc (.cells #[.bool false, .slice none 0 0] 38)) from
    ⟨Bx.new 38 w5 _ _, HB.out.1.alloc _, bel_tr HB.out.2 (bel_a _ _)⟩)
  obtain ⟨gv, hgv⟩ : ∃ gv, gv = w5.heap.size := ⟨_, rfl⟩
  obtain ⟨W6, hW6⟩ : ∃ W6, W6 = w5.alloc (.cells #[.bool false, .slice none 0 0] 38) := ⟨_, rfl⟩
  rw [← hW6] at HV ⊢
  rw [← hgv] at HV ⊢
  clear hgv hW6 f0 f1 HB
  obtain ⟨f0, f1⟩ := rt_facts HV.out.2.1
  have k0 := HV.out.1.c0
  have k1 := HV.out.1.c1
  go_wp2_with (first
    | (go_at_call 21; (with_reducible refine (HW.out _).mono ?_); rintro e w7 ⟨rfl, hb⟩; have HV := Lib.hid (And.intro (HV.out.1.bel hb) (And.intro (HV.out.2.1.below hb HV.out.2.1.lt) (bel_tr HV.out.2.2 hb))); clear hb f0 f1 k0 k1; obtain ⟨f0, f1⟩ := rt_facts HV.out.2.1; have k0 := HV.out.1.c0; have k1 := HV.out.1.c1)
    | (go_at_call 22; (with_reducible refine (HM.out _).mono ?_); rintro e w8 ⟨rfl, hb⟩; have HV := Lib.hid (And.intro (HV.out.1.bel hb) (And.intro (HV.out.2.1.below hb HV.out.2.1.lt) (bel_tr HV.out.2.2 hb))); clear hb f0 f1 k0 k1; obtain ⟨f0, f1⟩ := rt_facts HV.out.2.1; have k0 := HV.out.1.c0; have k1 := HV.out.1.c1))
  go_ret
  exact ⟨rfl, HV.out.2.2⟩
end Go.Proofs.Ytfjlgemobkkhoaa
