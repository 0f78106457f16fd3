/- Proved here: what stage 3's awake answers, where package ratio's calls answer as the document's do. Condition: that they do (PrOK). -/
import Derived.Test.YtjjinncecfilpaaDoorXo
namespace Go.Proofs.YtjjinncecfilpaaDoor
open Go.RowKit

def floorC (n d : Int) : Int × Int := if Maybe n d then (n / d, 0) else (0, 1)
def roundC (n d : Int) : Int × Int := if Maybe n d then (roundR n d, 0) else (0, 1)
def textC (n d : Int) : List UInt8 × Int := if Maybe n d then (rtxt n d, 0) else ([], 1)
/-- Package ratio's calls answer as the document's do; T is what they want of memory (the library's tables). -/
structure PrOK (T : World → Prop) : Prop where
  keep : ∀ w w', T w → Below w.heap.size w w' → T w'
  new : ∀ n d w, Fit n → Fit d → T w → Calls Tryd.prog 9 #[.int .i64 n, .int .i64 d] w (RatE (newR n d) w)
  may : ∀ n d w, Fit n → Fit d → T w → Calls Tryd.prog 11 #[.agg #[.int .i64 n, .int .i64 d]] w fun e w' => e = .returned (.bool (decide (Maybe n d))) ∧ Below w.heap.size w w'
  add : ∀ n d m c w, Fit n → Fit d → Fit m → Fit c → T w → Calls Tryd.prog 13 #[.agg #[.int .i64 n, .int .i64 d], .agg #[.int .i64 m, .int .i64 c]] w (RatE (addR n d m c) w)
  sub : ∀ n d m c w, Fit n → Fit d → Fit m → Fit c → T w → Calls Tryd.prog 14 #[.agg #[.int .i64 n, .int .i64 d], .agg #[.int .i64 m, .int .i64 c]] w (RatE (subR n d m c) w)
  mul : ∀ n d m c w, Fit n → Fit d → Fit m → Fit c → T w → Calls Tryd.prog 15 #[.agg #[.int .i64 n, .int .i64 d], .agg #[.int .i64 m, .int .i64 c]] w (RatE (mulR n d m c) w)
  div : ∀ n d m c w, Fit n → Fit d → Fit m → Fit c → T w → Calls Tryd.prog 16 #[.agg #[.int .i64 n, .int .i64 d], .agg #[.int .i64 m, .int .i64 c]] w (RatE (divR n d m c) w)
  cmp : ∀ n d m c w, Fit n → Fit d → Fit m → Fit c → T w → Calls Tryd.prog 21 #[.agg #[.int .i64 n, .int .i64 d], .agg #[.int .i64 m, .int .i64 c]] w fun e w' => e = .returned (.tuple #[.int .i64 (cmpR n d m c).1, .int .i64 (cmpR n d m c).2]) ∧ Below w.heap.size w w'
  floor : ∀ n d w, Fit n → Fit d → T w → Calls Tryd.prog 23 #[.agg #[.int .i64 n, .int .i64 d]] w fun e w' => e = .returned (.tuple #[.int .i64 (floorC n d).1, .int .i64 (floorC n d).2]) ∧ Below w.heap.size w w'
  round : ∀ n d w, Fit n → Fit d → T w → Calls Tryd.prog 24 #[.agg #[.int .i64 n, .int .i64 d]] w fun e w' => e = .returned (.tuple #[.int .i64 (roundC n d).1, .int .i64 (roundC n d).2]) ∧ Below w.heap.size w w'
  text : ∀ n d w, Fit n → Fit d → T w → Calls Tryd.prog 27 #[.agg #[.int .i64 n, .int .i64 d]] w fun e w' => e = .returned (.tuple #[.string ⟨(textC n d).1.toArray⟩, .int .i64 (textC n d).2]) ∧ Below w.heap.size w w'
/-- So does its Parse. -/
def ParseOK (T : World → Prop) : Prop := ∀ (s : ByteArray) w, s.size ≤ 1000000000 → T w → Calls Tryd.prog 28 #[.string s] w (RatE (parL s.data.toList) w)
theorem aw_fit : Fit 6 ∧ Fit (-4) ∧ Fit (-3) ∧ Fit 2 := by unfold Fit; omega
theorem aw_may : Maybe (-3) 2 := ⟨by decide, by decide⟩
theorem aw_new : newR 6 (-4) = (-3, 2, 0) := by
  have h1 : lowN 6 (-4) = -3 := by decide
  have h2 : lowD 6 (-4) = 2 := by decide
  unfold newR low
  rw [if_neg (by decide), h1, h2, if_pos ⟨aw_fit.2.2.1, aw_fit.2.2.2⟩]
theorem aw_floor : floorC (-3) 2 = (-2, 0) := by unfold floorC; rw [if_pos aw_may]; rfl
theorem aw_round : roundC (-3) 2 = (-1, 0) := by unfold roundC; rw [if_pos aw_may]; rfl
theorem aw_rtxt : rtxt (-3) 2 = [45, 51, 47, 50] := by
  have e3 : Lib.decDigits 3 = [51] := by rw [Lib.decDigits_one (by decide)]; rfl
  have e2 : Lib.decDigits 2 = [50] := by rw [Lib.decDigits_one (by decide)]; rfl
  have t3 : txt (-3) = [45, 51] := by unfold txt; rw [if_pos (by decide)]; show 45 :: Lib.decDigits 3 = _; rw [e3]
  have t2 : txt 2 = [50] := by unfold txt; rw [if_neg (by decide)]; exact e2
  unfold rtxt
  rw [if_neg (by decide), t3, t2]
  rfl
theorem aw_text : textC (-3) 2 = ([45, 51, 47, 50], 0) := by unfold textC; rw [if_pos aw_may, aw_rtxt]
theorem rate_pt {r : Int × Int × Int} {p q k : Int} (hr : r = (p, q, k)) {f : Nat} {args : Array Value} {w : World} (h : Calls Tryd.prog f args w (RatE r w)) : Calls Tryd.prog f args w fun e w' => e = .returned (.tuple #[.agg #[.int .i64 p, .int .i64 q], .int .i64 k]) ∧ Below w.heap.size w w' := by
  subst hr
  exact h
set_option maxHeartbeats 2000000 in
theorem awake3_any {T : World → Prop} (hP : PrOK T) (w : World) (ht : T w) : Calls Tryd.prog 8 #[] w fun e w' => e = .returned (.bool true) ∧ Below w.heap.size w w' := by
  have HT := Lib.hid ht
  have H1 := Lib.hid (fun W hW => rate_pt aw_new (hP.new 6 (-4) W aw_fit.1 aw_fit.2.1 hW))
  have H2 := Lib.hid (fun W hW => hP.floor (-3) 2 W aw_fit.2.2.1 aw_fit.2.2.2 hW)
  have H3 := Lib.hid (fun W hW => hP.round (-3) 2 W aw_fit.2.2.1 aw_fit.2.2.2 hW)
  have H4 := Lib.hid (fun W hW => hP.text (-3) 2 W aw_fit.2.2.1 aw_fit.2.2.2 hW)
  rw [aw_floor] at H2
  rw [aw_round] at H3
  rw [aw_text] at H4
  have HP := Lib.hid hP.keep
  clear ht hP
  go_enter Tryd.func8, Tryd.ntmps8
  go_wp2_with (first
    | (go_at_call 9; (with_reducible refine (H1.out _ HT.out).mono ?_); rintro e w1 ⟨rfl, hb⟩; have hb := bel_tr hb (bel_a w1 (.cells #[.int .i64 (-3), .int .i64 2] 24)); have HT := Lib.hid (HP.out _ _ HT.out hb); have HB := Lib.hid (And.intro (Rt.new w1 (-3) 2) hb); have f1 := HB.out.1.c0; have f2 := HB.out.1.c1; clear hb)
    | (go_at_call 23; (with_reducible refine (H2.out _ HT.out).mono ?_); rintro e w2 ⟨rfl, hb⟩; have HT := Lib.hid (HP.out _ _ HT.out hb); have HB := Lib.hid (And.intro (HB.out.1.bel hb) (bel_tr HB.out.2 hb)); clear f1 f2 hb; have f1 := HB.out.1.c0; have f2 := HB.out.1.c1)
    | (go_at_call 24; (with_reducible refine (H3.out _ HT.out).mono ?_); rintro e w3 ⟨rfl, hb⟩; have HT := Lib.hid (HP.out _ _ HT.out hb); have HB := Lib.hid (And.intro (HB.out.1.bel hb) (bel_tr HB.out.2 hb)); clear f1 f2 hb; have f1 := HB.out.1.c0; have f2 := HB.out.1.c1)
    | (go_at_call 27; (with_reducible refine (H4.out _ HT.out).mono ?_); rintro e w4 ⟨rfl, hb⟩; have HT := Lib.hid (HP.out _ _ HT.out hb); have HB := Lib.hid (And.intro (HB.out.1.bel hb) (bel_tr HB.out.2 hb)); clear f1 f2 hb; have f1 := HB.out.1.c0; have f2 := HB.out.1.c1))
  go_ret
  exact ⟨rfl, HB.out.2⟩
end Go.Proofs.YtjjinncecfilpaaDoor
