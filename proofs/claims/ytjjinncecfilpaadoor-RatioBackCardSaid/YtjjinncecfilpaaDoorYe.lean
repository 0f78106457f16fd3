/- Proved here: what RatioBack answers: true, where package ratio's calls answer as the document's do. Condition: that they do (PrOK). -/
import Derived.Test.YtjjinncecfilpaaDoorYa
namespace Go.Proofs.YtjjinncecfilpaaDoor
open Go.RowKit

set_option maxHeartbeats 4000000 in
theorem back3_yes {T : World → Prop} (hP : PrOK T) (hQ : ParseOK T) (n d : Int) (w : World) (hn : Fit n) (hd : Fit d) (hmb : Maybe n d) (ht : T w) : Calls Tryd.prog 6 #[.agg #[.int .i64 n, .int .i64 d]] w fun e w' => e = .returned (.bool true) ∧ Below w.heap.size w w' := by
  have hb1 : decide (Maybe n d) = true := decide_eq_true hmb
  have et : textC n d = (rtxt n d, 0) := if_pos hmb
  have H1 := Lib.hid (fun W hW => hP.text n d W hn hd hW)
  have H2 := Lib.hid (fun W => may_any n d W hn hd)
  rw [et] at H1
  rw [hb1] at H2
  obtain ⟨S, hS⟩ : ∃ S : ByteArray, S = ⟨(rtxt n d).toArray⟩ := ⟨_, rfl⟩
  have hl := rtxt_len n d hn hd hmb.1
  have hpr : parL S.data.toList = (n, d, 0) := by rw [hS]; exact parL_rtxt n d hn hd hmb
  have H3 := Lib.hid (fun W hW => rate_pt hpr (hQ S W (by rw [hS]; show (rtxt n d).toArray.size ≤ _; rw [List.size_toArray]; omega) hW))
  have H4 := Lib.hid (fun W => rttext_any n d W hn hd)
  have H1 := Lib.hid (show ∀ W, T W → Calls Tryd.prog 27 #[.agg #[.int .i64 n, .int .i64 d]] W fun e w' => e = .returned (.tuple #[.string S, .int .i64 0]) ∧ Below W.heap.size W w' from fun W hW => by rw [hS]; exact H1.out W hW)
  rw [← hS] at H4
  clear hS hl hpr
  have HP0 := Lib.hid hP
  have HP := Lib.hid hP.keep
  have HB := Lib.hid (And.intro (Rt.new w n d) (bel_a w (.cells #[.int .i64 n, .int .i64 d] 24)))
  have HT := Lib.hid (hP.keep _ _ ht HB.out.2)
  clear hP hQ ht hn hd hmb hb1 et
  go_enter Tryd.func6, Tryd.ntmps6
  go_wp2_with (first
    | (go_at_call 8; (with_reducible refine (awake3_any HP0.out _ HT.out).mono ?_); rintro e w0 ⟨rfl, hb⟩; have HT := Lib.hid (HP.out _ _ HT.out hb); have HB := Lib.hid (And.intro (HB.out.1.bel hb) (bel_tr HB.out.2 hb)); have f1 := HB.out.1.c0; have f2 := HB.out.1.c1; clear hb)
    | (go_at_call 27; (with_reducible refine (H1.out _ HT.out).mono ?_); rintro e w1 ⟨rfl, hb⟩; have HT := Lib.hid (HP.out _ _ HT.out hb); have HB := Lib.hid (And.intro (HB.out.1.bel hb) (bel_tr HB.out.2 hb)); clear f1 f2 hb; have f1 := HB.out.1.c0; have f2 := HB.out.1.c1)
    | (go_at_call 12; (with_reducible refine (H2.out _).mono ?_); rintro e w2 ⟨rfl, hb⟩; have HT := Lib.hid (HP.out _ _ HT.out hb); have HB := Lib.hid (And.intro (HB.out.1.bel hb) (bel_tr HB.out.2 hb)); clear f1 f2 hb; have f1 := HB.out.1.c0; have f2 := HB.out.1.c1)
    | (go_at_call 28; (with_reducible refine (H3.out _ HT.out).mono ?_); rintro e w3 ⟨rfl, hb⟩; have hb := bel_tr hb (bel_a w3 (.cells #[.int .i64 n, .int .i64 d] 24)); have HR := Lib.hid (Rt.new w3 n d); have HB := Lib.hid (And.intro (HB.out.1.bel hb) (bel_tr HB.out.2 hb)); clear f1 f2 hb; have f1 := HB.out.1.c0; have f2 := HB.out.1.c1)
    | (go_at_call 29; (with_reducible refine (H4.out _).mono ?_); rintro e w4 ⟨rfl, hb⟩; have HR := Lib.hid (HR.out.bel hb); have g1 := HR.out.c0; have g2 := HR.out.c1; have HB := Lib.hid (And.intro (HB.out.1.bel hb) (bel_tr HB.out.2 hb)); clear f1 f2 hb; have f1 := HB.out.1.c0; have f2 := HB.out.1.c1))
  go_ret
  exact ⟨rfl, HB.out.2⟩
set_option maxHeartbeats 4000000 in
theorem back3_no {T : World → Prop} (hP : PrOK T) (n d : Int) (w : World) (hn : Fit n) (hd : Fit d) (hmb : ¬ Maybe n d) (ht : T w) : Calls Tryd.prog 6 #[.agg #[.int .i64 n, .int .i64 d]] w fun e w' => e = .returned (.bool true) ∧ Below w.heap.size w w' := by
  have hb1 : decide (Maybe n d) = false := decide_eq_false hmb
  have et : textC n d = ([], 1) := if_neg hmb
  have H1 := Lib.hid (fun W hW => hP.text n d W hn hd hW)
  have H2 := Lib.hid (fun W => may_any n d W hn hd)
  rw [et] at H1
  rw [hb1] at H2
  have HP0 := Lib.hid hP
  have HP := Lib.hid hP.keep
  have HB := Lib.hid (And.intro (Rt.new w n d) (bel_a w (.cells #[.int .i64 n, .int .i64 d] 24)))
  have HT := Lib.hid (hP.keep _ _ ht HB.out.2)
  clear hP ht hn hd hmb hb1 et
  go_enter Tryd.func6, Tryd.ntmps6
  go_wp2_with (first
    | (go_at_call 8; (with_reducible refine (awake3_any HP0.out _ HT.out).mono ?_); rintro e w0 ⟨rfl, hb⟩; have HT := Lib.hid (HP.out _ _ HT.out hb); have HB := Lib.hid (And.intro (HB.out.1.bel hb) (bel_tr HB.out.2 hb)); have f1 := HB.out.1.c0; have f2 := HB.out.1.c1; clear hb)
    | (go_at_call 27; (with_reducible refine (H1.out _ HT.out).mono ?_); rintro e w1 ⟨rfl, hb⟩; have HT := Lib.hid (HP.out _ _ HT.out hb); have HB := Lib.hid (And.intro (HB.out.1.bel hb) (bel_tr HB.out.2 hb)); clear f1 f2 hb; have f1 := HB.out.1.c0; have f2 := HB.out.1.c1)
    | (go_at_call 12; (with_reducible refine (H2.out _).mono ?_); rintro e w2 ⟨rfl, hb⟩; have HT := Lib.hid (HP.out _ _ HT.out hb); have HB := Lib.hid (And.intro (HB.out.1.bel hb) (bel_tr HB.out.2 hb)); clear f1 f2 hb; have f1 := HB.out.1.c0; have f2 := HB.out.1.c1))
  go_ret
  exact ⟨rfl, HB.out.2⟩
theorem law_back3 {T : World → Prop} (hP : PrOK T) (hQ : ParseOK T) (n d : Int) (w : World) (hn : Fit n) (hd : Fit d) (ht : T w) : Calls Tryd.prog 6 #[.agg #[.int .i64 n, .int .i64 d]] w fun e w' => e = .returned (.bool true) ∧ Below w.heap.size w w' := by
  by_cases h : Maybe n d
  · exact back3_yes hP hQ n d w hn hd h ht
  · exact back3_no hP n d w hn hd h ht
end Go.Proofs.YtjjinncecfilpaaDoor
