/- Proved here: what RatioOrder answers: true, where package ratio's calls answer as the document's do. Condition: that they do (PrOK). -/
import Derived.Test.YtjjinncecfilpaaDoorYa
namespace Go.Proofs.YtjjinncecfilpaaDoor
open Go.RowKit

set_option maxHeartbeats 8000000 in
theorem order3_yes {T : World → Prop} (hP : PrOK T) (n d m c : Int) (w : World) (hn : Fit n) (hd : Fit d) (hm : Fit m) (hc : Fit c) (hmb : Maybe n d) (ht : T w) : Calls Tryd.prog 5 #[.agg #[.int .i64 n, .int .i64 d], .agg #[.int .i64 m, .int .i64 c]] w fun e w' => e = .returned (.bool true) ∧ Below w.heap.size w w' := by
  have hb1 : decide (Maybe n d) = true := decide_eq_true hmb
  have ef : floorC n d = (n / d, 0) := if_pos hmb
  have er : roundC n d = (roundR n d, 0) := if_pos hmb
  have H1 := Lib.hid (fun W hW => hP.cmp n d m c W hn hd hm hc hW)
  have H2 := Lib.hid (fun W => cmpn_any n d m c W hn hd hm hc)
  have H3 := Lib.hid (fun W hW => hP.floor n d W hn hd hW)
  have H4 := Lib.hid (fun W hW => hP.round n d W hn hd hW)
  have H5 := Lib.hid (fun W => may_any n d W hn hd)
  obtain ⟨⟨v, k⟩, hr⟩ : ∃ r, r = cmpR n d m c := ⟨_, rfl⟩
  rw [← hr] at H1 H2
  rw [ef] at H3
  rw [er] at H4
  rw [hb1] at H5
  have H6 := Lib.hid (fun W => floor_any n d W hn hd hmb.1)
  have H7 := Lib.hid (fun W => round_any n d W hn hd hmb.1)
  obtain ⟨f, hf⟩ : ∃ f, f = n / d := ⟨_, rfl⟩
  obtain ⟨g, hg⟩ : ∃ g, g = roundR n d := ⟨_, rfl⟩
  rw [← hf] at H3 H6
  rw [← hg] at H4 H7
  clear hf hg
  have HP0 := Lib.hid hP
  have HP := Lib.hid hP.keep
  have H := Lib.hid (BtH.start w n d m c)
  have HT := Lib.hid (hP.keep _ _ ht H.out.bel)
  clear hP ht hn hd hm hc hr hmb hb1 ef er
  go_enter Tryd.func5, Tryd.ntmps5
  go_wp2_with (first
    | (go_at_call 8; (with_reducible refine (awake3_any HP0.out _ HT.out).mono ?_); rintro e w0 ⟨rfl, hb⟩; have HT := Lib.hid (HP.out _ _ HT.out hb); have H := Lib.hid (H.out.next hb); obtain ⟨f1, f2, f3, f4⟩ := H.out.facts; clear hb)
    | (go_at_call 21; (with_reducible refine (H1.out _ HT.out).mono ?_); rintro e w1 ⟨rfl, hb⟩; have HT := Lib.hid (HP.out _ _ HT.out hb); have H := Lib.hid (H.out.next hb); clear f1 f2 f3 f4 hb; obtain ⟨f1, f2, f3, f4⟩ := H.out.facts)
    | (go_at_call 22; (with_reducible refine (H2.out _).mono ?_); rintro e w1 ⟨rfl, hb⟩; have HT := Lib.hid (HP.out _ _ HT.out hb); have H := Lib.hid (H.out.next hb); clear f1 f2 f3 f4 hb; obtain ⟨f1, f2, f3, f4⟩ := H.out.facts)
    | (go_at_call 23; (with_reducible refine (H3.out _ HT.out).mono ?_); rintro e w1 ⟨rfl, hb⟩; have HT := Lib.hid (HP.out _ _ HT.out hb); have H := Lib.hid (H.out.next hb); clear f1 f2 f3 f4 hb; obtain ⟨f1, f2, f3, f4⟩ := H.out.facts)
    | (go_at_call 24; (with_reducible refine (H4.out _ HT.out).mono ?_); rintro e w1 ⟨rfl, hb⟩; have HT := Lib.hid (HP.out _ _ HT.out hb); have H := Lib.hid (H.out.next hb); clear f1 f2 f3 f4 hb; obtain ⟨f1, f2, f3, f4⟩ := H.out.facts)
    | (go_at_call 12; (with_reducible refine (H5.out _).mono ?_); rintro e w1 ⟨rfl, hb⟩; have HT := Lib.hid (HP.out _ _ HT.out hb); have H := Lib.hid (H.out.next hb); clear f1 f2 f3 f4 hb; obtain ⟨f1, f2, f3, f4⟩ := H.out.facts)
    | (go_at_call 25; (with_reducible refine (H6.out _).mono ?_); rintro e w1 ⟨rfl, hb⟩; have HT := Lib.hid (HP.out _ _ HT.out hb); have H := Lib.hid (H.out.next hb); clear f1 f2 f3 f4 hb; obtain ⟨f1, f2, f3, f4⟩ := H.out.facts)
    | (go_at_call 26; (with_reducible refine (H7.out _).mono ?_); rintro e w1 ⟨rfl, hb⟩; have HT := Lib.hid (HP.out _ _ HT.out hb); have H := Lib.hid (H.out.next hb); clear f1 f2 f3 f4 hb; obtain ⟨f1, f2, f3, f4⟩ := H.out.facts))
  go_ret
  exact ⟨rfl, H.out.bel⟩
set_option maxHeartbeats 8000000 in
theorem order3_no {T : World → Prop} (hP : PrOK T) (n d m c : Int) (w : World) (hn : Fit n) (hd : Fit d) (hm : Fit m) (hc : Fit c) (hmb : ¬ Maybe n d) (ht : T w) : Calls Tryd.prog 5 #[.agg #[.int .i64 n, .int .i64 d], .agg #[.int .i64 m, .int .i64 c]] w fun e w' => e = .returned (.bool true) ∧ Below w.heap.size w w' := by
  have hb1 : decide (Maybe n d) = false := decide_eq_false hmb
  have ef : floorC n d = (0, 1) := if_neg hmb
  have er : roundC n d = (0, 1) := if_neg hmb
  have H1 := Lib.hid (fun W hW => hP.cmp n d m c W hn hd hm hc hW)
  have H2 := Lib.hid (fun W => cmpn_any n d m c W hn hd hm hc)
  have H3 := Lib.hid (fun W hW => hP.floor n d W hn hd hW)
  have H4 := Lib.hid (fun W hW => hP.round n d W hn hd hW)
  have H5 := Lib.hid (fun W => may_any n d W hn hd)
  obtain ⟨⟨v, k⟩, hr⟩ : ∃ r, r = cmpR n d m c := ⟨_, rfl⟩
  rw [← hr] at H1 H2
  rw [ef] at H3
  rw [er] at H4
  rw [hb1] at H5
  have HP0 := Lib.hid hP
  have HP := Lib.hid hP.keep
  have H := Lib.hid (BtH.start w n d m c)
  have HT := Lib.hid (hP.keep _ _ ht H.out.bel)
  clear hP ht hn hd hm hc hr hmb hb1 ef er
  go_enter Tryd.func5, Tryd.ntmps5
  go_wp2_with (first
    | (go_at_call 8; (with_reducible refine (awake3_any HP0.out _ HT.out).mono ?_); rintro e w0 ⟨rfl, hb⟩; have HT := Lib.hid (HP.out _ _ HT.out hb); have H := Lib.hid (H.out.next hb); obtain ⟨f1, f2, f3, f4⟩ := H.out.facts; clear hb)
    | (go_at_call 21; (with_reducible refine (H1.out _ HT.out).mono ?_); rintro e w1 ⟨rfl, hb⟩; have HT := Lib.hid (HP.out _ _ HT.out hb); have H := Lib.hid (H.out.next hb); clear f1 f2 f3 f4 hb; obtain ⟨f1, f2, f3, f4⟩ := H.out.facts)
    | (go_at_call 22; (with_reducible refine (H2.out _).mono ?_); rintro e w1 ⟨rfl, hb⟩; have HT := Lib.hid (HP.out _ _ HT.out hb); have H := Lib.hid (H.out.next hb); clear f1 f2 f3 f4 hb; obtain ⟨f1, f2, f3, f4⟩ := H.out.facts)
    | (go_at_call 23; (with_reducible refine (H3.out _ HT.out).mono ?_); rintro e w1 ⟨rfl, hb⟩; have HT := Lib.hid (HP.out _ _ HT.out hb); have H := Lib.hid (H.out.next hb); clear f1 f2 f3 f4 hb; obtain ⟨f1, f2, f3, f4⟩ := H.out.facts)
    | (go_at_call 24; (with_reducible refine (H4.out _ HT.out).mono ?_); rintro e w1 ⟨rfl, hb⟩; have HT := Lib.hid (HP.out _ _ HT.out hb); have H := Lib.hid (H.out.next hb); clear f1 f2 f3 f4 hb; obtain ⟨f1, f2, f3, f4⟩ := H.out.facts)
    | (go_at_call 12; (with_reducible refine (H5.out _).mono ?_); rintro e w1 ⟨rfl, hb⟩; have HT := Lib.hid (HP.out _ _ HT.out hb); have H := Lib.hid (H.out.next hb); clear f1 f2 f3 f4 hb; obtain ⟨f1, f2, f3, f4⟩ := H.out.facts))
  go_ret
  exact ⟨rfl, H.out.bel⟩
theorem law_order3 {T : World → Prop} (hP : PrOK T) (n d m c : Int) (w : World) (hn : Fit n) (hd : Fit d) (hm : Fit m) (hc : Fit c) (ht : T w) : Calls Tryd.prog 5 #[.agg #[.int .i64 n, .int .i64 d], .agg #[.int .i64 m, .int .i64 c]] w fun e w' => e = .returned (.bool true) ∧ Below w.heap.size w w' := by
  by_cases h : Maybe n d
  · exact order3_yes hP n d m c w hn hd hm hc h ht
  · exact order3_no hP n d m c w hn hd hm hc h ht
end Go.Proofs.YtjjinncecfilpaaDoor
