/- Proved here: what RatioSums answers: true, where package ratio's calls answer as the document's do. Condition: that they do (PrOK). -/
import Derived.Test.YtjjinncecfilpaaDoorYa
namespace Go.Proofs.YtjjinncecfilpaaDoor
open Go.RowKit

set_option maxHeartbeats 8000000 in
theorem law_sums3 {T : World → Prop} (hP : PrOK T) (n d m c : Int) (w : World) (hn : Fit n) (hd : Fit d) (hm : Fit m) (hc : Fit c) (ht : T w) : Calls Tryd.prog 4 #[.agg #[.int .i64 n, .int .i64 d], .agg #[.int .i64 m, .int .i64 c]] w fun e w' => e = .returned (.bool true) ∧ Below w.heap.size w w' := by
  obtain ⟨⟨p0, q0, k0⟩, hr0⟩ : ∃ r, r = addR n d m c := ⟨_, rfl⟩
  obtain ⟨⟨p1, q1, k1⟩, hr1⟩ : ∃ r, r = subR n d m c := ⟨_, rfl⟩
  obtain ⟨⟨p2, q2, k2⟩, hr2⟩ : ∃ r, r = mulR n d m c := ⟨_, rfl⟩
  obtain ⟨⟨p3, q3, k3⟩, hr3⟩ : ∃ r, r = divR n d m c := ⟨_, rfl⟩
  have H0 := Lib.hid (fun W hW => rate_pt hr0.symm (hP.add n d m c W hn hd hm hc hW))
  have H1 := Lib.hid (fun W hW => rate_pt hr1.symm (hP.sub n d m c W hn hd hm hc hW))
  have H2 := Lib.hid (fun W hW => rate_pt hr2.symm (hP.mul n d m c W hn hd hm hc hW))
  have H3 := Lib.hid (fun W hW => rate_pt hr3.symm (hP.div n d m c W hn hd hm hc hW))
  have H4 := Lib.hid (fun W => rate_pt hr0.symm (ratadd_any n d m c W hn hd hm hc))
  have H5 := Lib.hid (fun W => rate_pt hr1.symm (ratsub_any n d m c W hn hd hm hc))
  have H6 := Lib.hid (fun W => rate_pt hr2.symm (ratmul_any n d m c W hn hd hm hc))
  have H7 := Lib.hid (fun W => rate_pt hr3.symm (ratdiv_any n d m c W hn hd hm hc))
  have HP0 := Lib.hid hP
  have HP := Lib.hid hP.keep
  have H := Lib.hid (BtH.start w n d m c)
  have HT := Lib.hid (hP.keep _ _ ht H.out.bel)
  clear hP ht hn hd hm hc hr0 hr1 hr2 hr3
  go_enter Tryd.func4, Tryd.ntmps4
  go_wp2_with (first
    | (go_at_call 8; (with_reducible refine (awake3_any HP0.out _ HT.out).mono ?_); rintro e w0 ⟨rfl, hb⟩; have HT := Lib.hid (HP.out _ _ HT.out hb); have H := Lib.hid (H.out.next hb); obtain ⟨f1, f2, f3, f4⟩ := H.out.facts; clear hb)
    | (go_at_call 13; (with_reducible refine (H0.out _ HT.out).mono ?_); rintro e w1 ⟨rfl, hb⟩; have hb := bel_tr hb (bel_a w1 (.cells #[.int .i64 p0, .int .i64 q0] 24)); have HT := Lib.hid (HP.out _ _ HT.out hb); have H := Lib.hid (H.out.next hb); have R0 := Lib.hid (Rt.new w1 p0 q0); clear f1 f2 f3 f4 hb; obtain ⟨f1, f2, f3, f4⟩ := H.out.facts; skip)
    | (go_at_call 14; (with_reducible refine (H1.out _ HT.out).mono ?_); rintro e w2 ⟨rfl, hb⟩; have hb := bel_tr hb (bel_a w2 (.cells #[.int .i64 p1, .int .i64 q1] 24)); have HT := Lib.hid (HP.out _ _ HT.out hb); have H := Lib.hid (H.out.next hb); have R0 := Lib.hid (R0.out.bel hb); have R1 := Lib.hid (Rt.new w2 p1 q1); clear f1 f2 f3 f4 hb; obtain ⟨f1, f2, f3, f4⟩ := H.out.facts; skip)
    | (go_at_call 15; (with_reducible refine (H2.out _ HT.out).mono ?_); rintro e w3 ⟨rfl, hb⟩; have hb := bel_tr hb (bel_a w3 (.cells #[.int .i64 p2, .int .i64 q2] 24)); have HT := Lib.hid (HP.out _ _ HT.out hb); have H := Lib.hid (H.out.next hb); have R0 := Lib.hid (R0.out.bel hb); have R1 := Lib.hid (R1.out.bel hb); have R2 := Lib.hid (Rt.new w3 p2 q2); clear f1 f2 f3 f4 hb; obtain ⟨f1, f2, f3, f4⟩ := H.out.facts; skip)
    | (go_at_call 16; (with_reducible refine (H3.out _ HT.out).mono ?_); rintro e w4 ⟨rfl, hb⟩; have hb := bel_tr hb (bel_a w4 (.cells #[.int .i64 p3, .int .i64 q3] 24)); have HT := Lib.hid (HP.out _ _ HT.out hb); have H := Lib.hid (H.out.next hb); have R0 := Lib.hid (R0.out.bel hb); have R1 := Lib.hid (R1.out.bel hb); have R2 := Lib.hid (R2.out.bel hb); have R3 := Lib.hid (Rt.new w4 p3 q3); clear f1 f2 f3 f4 hb; obtain ⟨f1, f2, f3, f4⟩ := H.out.facts; skip)
    | (go_at_call 17; (with_reducible refine (H4.out _).mono ?_); rintro e w5 ⟨rfl, hb⟩; have hb := bel_tr hb (bel_a w5 (.cells #[.int .i64 p0, .int .i64 q0] 24)); have H := Lib.hid (H.out.next hb); have R0 := Lib.hid (R0.out.bel hb); have R1 := Lib.hid (R1.out.bel hb); have R2 := Lib.hid (R2.out.bel hb); have R3 := Lib.hid (R3.out.bel hb); have R4 := Lib.hid (Rt.new w5 p0 q0); clear f1 f2 f3 f4 hb; obtain ⟨f1, f2, f3, f4⟩ := H.out.facts; skip)
    | (go_at_call 18; (with_reducible refine (H5.out _).mono ?_); rintro e w6 ⟨rfl, hb⟩; have hb := bel_tr hb (bel_a w6 (.cells #[.int .i64 p1, .int .i64 q1] 24)); have H := Lib.hid (H.out.next hb); have R0 := Lib.hid (R0.out.bel hb); have R1 := Lib.hid (R1.out.bel hb); have R2 := Lib.hid (R2.out.bel hb); have R3 := Lib.hid (R3.out.bel hb); have R4 := Lib.hid (R4.out.bel hb); have R5 := Lib.hid (Rt.new w6 p1 q1); clear f1 f2 f3 f4 hb; obtain ⟨f1, f2, f3, f4⟩ := H.out.facts; skip)
    | (go_at_call 19; (with_reducible refine (H6.out _).mono ?_); rintro e w7 ⟨rfl, hb⟩; have hb := bel_tr hb (bel_a w7 (.cells #[.int .i64 p2, .int .i64 q2] 24)); have H := Lib.hid (H.out.next hb); have R0 := Lib.hid (R0.out.bel hb); have R1 := Lib.hid (R1.out.bel hb); have R2 := Lib.hid (R2.out.bel hb); have R3 := Lib.hid (R3.out.bel hb); have R4 := Lib.hid (R4.out.bel hb); have R5 := Lib.hid (R5.out.bel hb); have R6 := Lib.hid (Rt.new w7 p2 q2); clear f1 f2 f3 f4 hb; obtain ⟨f1, f2, f3, f4⟩ := H.out.facts; skip)
    | (go_at_call 20; (with_reducible refine (H7.out _).mono ?_); rintro e w8 ⟨rfl, hb⟩; have hb := bel_tr hb (bel_a w8 (.cells #[.int .i64 p3, .int .i64 q3] 24)); have H := Lib.hid (H.out.next hb); have R0 := Lib.hid (R0.out.bel hb); have R1 := Lib.hid (R1.out.bel hb); have R2 := Lib.hid (R2.out.bel hb); have R3 := Lib.hid (R3.out.bel hb); have R4 := Lib.hid (R4.out.bel hb); have R5 := Lib.hid (R5.out.bel hb); have R6 := Lib.hid (R6.out.bel hb); have R7 := Lib.hid (Rt.new w8 p3 q3); clear f1 f2 f3 f4 hb; obtain ⟨f1, f2, f3, f4⟩ := H.out.facts; have a0 := R0.out.c0; have b0 := R0.out.c1; have a1 := R1.out.c0; have b1 := R1.out.c1; have a2 := R2.out.c0; have b2 := R2.out.c1; have a3 := R3.out.c0; have b3 := R3.out.c1; have a4 := R4.out.c0; have b4 := R4.out.c1; have a5 := R5.out.c0; have b5 := R5.out.c1; have a6 := R6.out.c0; have b6 := R6.out.c1; have a7 := R7.out.c0; have b7 := R7.out.c1; skip))
  go_ret
  exact ⟨rfl, H.out.bel⟩
end Go.Proofs.YtjjinncecfilpaaDoor
