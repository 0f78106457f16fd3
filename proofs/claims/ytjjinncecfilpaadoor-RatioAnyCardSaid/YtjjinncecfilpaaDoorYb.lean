/- Proved here: what RatioAny answers: true, where package ratio's calls answer as the document's do. Condition: that they do (PrOK). -/
import Derived.Test.YtjjinncecfilpaaDoorYa
namespace Go.Proofs.YtjjinncecfilpaaDoor
open Go.RowKit

set_option maxHeartbeats 2000000 in
theorem any3_long {T : World → Prop} (hP : PrOK T) (s : ByteArray) (w : World) (h1 : 100 < s.size) (h3 : (s.size : Int) ≤ 9223372036854775807) (ht : T w) : Calls Tryd.prog 7 #[.string s] w fun e w' => e = .returned (.bool true) ∧ Below w.heap.size w w' := by
  obtain ⟨m, hm⟩ : ∃ m, m = s.size := ⟨_, rfl⟩
  have hsz : s.size = m := hm.symm
  rw [← hm] at h1 h3
  have HP0 := Lib.hid hP
  have HP := Lib.hid hP.keep
  have HT := Lib.hid ht
  have HB := Lib.hid (Below.refl w.heap.size w)
  have hd : decide (100 < (m : Int)) = true := decide_eq_true (by omega)
  clear hm hP ht
  go_enter Tryd.func7, Tryd.ntmps7
  go_wp2_with (go_at_call 8; (with_reducible refine (awake3_any HP0.out _ HT.out).mono ?_); rintro e w0 ⟨rfl, hb⟩; have HT := Lib.hid (HP.out _ _ HT.out hb); have HB := Lib.hid (bel_tr HB.out hb); clear hb)
  go_ret
  exact ⟨rfl, HB.out⟩
set_option maxHeartbeats 2000000 in
theorem any3_short {T : World → Prop} (hP : PrOK T) (hQ : ParseOK T) (s : ByteArray) (w : World) (h1 : s.size ≤ 100) (ht : T w) : Calls Tryd.prog 7 #[.string s] w fun e w' => e = .returned (.bool true) ∧ Below w.heap.size w w' := by
  obtain ⟨⟨p, q, k⟩, hr⟩ : ∃ r, r = parL s.data.toList := ⟨_, rfl⟩
  have H1 := Lib.hid (fun W hW => rate_pt hr.symm (hQ s W (by omega) hW))
  have H2 := Lib.hid (fun W => rate_pt hr.symm (parse_all s W (by omega)))
  obtain ⟨m, hm⟩ : ∃ m, m = s.size := ⟨_, rfl⟩
  have hsz : s.size = m := hm.symm
  rw [← hm] at h1
  have HP0 := Lib.hid hP
  have HP := Lib.hid hP.keep
  have HT := Lib.hid ht
  have HB := Lib.hid (Below.refl w.heap.size w)
  have hd : decide (100 < (m : Int)) = false := decide_eq_false (by omega)
  clear hm hP hQ ht hr
  go_enter Tryd.func7, Tryd.ntmps7
  go_wp2_with (first
    | (go_at_call 8; (with_reducible refine (awake3_any HP0.out _ HT.out).mono ?_); rintro e w0 ⟨rfl, hb⟩; have HT := Lib.hid (HP.out _ _ HT.out hb); have HB := Lib.hid (bel_tr HB.out hb); clear hb)
    | (go_at_call 28; (with_reducible refine (H1.out _ HT.out).mono ?_); rintro e w1 ⟨rfl, hb⟩; have hb := bel_tr hb (bel_a w1 (.cells #[.int .i64 p, .int .i64 q] 24)); have HB := Lib.hid (bel_tr HB.out hb); have HR := Lib.hid (Rt.new w1 p q); clear hb)
    | (go_at_call 30; (with_reducible refine (H2.out _).mono ?_); rintro e w2 ⟨rfl, hb⟩; have hb := bel_tr hb (bel_a w2 (.cells #[.int .i64 p, .int .i64 q] 24)); have HB := Lib.hid (bel_tr HB.out hb); have HR := Lib.hid (HR.out.bel hb); have f1 := HR.out.c0; have f2 := HR.out.c1; have HR2 := Lib.hid (Rt.new w2 p q); have f3 := HR2.out.c0; have f4 := HR2.out.c1; clear hb))
  go_ret
  exact ⟨rfl, HB.out⟩
theorem law_any3 {T : World → Prop} (hP : PrOK T) (hQ : ParseOK T) (s : ByteArray) (w : World) (h3 : (s.size : Int) ≤ 9223372036854775807) (ht : T w) : Calls Tryd.prog 7 #[.string s] w fun e w' => e = .returned (.bool true) ∧ Below w.heap.size w w' := by
  by_cases h : 100 < s.size
  · exact any3_long hP s w h h3 ht
  · exact any3_short hP hQ s w (by omega) ht
end Go.Proofs.YtjjinncecfilpaaDoor
