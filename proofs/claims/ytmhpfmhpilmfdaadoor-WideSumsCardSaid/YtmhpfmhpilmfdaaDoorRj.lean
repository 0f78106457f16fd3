/- Proved here: what the reference package's Sub answers and leaves in memory. Condition: numbers of 64 bits as halves. -/
import Derived.Test.YtmhpfmhpilmfdaaDoorWa
import Derived.Deep.CutBlock
import Derived.Deep.DeepCutAuto
import Derived.Deep.CutRange
namespace Go.Proofs.YtmhpfmhpilmfdaaDoor
open Go.RowKit

theorem numW_lt' {a b : Nat} (ha : a < 18446744073709551616) (hb : b < 18446744073709551616) : numW a b < 65536 ^ 8 := by rw [e8]; unfold numW; omega
theorem sub_of_fit {x y h l : Nat} {c : Int} (hle : y ≤ x) (hx : x - y < 65536 ^ 8) (hf : FitR (x - y) h l c) : SubR x y h l c := by
  rcases hf with ⟨_, h1, h2, h3⟩ | ⟨h0, _⟩
  · exact .inl ⟨hle, h1, h2, h3⟩
  · exact absurd hx h0
/-- Is the first number less? -/
def ltB (x y : Nat) : Bool := decide (cmpI x y < 0)
set_option maxHeartbeats 2000000 in
set_option maxRecDepth 100000 in
theorem rsub_any (a b c d : Nat) (w : World) (ha : a < 18446744073709551616) (hb : b < 18446744073709551616) (hc : c < 18446744073709551616) (hd : d < 18446744073709551616) :
    Calls Tryd.prog 11 #[.agg #[.int .u64 (a : Int), .int .u64 (b : Int)], .agg #[.int .u64 (c : Int), .int .u64 (d : Int)]] w (SubE (numW a b) (numW c d) w) := by
  have HA := Lib.hid (And.intro (And.intro ha hb) (And.intro hc hd))
  clear ha hb hc hd
  go_enter Tryd.func11, Tryd.ntmps11
  go_upto_region 1 with fail
  obtain ⟨W0, hW0⟩ : ∃ W0, W0 = (((w.alloc (.cells #[.int .u64 (a : Int), .int .u64 (b : Int)] 24)).alloc (.cells #[.int .u64 (c : Int), .int .u64 (d : Int)] 24)).alloc (.cells #[.int .u64 0, .int .u64 0] 24)) := ⟨_, rfl⟩
  rw [← hW0]
  have HX0 := Lib.hid (hW0 ▸ BX.start w a b c d)
  clear hW0
  go_cut [11] from 6 to 11 (fun t wx => t = .bool (ltB (numW a b) (numW c d)) ∧ BX w wx a b c d)
  case first =>
    obtain ⟨f1, f2, f3, f4, f5, f6, f7, f8⟩ := HX0.out.facts
    go_region_with (first
      | (go_at_call 24; (with_reducible refine (digits_num a b _ HA.out.1.1 HA.out.1.2).mono ?_); rintro e w1 ⟨z1, rfl, hn1, hb1⟩; have HX1 := Lib.hid (HX0.out.drew.next hb1); have HN1 := Lib.hid hn1; clear hn1 hb1 f1 f2 f3 f4 f5 f6 f7 f8; obtain ⟨f1, f2, f3, f4, f5, f6, f7, f8⟩ := HX1.out.facts)
      | (go_at_call 24; (with_reducible refine (digits_num c d _ HA.out.2.1 HA.out.2.2).mono ?_); rintro e w2 ⟨z2, rfl, hn2, hb2⟩; have HX2 := Lib.hid (HX1.out.next hb2); have HN1' := Lib.hid (HN1.out.below hb2 (Nat.le_refl _)); have HN2 := Lib.hid hn2; clear hn2 hb2 f1 f2 f3 f4 f5 f6 f7 f8; obtain ⟨f1, f2, f3, f4, f5, f6, f7, f8⟩ := HX2.out.facts)
      | (go_at_call 23; (with_reducible refine (less_num z1 z2 _ _ 8 8 w2 HN1'.out HN2.out (by decide) (by decide)).mono ?_); rintro e w3 ⟨rfl, rfl⟩))
    all_goals
      go_wp2_with fail
      go_meet
      exact ⟨rfl, HX2.out⟩
  case rest =>
    obtain ⟨rfl, hx⟩ := hcut
    have HX := Lib.hid hx
    clear hx HX0
    obtain ⟨f1, f2, f3, f4, f5, f6, f7, f8⟩ := HX.out.facts
    by_cases hlt : numW a b < numW c d
    · have hd : ltB (numW a b) (numW c d) = true := by rw [ltB, cmpI_lt hlt]; rfl
      have HL := Lib.hid hlt
      rw [hd]
      clear hlt hd
      go_wp2_with fail
      exact bodyPost_ret (ret_box2 (a := 0) (b := 0) rfl rfl rfl (bx_fin (h := 0) (l := 0) HX.out)) rfl ⟨0, 0, _, rfl, .inr ⟨HL.out, rfl, rfl, rfl⟩, bx_bel HX.out _ _⟩
    · have hd : ltB (numW a b) (numW c d) = false := by unfold ltB cmpI; rw [if_neg hlt]; split <;> rfl
      have HL := Lib.hid (Nat.le_of_not_lt hlt)
      rw [hd]
      clear hlt hd
      go_wp2_with fail
      go_region_with (first
        | (go_at_call 24; (with_reducible refine (digits_num a b _ HA.out.1.1 HA.out.1.2).mono ?_); rintro e w1 ⟨z1, rfl, hn1, hb1⟩; have HX1 := Lib.hid (HX.out.drew.next hb1); have HN1 := Lib.hid hn1; clear hn1 hb1 f1 f2 f3 f4 f5 f6 f7 f8; obtain ⟨f1, f2, f3, f4, f5, f6, f7, f8⟩ := HX1.out.facts)
        | (go_at_call 24; (with_reducible refine (digits_num c d _ HA.out.2.1 HA.out.2.2).mono ?_); rintro e w2 ⟨z2, rfl, hn2, hb2⟩; have HX2 := Lib.hid (HX1.out.next hb2); have HN1' := Lib.hid (HN1.out.below hb2 (Nat.le_refl _)); have HN2 := Lib.hid hn2; clear hn2 hb2 f1 f2 f3 f4 f5 f6 f7 f8; obtain ⟨f1, f2, f3, f4, f5, f6, f7, f8⟩ := HX2.out.facts)
        | (go_at_call 31; (with_reducible refine (minus_num z1 z2 _ _ 8 8 w2 HN1'.out HN2.out (by decide) HL.out).mono ?_); rintro e w3 ⟨z3, rfl, hn3, hb3⟩; have HX3 := Lib.hid (HX2.out.next hb3); have HN3 := Lib.hid hn3; clear hn3 hb3 f1 f2 f3 f4 f5 f6 f7 f8; obtain ⟨f1, f2, f3, f4, f5, f6, f7, f8⟩ := HX3.out.facts)
        | (go_at_call 28; (with_reducible refine (fit_num z3 _ 8 w3 HN3.out (by decide)).mono ?_); rintro e w4 ⟨h4, l4, c4, rfl, hf4, hb4⟩; have HX4 := Lib.hid (HX3.out.next hb4); have HF4 := Lib.hid hf4; clear hf4 hb4 f1 f2 f3 f4 f5 f6 f7 f8; obtain ⟨f1, f2, f3, f4, f5, f6, f7, f8⟩ := HX4.out.facts))
      all_goals
        go_wp2_with fail
        exact bodyPost_ret (ret_box2 rfl rfl rfl (bx_fin HX4.out)) rfl ⟨_, _, _, rfl, sub_of_fit HL.out (Nat.lt_of_le_of_lt (Nat.sub_le _ _) (numW_lt' HA.out.1.1 HA.out.1.2)) HF4.out, bx_bel HX4.out _ _⟩
end Go.Proofs.YtmhpfmhpilmfdaaDoor
