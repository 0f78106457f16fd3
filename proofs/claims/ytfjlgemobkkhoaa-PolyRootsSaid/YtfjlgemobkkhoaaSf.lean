/- Proved here: the law PolyRoots returns true. Condition: a list of numbers of 64 bits that lies in memory, and a fraction of 64 bits. -/
import Derived.Test.YtfjlgemobkkhoaaSe
namespace Go.Proofs.Ytfjlgemobkkhoaa
open Go.RowKit

theorem dig_zero {W : World} {b : Bool} {B : Option Addr} {p q l : Nat} (h : El .c W (.agg #[.bool b, .slice B p q]) 0 l) : p = 0 := by
  obtain ⟨n, v, xs, he, h2, h3, h4, h5, h6⟩ := h
  injection he with he
  simp at he
  obtain ⟨rfl, rfl⟩ := he
  obtain ⟨hp, _, _⟩ := h2.cap
  have hz : dw xs = 0 := by
    cases b
    · rw [sv_false] at h6; omega
    · rw [sv_true] at h6; omega
  have := (top_zero32 h4.1).1 hz
  rw [hp, this]
  rfl
set_option maxRecDepth 100000 in
set_option maxHeartbeats 4000000 in
theorem law_roots_out (A : Option Addr) (m c : Nat) (n d : Int) (w : World) (hn : Fit n) (hd : Fit d) (ho : ¬ (m ≤ 8 ∧ Maybe n d ∧ n ≠ -9223372036854775808)) :
    Calls Try.prog 6 #[.slice A m c, .agg #[.int .i64 n, .int .i64 d]] w fun e w' => e = .returned (.bool true) ∧ Below w.heap.size w w' := by
  have HAW := Lib.hid awake_any
  have HB := Lib.hid (rt_start w n d)
  obtain ⟨f0, f1⟩ := rt_facts HB.out.1
  by_cases h8 : m ≤ 8
  · have hn8 : ¬ 8 < m := by omega
    by_cases hmb : Maybe n d
    · have hmin : n = -9223372036854775808 := by
        by_cases h : n = -9223372036854775808
        · exact h
        · exact absurd ⟨h8, hmb, h⟩ ho
      have hmd : decide (Maybe n d) = true := decide_eq_true hmb
      have HM := Lib.hid (fun W => may5_any n d W hn hd)
      rw [hmd] at HM
      clear ho hmd hmb hn hd h8
      subst hmin
      go_enter Try.func6, Try.ntmps6
      go_wp2_with (first
        | (go_at_call 7; (with_reducible refine (HAW.out _).mono ?_); rintro e w1 ⟨rfl, hb⟩; have HB := Lib.hid (And.intro (HB.out.1.below hb HB.out.1.lt) (bel_tr HB.out.2 hb)); clear hb f0 f1; obtain ⟨f0, f1⟩ := rt_facts HB.out.1)
        | (go_at_call 22; (with_reducible refine (HM.out _).mono ?_); rintro e w2 ⟨rfl, hb⟩; have HB := Lib.hid (And.intro (HB.out.1.below hb HB.out.1.lt) (bel_tr HB.out.2 hb)); clear hb f0 f1; obtain ⟨f0, f1⟩ := rt_facts HB.out.1))
      go_ret
      exact ⟨rfl, HB.out.2⟩
    · have hmd : decide (Maybe n d) = false := decide_eq_false hmb
      have HM := Lib.hid (fun W => may5_any n d W hn hd)
      rw [hmd] at HM
      clear ho hmd hmb hn hd h8
      go_enter Try.func6, Try.ntmps6
      go_wp2_with (first
        | (go_at_call 7; (with_reducible refine (HAW.out _).mono ?_); rintro e w1 ⟨rfl, hb⟩; have HB := Lib.hid (And.intro (HB.out.1.below hb HB.out.1.lt) (bel_tr HB.out.2 hb)); clear hb f0 f1; obtain ⟨f0, f1⟩ := rt_facts HB.out.1)
        | (go_at_call 22; (with_reducible refine (HM.out _).mono ?_); rintro e w2 ⟨rfl, hb⟩; have HB := Lib.hid (And.intro (HB.out.1.below hb HB.out.1.lt) (bel_tr HB.out.2 hb)); clear hb f0 f1; obtain ⟨f0, f1⟩ := rt_facts HB.out.1))
      go_ret
      exact ⟨rfl, HB.out.2⟩
  · have hn8 : 8 < m := by omega
    clear ho hn hd h8
    go_enter Try.func6, Try.ntmps6
    go_wp2_with (go_at_call 7; (with_reducible refine (HAW.out _).mono ?_); rintro e w1 ⟨rfl, hb⟩; have HB := Lib.hid (And.intro (HB.out.1.below hb HB.out.1.lt) (bel_tr HB.out.2 hb)); clear hb f0 f1; obtain ⟨f0, f1⟩ := rt_facts HB.out.1)
    go_ret
    exact ⟨rfl, HB.out.2⟩
set_option maxRecDepth 100000 in
set_option maxHeartbeats 4000000 in
theorem law_roots_zero (A : Option Addr) (m c : Nat) (xs : List Int) (n d : Int) (w : World) (h : Ia w (.slice A m c) xs) (hn : Fit n) (hd : Fit d) (h8 : m ≤ 8) (hmb : Maybe n d) (hmin : n ≠ -9223372036854775808) (h0 : trz xs = []) :
    Calls Try.prog 6 #[.slice A m c, .agg #[.int .i64 n, .int .i64 d]] w fun e w' => e = .returned (.bool true) ∧ Below w.heap.size w w' := by
  have HAW := Lib.hid awake_any
  have HB := Lib.hid (rt_start w n d)
  obtain ⟨f0, f1⟩ := rt_facts HB.out.1
  have hn8 : ¬ 8 < m := by omega
  have hmd : decide (Maybe n d) = true := decide_eq_true hmb
  have HM := Lib.hid (fun W => may5_any n d W hn hd)
  rw [hmd] at HM
  have HI := Lib.hid h
  have H0 := Lib.hid h0
  have hnm : (n == -9223372036854775808) = false := by simpa using hmin
  clear h hmd hmb hn hd hmin h0
  go_enter Try.func6, Try.ntmps6
  go_wp2_with (first
    | (go_at_call 7; (with_reducible refine (HAW.out _).mono ?_); rintro e w1 ⟨rfl, hb⟩; have HB := Lib.hid (And.intro (HB.out.1.below hb HB.out.1.lt) (bel_tr HB.out.2 hb)); clear hb f0 f1; obtain ⟨f0, f1⟩ := rt_facts HB.out.1)
    | (go_at_call 22; (with_reducible refine (HM.out _).mono ?_); rintro e w2 ⟨rfl, hb⟩; have HB := Lib.hid (And.intro (HB.out.1.below hb HB.out.1.lt) (bel_tr HB.out.2 hb)); clear hb f0 f1; obtain ⟨f0, f1⟩ := rt_facts HB.out.1)
    | (go_at_call 29; (with_reducible refine (pof_any A m c xs _ (HI.out.bel HB.out.2) (by omega)).mono ?_); rintro e w3 he; rw [H0.out] at he; obtain ⟨A3, c3, rfl, hp, hb⟩ := he; rw [show ([] : List Int).length = 0 from rfl] at hp ⊢; have HP := Lib.hid hp; have HB := Lib.hid (And.intro (HB.out.1.below hb HB.out.1.lt) (bel_tr HB.out.2 hb)); clear hb hp f0 f1; obtain ⟨f0, f1⟩ := rt_facts HB.out.1)
    | (go_at_call 19; (with_reducible refine (degree_any A3 0 c3 [] 2 _ HP.out.any).mono ?_); rw [show ((pl [] : Nat) : Int) - 1 = -1 from rfl]; rintro e w4 ⟨rfl, hb⟩; have HB := Lib.hid (And.intro (HB.out.1.below hb HB.out.1.lt) (bel_tr HB.out.2 hb)); clear hb f0 f1; obtain ⟨f0, f1⟩ := rt_facts HB.out.1)
    | (go_at_call 30; (with_reducible refine (rof5_any A m c xs _ (HI.out.bel HB.out.2) (by omega)).mono ?_); rintro e w5 he; rw [H0.out] at he; obtain ⟨A5, c5, rfl, hp, hb⟩ := he; rw [show ([] : List Int).length = 0 from rfl] at hp ⊢; have HB := Lib.hid (And.intro (HB.out.1.below hb HB.out.1.lt) (bel_tr HB.out.2 hb)); clear hb hp f0 f1; obtain ⟨f0, f1⟩ := rt_facts HB.out.1))
  go_ret
  exact ⟨rfl, HB.out.2⟩
end Go.Proofs.Ytfjlgemobkkhoaa
