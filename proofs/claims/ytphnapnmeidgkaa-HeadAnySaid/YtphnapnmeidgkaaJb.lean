/- Proved here: that HeadAny's law answers true, over every list of tables. Condition: the list lies in memory. -/
import Derived.Test.YtphnapnmeidgkaaJa
namespace Go.Proofs.Ytphnapnmeidgkaa
open Go.RowKit

/-- Is a table small? -/
def smK (L : List (List UInt8 × List UInt8)) (i : Nat) : Bool := decide ((dt L i).length ≤ 100)
theorem any_big (A : Option Addr) (m c : Nat) (w : World) (h : 10 < m) : Calls Try.prog 4 #[.slice A m c] w fun e w' => e = .returned (.bool true) ∧ Below w.heap.size w w' := by
  have hd : decide (10 < (m : Int)) = true := decide_eq_true (by omega)
  clear h
  go_enter Try.func4, Try.ntmps4
  go_wp2_with (go_at_call 5; (with_reducible refine (awake_any _).mono ?_); rintro e w1 ⟨rfl, hb⟩; have B := Lib.hid hb; clear hb)
  go_ret
  exact ⟨rfl, B.out⟩
set_option maxHeartbeats 4000000 in
theorem any_out (A : Option Addr) (m c : Nat) (L : List (List UInt8 × List UInt8)) (w : World) (h : Tl w A m L) (h70 : ¬ 10 < m) (hx : ∃ i, i < m ∧ smK L i = false) : Calls Try.prog 4 #[.slice A m c] w fun e w' => e = .returned (.bool true) ∧ Below w.heap.size w w' := by
  have HX := Lib.hid h
  clear h
  have hd : decide (10 < (m : Int)) = false := decide_eq_false (by omega)
  have HBad := Lib.hid hx
  have H70 := Lib.hid h70
  clear h70 hx
  go_enter Try.func4, Try.ntmps4
  go_wp2_with (go_at_call 5; (with_reducible refine (awake_any _).mono ?_); rintro e w1 ⟨rfl, hb⟩; have B := Lib.hid hb; clear hb)
  go_loopw [16] (fun v wi => ∃ k : Nat, v = .int .i64 (k : Int) ∧ k ≤ m ∧ (∀ i, i < k → smK L i = true) ∧ Below w.heap.size w wi) (fun v _ => m - (intOf v).toNat)
  case atStart => exact ⟨0, rfl, Nat.zero_le _, fun i hi => by omega, B.out⟩
  case round =>
    obtain ⟨k, rfl, hk, hsm, hb⟩ := hrel
    have HB := Lib.hid hb
    have HSM := Lib.hid hsm
    clear hb hsm
    have h70 := H70.out
    by_cases hgo : k < m
    · obtain ⟨ad, rfl, c0, c1⟩ := HX.out.at_ HB.out hgo
      obtain ⟨X, hX⟩ : ∃ X : ByteArray, X = ⟨(tg L k).toArray⟩ := ⟨_, rfl⟩
      obtain ⟨D, hDD⟩ : ∃ D : ByteArray, D = ⟨(dt L k).toArray⟩ := ⟨_, rfl⟩
      have hDz : D.size = (dt L k).length := by rw [hDD]; exact List.size_toArray
      obtain ⟨nd, hnd⟩ : ∃ n, n = (dt L k).length := ⟨_, rfl⟩
      have hsk : smK L k = decide (nd ≤ 100) := by unfold smK; rw [hnd]
      rw [← hnd] at hDz
      rw [← hX] at c0
      rw [← hDD] at c1
      have hBA := Lib.hid (HB.out.alloc HB.out.size (.cells #[.string X, .string D] 35))
      clear hX hDD hnd
      by_cases h1 : 100 < nd
      · have d1 : decide (100 < (nd : Int)) = true := decide_eq_true (by omega)
        clear h1 hsk
        go_wp2_with fail
        go_ret
        exact ⟨rfl, hBA.out⟩
      · have d1 : decide (100 < (nd : Int)) = false := decide_eq_false (by omega)
        have HS := Lib.hid (show ∀ i, i < k + 1 → smK L i = true from fun i hi => by
          rcases Nat.lt_or_ge i k with h7 | h7
          · exact HSM.out i h7
          · rw [show i = k by omega, hsk]; exact decide_eq_true (by omega))
        clear h1 hsk
        go_wp2_with fail
        exact ⟨⟨k + 1, by simp, by omega, HS.out, hBA.out⟩, by simp [intOf]; omega⟩
    · exfalso
      obtain ⟨i, hi, hs⟩ := HBad.out
      rw [HSM.out i (by omega)] at hs
      cases hs
/-- What both Parses answer, in letters. -/
theorem par_q (A : Option Addr) (m c : Nat) (L : List (List UInt8 × List UInt8)) (h : Hd) (E : Nat) (w : World) (hT : Tl w A m L) (hm : m ≤ 1000000) (hd : ∀ i, i < m → (dt L i).length ≤ 1000000) (hh : h = PH L) (hE : E = PE L) :
    Calls Try.prog 9 #[.slice A m c] w fun e w' => e = .returned (.tuple #[.agg #[.int .i64 h.em, .bool h.lg, .int .i64 h.gl, .int .i64 h.me, .int .i64 h.a1, .int .i64 h.a2, .int .i64 h.a3], .int .i64 (E : Int)]) ∧ Below w.heap.size w w' := by
  subst hh hE
  exact parse_any A m c L w hT hm hd
theorem rpar_q (A : Option Addr) (m c : Nat) (L : List (List UInt8 × List UInt8)) (h : Hd) (E : Nat) (w : World) (hT : Tl w A m L) (hm : m ≤ 1000000) (hd : ∀ i, i < m → (dt L i).length ≤ 1000000) (hh : h = PH L) (hE : E = PE L) :
    Calls Try.prog 12 #[.slice A m c] w fun e w' => e = .returned (.tuple #[.agg #[.int .i64 h.em, .bool h.lg, .int .i64 h.gl, .int .i64 h.me, .int .i64 h.a1, .int .i64 h.a2, .int .i64 h.a3], .int .i64 (E : Int)]) ∧ Below w.heap.size w w' := by
  subst hh hE
  exact rparse_any A m c L w hT hm hd
theorem may_q (h : Hd) (hm : MayP h) (w : World) : Calls Try.prog 7 #[.agg #[.int .i64 h.em, .bool h.lg, .int .i64 h.gl, .int .i64 h.me, .int .i64 h.a1, .int .i64 h.a2, .int .i64 h.a3]] w fun e w' => e = .returned (.bool true) ∧ Below w.heap.size w w' := by
  have := may_any h w
  rw [decide_eq_true hm] at this
  exact this
theorem hb_start (w : World) (k : Hd) : HB (w.alloc (.cells #[.int .i64 k.em, .bool k.lg, .int .i64 k.gl, .int .i64 k.me, .int .i64 k.a1, .int .i64 k.a2, .int .i64 k.a3] 23)) w.heap.size k := heap_alloc_new w _
set_option maxHeartbeats 4000000 in
theorem any_in (A : Option Addr) (m c : Nat) (L : List (List UInt8 × List UInt8)) (w : World) (h : Tl w A m L) (h70 : ¬ 10 < m) (hsm : ∀ i, i < m → smK L i = true) : Calls Try.prog 4 #[.slice A m c] w fun e w' => e = .returned (.bool true) ∧ Below w.heap.size w w' := by
  have hsd : ∀ i, i < m → (dt L i).length ≤ 100 := fun i hi => of_decide_eq_true (hsm i hi)
  have HX := Lib.hid h
  have HSD := Lib.hid hsd
  have H70 := Lib.hid h70
  have hd : decide (10 < (m : Int)) = false := decide_eq_false (by omega)
  obtain ⟨E, hE⟩ : ∃ x, x = PE L := ⟨_, rfl⟩
  obtain ⟨k, hk⟩ : ∃ x, x = PH L := ⟨_, rfl⟩
  have HMay := Lib.hid (show E = 0 → MayP k from fun h => by rw [hk]; exact full_may (by omega))
  have C1 := Lib.hid (fun W (hb : Below w.heap.size w W) => par_q A m c L k E W (HX.out.bel hb) (by have := H70.out; omega) (fun i hi => by have := HSD.out i hi; omega) hk hE)
  have C2 := Lib.hid (fun W (hb : Below w.heap.size w W) => rpar_q A m c L k E W (HX.out.bel hb) (by have := H70.out; omega) (fun i hi => by have := HSD.out i hi; omega) hk hE)
  clear h h70 hsm hsd hE hk
  go_enter Try.func4, Try.ntmps4
  go_wp2_with (go_at_call 5; (with_reducible refine (awake_any _).mono ?_); rintro e w1 ⟨rfl, hb⟩; have B := Lib.hid hb; clear hb)
  go_loopw [16] (fun v wi => ∃ k : Nat, v = .int .i64 (k : Int) ∧ k ≤ m ∧ Below w.heap.size w wi) (fun v _ => m - (intOf v).toNat)
  case atStart => exact ⟨0, rfl, Nat.zero_le _, B.out⟩
  case round =>
    obtain ⟨j, rfl, hj, hb⟩ := hrel
    have HB := Lib.hid hb
    clear hb
    by_cases hgo : j < m
    · have h70 := H70.out
      obtain ⟨ad, rfl, c0, c1⟩ := HX.out.at_ HB.out hgo
      obtain ⟨X, hX⟩ : ∃ X : ByteArray, X = ⟨(tg L j).toArray⟩ := ⟨_, rfl⟩
      obtain ⟨D, hDD⟩ : ∃ D : ByteArray, D = ⟨(dt L j).toArray⟩ := ⟨_, rfl⟩
      have hDz : D.size = (dt L j).length := by rw [hDD]; exact List.size_toArray
      obtain ⟨nd, hnd⟩ : ∃ n, n = (dt L j).length := ⟨_, rfl⟩
      have h1 : nd ≤ 100 := by rw [hnd]; exact HSD.out j hgo
      rw [← hnd] at hDz
      rw [← hX] at c0
      rw [← hDD] at c1
      have hBA := Lib.hid (HB.out.alloc HB.out.size (.cells #[.string X, .string D] 35))
      have d1 : decide (100 < (nd : Int)) = false := decide_eq_false (by omega)
      clear hX hDD hnd h1
      go_wp2_with fail
      exact ⟨⟨j + 1, by simp, by omega, hBA.out⟩, by simp [intOf]; omega⟩
    · have hjm : j = m := by omega
      subst hjm
      by_cases hz : E = 0
      · have MQ := Lib.hid (may_q k (HMay.out hz))
        subst hz
        go_upto_region 12 with (go_at_call 9; (with_reducible refine (C1.out _ HB.out).mono ?_); rintro e w2 ⟨rfl, hb⟩; have B2 := Lib.hid (HB.out.trans (hb.mono HB.out.size)); clear hb)
        have K1 := Lib.hid (And.intro (B2.out.alloc B2.out.size (.cells #[.int .i64 k.em, .bool k.lg, .int .i64 k.gl, .int .i64 k.me, .int .i64 k.a1, .int .i64 k.a2, .int .i64 k.a3] 23)) (hb_start w2 k))
        obtain ⟨b, hb⟩ : ∃ b, b = w2.heap.size := ⟨_, rfl⟩
        obtain ⟨W2, hW2⟩ : ∃ W, W = w2.alloc (.cells #[.int .i64 k.em, .bool k.lg, .int .i64 k.gl, .int .i64 k.me, .int .i64 k.a1, .int .i64 k.a2, .int .i64 k.a3] 23) := ⟨_, rfl⟩
        rw [← hb, ← hW2] at K1
        rw [← hb, ← hW2]
        clear hb hW2
        go_upto_region 13 with (go_at_call 12; (with_reducible refine (C2.out _ K1.out.1).mono ?_); rintro e w3 ⟨rfl, hb⟩; have K2 := Lib.hid (And.intro ((K1.out.1.trans (hb.mono K1.out.1.size))) (K1.out.2.bel hb)); clear hb)
        have K3 := Lib.hid (And.intro (K2.out.1.alloc K2.out.1.size (.cells #[.int .i64 k.em, .bool k.lg, .int .i64 k.gl, .int .i64 k.me, .int .i64 k.a1, .int .i64 k.a2, .int .i64 k.a3] 23)) (And.intro (K2.out.2.bel ((Below.refl w3.heap.size w3).alloc (Nat.le_refl _) (.cells #[.int .i64 k.em, .bool k.lg, .int .i64 k.gl, .int .i64 k.me, .int .i64 k.a1, .int .i64 k.a2, .int .i64 k.a3] 23))) (hb_start w3 k)))
        obtain ⟨g, hg⟩ : ∃ b, b = w3.heap.size := ⟨_, rfl⟩
        obtain ⟨W3, hW3⟩ : ∃ W, W = w3.alloc (.cells #[.int .i64 k.em, .bool k.lg, .int .i64 k.gl, .int .i64 k.me, .int .i64 k.a1, .int .i64 k.a2, .int .i64 k.a3] 23) := ⟨_, rfl⟩
        rw [← hg, ← hW3] at K3
        rw [← hg, ← hW3]
        clear hg hW3
        obtain ⟨f0, f1, f2, f3, f4, f5, f6⟩ := K3.out.2.1.cells
        obtain ⟨g0, g1, g2, g3, g4, g5, g6⟩ := K3.out.2.2.cells
        go_wp2_with (go_at_call 7; (with_reducible refine (MQ.out _).mono ?_); rintro e w6 ⟨rfl, hb⟩; have B6 := Lib.hid (K3.out.1.trans (hb.mono K3.out.1.size)); clear hb)
        go_ret
        exact ⟨rfl, B6.out⟩
      · have ez : ((E : Int) != 0) = true := by simp; omega
        clear hz
        go_upto_region 12 with (go_at_call 9; (with_reducible refine (C1.out _ HB.out).mono ?_); rintro e w2 ⟨rfl, hb⟩; have B2 := Lib.hid (HB.out.trans (hb.mono HB.out.size)); clear hb)
        have K1 := Lib.hid (And.intro (B2.out.alloc B2.out.size (.cells #[.int .i64 k.em, .bool k.lg, .int .i64 k.gl, .int .i64 k.me, .int .i64 k.a1, .int .i64 k.a2, .int .i64 k.a3] 23)) (hb_start w2 k))
        obtain ⟨b, hb⟩ : ∃ b, b = w2.heap.size := ⟨_, rfl⟩
        obtain ⟨W2, hW2⟩ : ∃ W, W = w2.alloc (.cells #[.int .i64 k.em, .bool k.lg, .int .i64 k.gl, .int .i64 k.me, .int .i64 k.a1, .int .i64 k.a2, .int .i64 k.a3] 23) := ⟨_, rfl⟩
        rw [← hb, ← hW2] at K1
        rw [← hb, ← hW2]
        clear hb hW2
        go_upto_region 13 with (go_at_call 12; (with_reducible refine (C2.out _ K1.out.1).mono ?_); rintro e w3 ⟨rfl, hb⟩; have K2 := Lib.hid (And.intro ((K1.out.1.trans (hb.mono K1.out.1.size))) (K1.out.2.bel hb)); clear hb)
        have K3 := Lib.hid (And.intro (K2.out.1.alloc K2.out.1.size (.cells #[.int .i64 k.em, .bool k.lg, .int .i64 k.gl, .int .i64 k.me, .int .i64 k.a1, .int .i64 k.a2, .int .i64 k.a3] 23)) (And.intro (K2.out.2.bel ((Below.refl w3.heap.size w3).alloc (Nat.le_refl _) (.cells #[.int .i64 k.em, .bool k.lg, .int .i64 k.gl, .int .i64 k.me, .int .i64 k.a1, .int .i64 k.a2, .int .i64 k.a3] 23))) (hb_start w3 k)))
        obtain ⟨g, hg⟩ : ∃ b, b = w3.heap.size := ⟨_, rfl⟩
        obtain ⟨W3, hW3⟩ : ∃ W, W = w3.alloc (.cells #[.int .i64 k.em, .bool k.lg, .int .i64 k.gl, .int .i64 k.me, .int .i64 k.a1, .int .i64 k.a2, .int .i64 k.a3] 23) := ⟨_, rfl⟩
        rw [← hg, ← hW3] at K3
        rw [← hg, ← hW3]
        clear hg hW3
        obtain ⟨f0, f1, f2, f3, f4, f5, f6⟩ := K3.out.2.1.cells
        obtain ⟨g0, g1, g2, g3, g4, g5, g6⟩ := K3.out.2.2.cells
        go_wp2_with fail
        go_ret
        exact ⟨rfl, K3.out.1⟩
theorem law_any (A : Option Addr) (m c : Nat) (L : List (List UInt8 × List UInt8)) (w : World) (h : Tl w A m L) : Calls Try.prog 4 #[.slice A m c] w fun e w' => e = .returned (.bool true) ∧ Below w.heap.size w w' := by
  by_cases h1 : 10 < m
  · exact any_big A m c w h1
  · by_cases h2 : ∃ i, i < m ∧ smK L i = false
    · exact any_out A m c L w h h1 h2
    · exact any_in A m c L w h h1 fun i hi => by
        cases hs : smK L i
        · exact absurd ⟨i, hi, hs⟩ h2
        · rfl
end Go.Proofs.Ytphnapnmeidgkaa
