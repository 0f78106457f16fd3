/- Proved here: what the law EdgeTurned answers, over memory. Condition: points that lie in memory; no fewer room than points. -/
import Derived.Test.YtnnanlilnlimaaaGa
import Derived.Test.YtnnanlilnlimaaaGc
namespace Go.Proofs.Ytnnanlilnlimaaa
open Go.RowKit

/-- One contour alone, in a row of its own. -/
theorem ctl_one {w : World} {A : Option Addr} {m c : Nat} {L : List Pt} (h : Ptl w A m L) : Ctl (w.alloc (.cells #[.slice A m c] 38)) (some ⟨w.heap.size, 0, none⟩) 1 [L] := by
  refine ⟨rfl, fun i hi => ?_⟩
  obtain rfl : i = 0 := by omega
  have e : ct [L] 0 = L := rfl
  rw [e]
  have hl := h.len
  have g1 := heap_alloc_new w (.cells #[.slice A m c] 38)
  refine ⟨_, A, c, rfl, by rw [size_a]; show w.heap.size < _; omega, by rw [add_z, hl]; exact cell_of_row _ _ 0 _ _ _ g1, ?_⟩
  rw [hl]
  exact h.bel ((Below.refl _ _).alloc (Nat.le_refl _) _)
theorem ctl_oneD {w : World} {A : Option Addr} {m c : Nat} {L : List Pt} (h : Ptl w A m L) : Ctl (w.alloc (.cells #[.slice A m c] 38)).drew (some ⟨w.heap.size, 0, none⟩) 1 [L] := (ctl_one h).bel (Below.drew (Below.refl _ _))
theorem one_few {L : List Pt} (h : L.length ≤ 60) : ∀ i, i < 1 → (ct [L] i).length ≤ 5000 := fun i hi => by
  obtain rfl : i = 0 := by omega
  show L.length ≤ 5000
  omega
/-- What is turned away at once. -/
def badT (L : List Pt) (at_ : Int) : Prop := L.length = 0 ∨ 60 < L.length ∨ at_ < 0 ∨ (L.length : Int) ≤ at_ ∨ po L at_.toNat = false
set_option maxHeartbeats 8000000 in
set_option maxRecDepth 100000 in
theorem turned_bad (A : Option Addr) (m c : Nat) (L : List Pt) (at_ : Int) (w : World) (hP : Ptl w A m L) (hmx : m ≤ maxLen) (hbad : badT L at_) : Calls Try.prog 5 #[.slice A m c, .int .i64 at_] w fun e w' => e = .returned (.bool true) ∧ Below w.heap.size w w' := by
  have CA := Lib.hid (awake_any w)
  unfold maxLen at hmx
  have hlen := hP.len
  unfold badT at hbad
  rw [hlen] at hbad
  by_cases h0 : m = 0
  · subst h0
    clear hP hlen hbad hmx
    go_enter Try.func5, Try.ntmps5
    go_wp2_with (go_at_call 6; (with_reducible refine CA.out.mono ?_); rintro e w1 ⟨rfl, hb⟩; have B := Lib.hid hb; clear hb)
    go_ret
    exact ⟨rfl, B.out⟩
  have e0 : ((m : Int) == 0) = false := by simp; omega
  by_cases h6 : 60 < m
  · have e1 : decide (60 < (m : Int)) = true := decide_eq_true (by omega)
    clear hP hlen hbad h0 h6
    go_enter Try.func5, Try.ntmps5
    go_wp2_with (go_at_call 6; (with_reducible refine CA.out.mono ?_); rintro e w1 ⟨rfl, hb⟩; have B := Lib.hid hb; clear hb)
    go_ret
    exact ⟨rfl, B.out⟩
  have e1 : decide (60 < (m : Int)) = false := decide_eq_false (by omega)
  by_cases ha : at_ < 0
  · have e2 : decide (at_ < 0) = true := decide_eq_true ha
    clear hP hlen hbad h0 h6 ha
    go_enter Try.func5, Try.ntmps5
    go_wp2_with (go_at_call 6; (with_reducible refine CA.out.mono ?_); rintro e w1 ⟨rfl, hb⟩; have B := Lib.hid hb; clear hb)
    go_ret
    exact ⟨rfl, B.out⟩
  have e2 : decide (at_ < 0) = false := decide_eq_false ha
  by_cases hb : (m : Int) ≤ at_
  · have e3 : decide ((m : Int) ≤ at_) = true := decide_eq_true hb
    clear hP hlen hbad h0 h6 ha hb
    go_enter Try.func5, Try.ntmps5
    go_wp2_with (go_at_call 6; (with_reducible refine CA.out.mono ?_); rintro e w1 ⟨rfl, hb⟩; have B := Lib.hid hb; clear hb)
    go_ret
    exact ⟨rfl, B.out⟩
  have e3 : decide ((m : Int) ≤ at_) = false := decide_eq_false hb
  obtain ⟨a, rfl⟩ : ∃ a : Nat, at_ = (a : Int) := ⟨at_.toNat, by omega⟩
  have hon : po L a = false := by
    rcases hbad with h | h | h | h | h
    · omega
    · omega
    · omega
    · omega
    · rw [Int.toNat_natCast] at h; exact h
  have ham : a < m := by omega
  have HI := Lib.hid (fun W (hb : Below w.heap.size w W) => hP.at_ hb ham)
  have HOn := Lib.hid hon
  have g1 : (0 : Int) ≤ (a : Int) := by omega
  have g2 : (a : Int) < (m : Int) := by omega
  clear hP hlen hbad h0 h6 ha hb hon
  go_enter Try.func5, Try.ntmps5
  go_upto_region 3 with (go_at_call 6; (with_reducible refine CA.out.mono ?_); rintro e w1 ⟨rfl, hb⟩; have B := Lib.hid hb; clear hb)
  obtain ⟨ad, rfl, c0, c1, c2⟩ := HI.out _ B.out
  rw [HOn.out] at c2
  go_wp2_with fail
  go_ret
  exact ⟨rfl, B.out⟩
end Go.Proofs.Ytnnanlilnlimaaa
