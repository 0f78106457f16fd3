/- Proved here: what package wide answers where it multiplies a number by one of 64 bits. Condition: numbers of 64 bits. -/
import Derived.Test.YtbkoeiofofhinaaWa
namespace Go.Proofs.Ytbkoeiofofhinaa
open Go.RowKit Go.Sort Go.Lib

/-- A product with one half that is too great, and one that isn't. -/
theorem scale_fits {a b n : Nat} (ha : a < 18446744073709551616) (hb : b < 18446744073709551616) (hn : n < 18446744073709551616) :
    (pHi a n ≠ 0 → FitR (numW a b * n) 0 0 2) ∧ (pHi a n = 0 → numW (pLo a n) 0 + numW (pHi b n) (pLo b n) = numW a b * n) ∧ pHi b n < 18446744073709551616 ∧ pLo b n < 18446744073709551616 ∧ pLo a n < 18446744073709551616 ∧ pHi a n < 18446744073709551616 := by
  have e : numW a b * n = a * n * 18446744073709551616 + b * n := by unfold numW; grind
  have hbn : b * n < 18446744073709551616 * 18446744073709551616 := Nat.mul_lt_mul'' hb hn
  have han : a * n < 18446744073709551616 * 18446744073709551616 := Nat.mul_lt_mul'' ha hn
  unfold FitR pHi pLo
  rw [e, e8]
  unfold numW
  generalize a * n = A at *
  generalize b * n = C at *
  refine ⟨fun h => .inr ⟨by omega, rfl, rfl, rfl⟩, fun h => by omega, by omega, by omega, by omega, by omega⟩
theorem add_hi (a c d : Nat) (w : World) (ha : a < 18446744073709551616) (hc : c < 18446744073709551616) (hd : d < 18446744073709551616) :
    Calls Try.prog 27 #[.agg #[.int .u64 (a : Int), .int .u64 0], .agg #[.int .u64 (c : Int), .int .u64 (d : Int)]] w (FitE (numW a 0 + numW c d) w) := add_any a 0 c d w ha (by decide) hc hd
/-- A number in a box, a box for the answer, and a third one. -/
def SX (w W : World) (g a b c d : Nat) : Prop := Box W w.heap.size a b ∧ Box W g c d ∧ Box W (w.heap.size + 1) 0 0 ∧ Below w.heap.size w W
theorem SX.start {w w1 W : World} {a b c d : Nat} (hb : Below ((w.alloc (.cells #[.int .u64 (a : Int), .int .u64 (b : Int)] 24)).alloc (.cells #[.int .u64 0, .int .u64 0] 24)).heap.size ((w.alloc (.cells #[.int .u64 (a : Int), .int .u64 (b : Int)] 24)).alloc (.cells #[.int .u64 0, .int .u64 0] 24)) w1)
    (hW : W = w1.alloc (.cells #[.int .u64 (c : Int), .int .u64 (d : Int)] 24)) : SX w W w1.heap.size a b c d := by
  subst hW
  have h1 := ((Box.new w a b).alloc (.cells #[.int .u64 0, .int .u64 0] 24)).below hb (by simp; omega)
  have h2 := (new2 w (.cells #[.int .u64 (a : Int), .int .u64 (b : Int)] 24) 0 0).below hb (by simp)
  have h3 : Below w.heap.size w w1 := (bel2 w _ _).trans (hb.mono (by simp; omega))
  exact ⟨h1.alloc _, Box.new w1 c d, h2.alloc _, h3.alloc h3.size _⟩
theorem SX.drew {w W : World} {g a b c d : Nat} (h : SX w W g a b c d) : SX w W.drew g a b c d := ⟨h.1, h.2.1, h.2.2.1, h.2.2.2.drew⟩
theorem SX.next {w W W' : World} {g a b c d : Nat} (h : SX w W g a b c d) (hb : Below W.heap.size W W') : SX w W' g a b c d :=
  ⟨h.1.below hb h.1.lt, h.2.1.below hb h.2.1.lt, h.2.2.1.below hb h.2.2.1.lt, h.2.2.2.trans (hb.mono h.2.2.2.size)⟩
theorem SX.facts {w W : World} {g a b c d : Nat} (h : SX w W g a b c d) : W.cell? ⟨w.heap.size, 1, none⟩ = some (.int .u64 (b : Int)) ∧ W.cell? ⟨g, 1, none⟩ = some (.int .u64 (d : Int)) ∧
  W.cell? ⟨w.heap.size + 1, 0, none⟩ = some (.int .u64 0) ∧ W.cell? ⟨w.heap.size + 1, 1, none⟩ = some (.int .u64 0) ∧ W.frozen? ⟨w.heap.size + 1, 0, none⟩ = false ∧ W.frozen? ⟨w.heap.size + 1, 1, none⟩ = false := ⟨h.1.c1, h.2.1.c1, h.2.2.1.c0, h.2.2.1.c1, h.2.2.1.fr 0, h.2.2.1.fr 1⟩
set_option maxHeartbeats 1000000 in
set_option maxRecDepth 100000 in
theorem scale_any (a b n : Nat) (w : World) (ha : a < 18446744073709551616) (hb : b < 18446744073709551616) (hn : n < 18446744073709551616) :
    Calls Try.prog 22 #[.agg #[.int .u64 (a : Int), .int .u64 (b : Int)], .int .u64 (n : Int)] w (FitE (numW a b * n) w) := by
  have HF := Lib.hid (scale_fits ha hb hn)
  have HA := Lib.hid (And.intro ha (And.intro hb hn))
  clear ha hb hn
  by_cases h0 : pHi a n = 0
  · have hq : (((pHi a n : Nat) : Int) != 0) = false := by simp [h0]
    have H0 := Lib.hid h0
    clear h0
    go_enter Try.func22, Try.ntmps22
    go_wp2_with (first
      | (go_at_call 21; (with_reducible refine (mul_any a n _ HA.out.1 HA.out.2.2).mono ?_); rintro e w1 ⟨rfl, hb1⟩; have HB1 := Lib.hid hb1; clear hb1))
    obtain ⟨W0, hW0⟩ : ∃ W0, W0 = w1.alloc (.cells #[.int .u64 (pHi a n : Int), .int .u64 (pLo a n : Int)] 24) := ⟨_, rfl⟩
    rw [← hW0]
    have HX0 := Lib.hid (SX.start HB1.out hW0)
    clear hW0
    obtain ⟨f1, f2, f3, f4, f5, f6⟩ := HX0.out.facts
    have l1 := HX0.out.1.lt
    have l2 := HX0.out.2.1.lt
    have l4 : w.heap.size + 1 < w1.heap.size := ((new2 w (.cells #[.int .u64 (a : Int), .int .u64 (b : Int)] 24) 0 0).below HB1.out (by simp)).lt
    go_region_held3 (fun w' => w'.cell? ⟨w1.heap.size, 1, none⟩ = some (.int .u64 (pLo a n : Int)) ∧ w'.cell? ⟨w.heap.size, 1, none⟩ = some (.int .u64 (b : Int)))
      (first | (go_split_ands; refine ⟨?_, ?_⟩ <;> first | (rw [hb3.cell (by have := hb2.size; simp at this ⊢; omega)]; assumption) | (rw [hb2.cell (by simp; omega)]; assumption) | (rw [World.cell?_setCell_other _ _ _ _ (by simp <;> omega), World.cell?_setCell_other _ _ _ _ (by simp <;> omega)]; assumption)) | go_keep)
      (first
        | (go_at_call 21; (with_reducible refine (mul_any b n _ HA.out.2.1 HA.out.2.2).mono ?_); rintro e w2 ⟨rfl, hb2⟩)
        | (go_at_call 27; (with_reducible refine (add_hi (pLo a n) (pHi b n) (pLo b n) _ HF.out.2.2.2.2.1 HF.out.2.2.1 HF.out.2.2.2.1).mono ?_); rintro e w3 ⟨h3, lo3, c3, rfl, hf3, hb3⟩; have HX3 := Lib.hid ((HX0.out.drew.next hb2).next hb3); have g3 := HX3.out.facts.2.2.1; have g4 := HX3.out.facts.2.2.2.1; have g5 := HX3.out.facts.2.2.2.2.1; have g6 := HX3.out.facts.2.2.2.2.2; have HF3 := Lib.hid hf3; clear hf3))
    all_goals
      go_wp2_with fail
      exact bodyPost_ret (ret_box2 rfl rfl rfl ((HX3.out.2.2.1.set0 _).set1 _)) rfl ⟨_, _, _, rfl, (HF.out.2.1 H0.out) ▸ HF3.out, (HX3.out.2.2.2.setCell (by simp) _).setCell (by simp) _⟩
  · have hq : (((pHi a n : Nat) : Int) != 0) = true := by simp [h0]
    have H0 := Lib.hid h0
    clear h0
    go_enter Try.func22, Try.ntmps22
    go_wp2_with (first
      | (go_at_call 21; (with_reducible refine (mul_any a n _ HA.out.1 HA.out.2.2).mono ?_); rintro e w1 ⟨rfl, hb1⟩; have HB1 := Lib.hid hb1; have hbx := (new2 w (.cells #[.int .u64 (a : Int), .int .u64 (b : Int)] 24) 0 0).below hb1 (by simp); obtain ⟨f1, f2, f3, f4⟩ := And.intro hbx.c0 (And.intro hbx.c1 (And.intro (hbx.fr 0) (hbx.fr 1))); have hlt := hbx.lt; clear hb1 hbx))
    have hz := (((bel2 w _ _).trans (HB1.out.mono (by simp; omega))).setCell (p := ⟨w.heap.size + 1, 0, none⟩) (by simp) (.int .u64 0)).setCell (p := ⟨w.heap.size + 1, 1, none⟩) (by simp) (.int .u64 0)
    have HY := Lib.hid ((new2 w (.cells #[.int .u64 (a : Int), .int .u64 (b : Int)] 24) 0 0).below HB1.out (by simp))
    exact bodyPost_ret (ret_box2 (a := 0) (b := 0) rfl rfl rfl (((HY.out.set0 0).set1 0).alloc _)) rfl ⟨0, 0, _, rfl, HF.out.1 H0.out, hz.alloc hz.size _⟩
end Go.Proofs.Ytbkoeiofofhinaa
