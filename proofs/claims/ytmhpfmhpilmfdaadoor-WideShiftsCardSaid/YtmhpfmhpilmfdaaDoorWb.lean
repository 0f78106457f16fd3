/- Proved here: what package wide's Scale and Bits answer, and strconv.FormatUint at base 10. Condition: numbers of 64 bits, and the library's table of powers of ten at its place. -/
import Derived.Test.YtmhpfmhpilmfdaaDoorWa
namespace Go.Proofs.YtmhpfmhpilmfdaaDoor
open Go.RowKit Go.Sort Go.Lib

/-- The library's table of powers of ten lies at its place. -/
def Tab (w : World) : Prop := Lib.TabIs Tryd.prog w "internal/strconv.uint64pow10" .u64 Lib.pow10Tab
/-- The text of a number. -/
def decS (n : Nat) : ByteArray := ⟨(Lib.decDigits n).toArray⟩
set_option maxHeartbeats 1000000 in
theorem fmtI_small (u : Nat) (w : World) (hu : u < 100) : Calls Tryd.prog 45 #[.int .u64 (u : Int), .int .i64 10] w fun e w' => e = .returned (.string (decS u)) ∧ Below w.heap.size w w' := by
  go_enter Tryd.func45, Tryd.ntmps45
  go_wp2_with (go_at_call 52; (with_reducible refine (Tryd.internal_strconv_small u hu _).mono ?_); rintro e w' ⟨rfl, rfl⟩)
  go_ret
  exact ⟨rfl, Below.refl _ _⟩
theorem al81 : Tryd.prog.arrayLen 81 = 24 := by kernel_rfl
set_option maxHeartbeats 1000000 in
set_option maxRecDepth 100000 in
theorem fmtI_big (u : Nat) (w : World) (hu : 100 ≤ u) (hu64 : u < 18446744073709551616) (ht : Tab w) : Calls Tryd.prog 45 #[.int .u64 (u : Int), .int .i64 10] w fun e w' => e = .returned (.string (decS u)) ∧ Below w.heap.size w w' := by
  have hnd20 : Lib.nDigits u ≤ 20 := by have := Lib.numDigits_eq u (by omega) hu64; split at this <;> omega
  have hsl : ∀ W, (Instr.sliceAt 81 (.pointer (some ⟨w.heap.size, 0, none⟩)) none (some (.int .i64 (Lib.nDigits u : Int))) none).run Tryd.prog W = .ok (.slice (some ⟨w.heap.size, 0, none⟩) (Lib.nDigits u) 24) W := fun W => by
    rw [run_sliceAt_array_h W 81 ⟨w.heap.size, 0, none⟩ (by kernel_rfl) .i64 (Lib.nDigits u : Int) (by omega) (by rw [al81]; omega)]
    go_simp
  have hH0 := Lib.holds_zero0 w 81 (Lib.nDigits u) (by omega)
  have hfmt := Tryd.internal_strconv_formatBase10 w.heap.size 0 24 u (Array.replicate (Lib.nDigits u) 0) (w.alloc (.cells Lib.zeros24 81)) hH0 (by rw [Array.size_replicate]; exact Lib.lt_pow_nDigits u) hu64 (by rw [Array.size_replicate]; omega)
  rw [Array.size_replicate] at hfmt
  have HF := Lib.hid hfmt
  have HH0 := Lib.hid hH0
  have HT := Lib.hid (Lib.tabIs_alloc ht (.cells Lib.zeros24 81))
  have HU := Lib.hid hu64
  clear hfmt hH0 ht hu64
  go_enter Tryd.func45, Tryd.ntmps45
  go_wp2_with (first | (go_at_call 53; refine (Tryd.internal_strconv_numDigits u (by omega) HU.out _ HT.out).mono ?_; rintro e w' ⟨rfl, rfl⟩))
  go_at_call 54
  refine HF.out.mono ?_
  rintro e w' ⟨rfl, k, v', dk, rfl, hF⟩
  have hcv : (convert 66 9 (.slice (some ⟨w.heap.size, 0, none⟩) (Lib.nDigits u) 24)).run Tryd.prog ((putRow (fun (b : UInt8) => Value.int .u8 (b.toNat : Int)) (w.alloc (.cells Lib.zeros24 81)) w.heap.size 0 dk).drewN k) = .ok (.string (decS u)) ((putRow (fun (b : UInt8) => Value.int .u8 (b.toNat : Int)) (w.alloc (.cells Lib.zeros24 81)) w.heap.size 0 dk).drewN k) := by
    have h := run_convert_bytes_back (P := Tryd.prog) ((putRow (fun (b : UInt8) => Value.int .u8 (b.toNat : Int)) (w.alloc (.cells Lib.zeros24 81)) w.heap.size 0 dk).drewN k) 66 9 5 ⟨w.heap.size, 0, none⟩ 24 (Lib.decDigits u) Tryd.underlying66 Tryd.underlying5 Tryd.underlying9 (fun j hj => by
      rw [Lib.add_plain, Lib.row_is_numeral hF j hj, World.cell?_drewN]
      exact cell?_putRow (fun (b : UInt8) => Value.int .u8 (b.toNat : Int)) _ w.heap.size 0 _ dk HH0.out (by rw [hF.size, Array.size_replicate]) j (by rw [hF.size]; rw [Lib.decDigits_length] at hj; exact hj))
    rw [Lib.decDigits_length] at h
    exact h
  obtain ⟨os, eo⟩ := Lib.fin_at w (.cells Lib.zeros24 81) dk k 0
  have hbel : Below w.heap.size w ((putRow (fun (b : UInt8) => Value.int .u8 (b.toNat : Int)) (w.alloc (.cells Lib.zeros24 81)) w.heap.size 0 dk).drewN k) := by rw [eo]; exact Lib.below_grow w.heap.size w (Nat.le_refl _) k os
  have HB := Lib.hid hbel
  clear hbel eo
  generalize hW2 : (putRow (fun (b : UInt8) => Value.int .u8 (b.toNat : Int)) (w.alloc (.cells Lib.zeros24 81)) w.heap.size 0 dk).drewN k = W2 at hcv HB ⊢
  clear hW2
  go_wp2
  go_ret
  exact ⟨rfl, HB.out⟩
theorem fmtI_any (u : Nat) (w : World) (hu64 : u < 18446744073709551616) (ht : Tab w) : Calls Tryd.prog 45 #[.int .u64 (u : Int), .int .i64 10] w fun e w' => e = .returned (.string (decS u)) ∧ Below w.heap.size w w' := by
  rcases Nat.lt_or_ge u 100 with h | h
  · exact fmtI_small u w h
  · exact fmtI_big u w h hu64 ht
set_option maxHeartbeats 400000 in
theorem fmt_any (u : Nat) (w : World) (hu64 : u < 18446744073709551616) (ht : Tab w) : Calls Tryd.prog 42 #[.int .u64 (u : Int), .int .i64 10] w fun e w' => e = .returned (.string (decS u)) ∧ Below w.heap.size w w' := by
  have HU := Lib.hid hu64
  have HT := Lib.hid ht
  clear hu64 ht
  go_enter Tryd.func42, Tryd.ntmps42
  go_wp2_with (go_at_call 45; (with_reducible refine (fmtI_any u _ HU.out HT.out).mono ?_); rintro e w' ⟨rfl, hb⟩; have HB := Lib.hid hb; clear hb)
  go_ret
  exact ⟨rfl, HB.out⟩

/-- How many digits in base 2. -/
def bitsW (hi lo : Nat) : Nat := if hi = 0 then Lib.bitLen lo else 64 + Lib.bitLen hi
set_option maxHeartbeats 400000 in
theorem bits_any (hi lo : Nat) (w : World) (hh : hi < 18446744073709551616) (hl : lo < 18446744073709551616) :
    Calls Tryd.prog 20 #[.agg #[.int .u64 (hi : Int), .int .u64 (lo : Int)]] w fun e w' => e = .returned (.int .i64 (bitsW hi lo : Int)) ∧ Below w.heap.size w w' := by
  have b1 := Lib.bitLen_le hi 64 (by decide) (by simpa using hh)
  have c1 := fun W => Tryd.bits_Len64 (hi : Int) W (by omega) (by omega)
  have c2 := fun W => Tryd.bits_Len64 (lo : Int) W (by omega) (by omega)
  simp only [Int.toNat_natCast] at c1 c2
  obtain ⟨L1, h1⟩ : ∃ L, L = Lib.bitLen hi := ⟨_, rfl⟩
  obtain ⟨L2, h2⟩ : ∃ L, L = Lib.bitLen lo := ⟨_, rfl⟩
  rw [← h1] at c1 b1
  rw [← h2] at c2
  have C1 := Lib.hid c1
  have C2 := Lib.hid c2
  have H1 := Lib.hid h1
  have H2 := Lib.hid h2
  clear c1 c2 hh hl h1 h2
  by_cases h0 : hi = 0
  · have hq : ((hi : Int) != 0) = false := by simp [h0]
    have H0 := Lib.hid h0
    clear h0
    go_enter Tryd.func20, Tryd.ntmps20
    go_wp2_with (go_at_call 39; (with_reducible refine (C2.out _).mono ?_); rintro e w' ⟨rfl, rfl⟩)
    go_ret
    exact ⟨ret_int (by rw [bitsW, if_pos H0.out, H2.out]), (Below.refl _ _).alloc (Nat.le_refl _) _⟩
  · have hq : ((hi : Int) != 0) = true := by simp [h0]
    have H0 := Lib.hid h0
    clear h0
    go_enter Tryd.func20, Tryd.ntmps20
    go_wp2_with (go_at_call 39; (with_reducible refine (C1.out _).mono ?_); rintro e w' ⟨rfl, rfl⟩)
    go_ret
    exact ⟨ret_int (by rw [bitsW, if_neg H0.out, ← H1.out]; simp), (Below.refl _ _).alloc (Nat.le_refl _) _⟩
/-- A product with one half that is too great, and one that isn't. -/
theorem scale_fits {a b n : Nat} (ha : a < 18446744073709551616) (hb : b < 18446744073709551616) (hn : n < 18446744073709551616) :
    (pHi a n ≠ 0 → FitR (numW a b * n) 0 0 2) ∧ (pHi a n = 0 → numW (pLo a n) 0 + numW (pHi b n) (pLo b n) = numW a b * n) ∧ pHi b n < 18446744073709551616 ∧ pLo b n < 18446744073709551616 ∧ pLo a n < 18446744073709551616 ∧ pHi a n < 18446744073709551616 := by
  have e : numW a b * n = a * n * 18446744073709551616 + b * n := by unfold numW; grind
  have hbn : b * n < 18446744073709551616 * 18446744073709551616 := Nat.mul_lt_mul'' hb hn
  have han : a * n < 18446744073709551616 * 18446744073709551616 := Nat.mul_lt_mul'' ha hn
  unfold FitR pHi pLo
  rw [e, e8]
  unfold numW
  generalize a * n = A at *
  generalize b * n = C at *
  refine ⟨fun h => .inr ⟨by omega, rfl, rfl, rfl⟩, fun h => by omega, by omega, by omega, by omega, by omega⟩
theorem add_hi (a c d : Nat) (w : World) (ha : a < 18446744073709551616) (hc : c < 18446744073709551616) (hd : d < 18446744073709551616) :
    Calls Tryd.prog 8 #[.agg #[.int .u64 (a : Int), .int .u64 0], .agg #[.int .u64 (c : Int), .int .u64 (d : Int)]] w (FitE (numW a 0 + numW c d) w) := add_any a 0 c d w ha (by decide) hc hd
/-- A number in a box, a box for the answer, and a third one. -/
def SX (w W : World) (g a b c d : Nat) : Prop := Box W w.heap.size a b ∧ Box W g c d ∧ Box W (w.heap.size + 1) 0 0 ∧ Below w.heap.size w W
theorem SX.start {w w1 W : World} {a b c d : Nat} (hb : Below ((w.alloc (.cells #[.int .u64 (a : Int), .int .u64 (b : Int)] 24)).alloc (.cells #[.int .u64 0, .int .u64 0] 24)).heap.size ((w.alloc (.cells #[.int .u64 (a : Int), .int .u64 (b : Int)] 24)).alloc (.cells #[.int .u64 0, .int .u64 0] 24)) w1)
    (hW : W = w1.alloc (.cells #[.int .u64 (c : Int), .int .u64 (d : Int)] 24)) : SX w W w1.heap.size a b c d := by
  subst hW
  have h1 := ((Box.new w a b).alloc (.cells #[.int .u64 0, .int .u64 0] 24)).below hb (by simp; omega)
  have h2 := (new2 w (.cells #[.int .u64 (a : Int), .int .u64 (b : Int)] 24) 0 0).below hb (by simp)
  have h3 : Below w.heap.size w w1 := (bel2 w _ _).trans (hb.mono (by simp; omega))
  exact ⟨h1.alloc _, Box.new w1 c d, h2.alloc _, h3.alloc h3.size _⟩
theorem SX.drew {w W : World} {g a b c d : Nat} (h : SX w W g a b c d) : SX w W.drew g a b c d := ⟨h.1, h.2.1, h.2.2.1, h.2.2.2.drew⟩
theorem SX.next {w W W' : World} {g a b c d : Nat} (h : SX w W g a b c d) (hb : Below W.heap.size W W') : SX w W' g a b c d :=
  ⟨h.1.below hb h.1.lt, h.2.1.below hb h.2.1.lt, h.2.2.1.below hb h.2.2.1.lt, h.2.2.2.trans (hb.mono h.2.2.2.size)⟩
theorem SX.facts {w W : World} {g a b c d : Nat} (h : SX w W g a b c d) : W.cell? ⟨w.heap.size, 1, none⟩ = some (.int .u64 (b : Int)) ∧ W.cell? ⟨g, 1, none⟩ = some (.int .u64 (d : Int)) ∧
  W.cell? ⟨w.heap.size + 1, 0, none⟩ = some (.int .u64 0) ∧ W.cell? ⟨w.heap.size + 1, 1, none⟩ = some (.int .u64 0) ∧ W.frozen? ⟨w.heap.size + 1, 0, none⟩ = false ∧ W.frozen? ⟨w.heap.size + 1, 1, none⟩ = false := ⟨h.1.c1, h.2.1.c1, h.2.2.1.c0, h.2.2.1.c1, h.2.2.1.fr 0, h.2.2.1.fr 1⟩
set_option maxHeartbeats 1000000 in
set_option maxRecDepth 100000 in
theorem scale_any (a b n : Nat) (w : World) (ha : a < 18446744073709551616) (hb : b < 18446744073709551616) (hn : n < 18446744073709551616) :
    Calls Tryd.prog 12 #[.agg #[.int .u64 (a : Int), .int .u64 (b : Int)], .int .u64 (n : Int)] w (FitE (numW a b * n) w) := by
  have HF := Lib.hid (scale_fits ha hb hn)
  have HA := Lib.hid (And.intro ha (And.intro hb hn))
  clear ha hb hn
  by_cases h0 : pHi a n = 0
  · have hq : (((pHi a n : Nat) : Int) != 0) = false := by simp [h0]
    have H0 := Lib.hid h0
    clear h0
    go_enter Tryd.func12, Tryd.ntmps12
    go_wp2_with (first
      | (go_at_call 14; (with_reducible refine (mul_any a n _ HA.out.1 HA.out.2.2).mono ?_); rintro e w1 ⟨rfl, hb1⟩; have HB1 := Lib.hid hb1; clear hb1))
    obtain ⟨W0, hW0⟩ : ∃ W0, W0 = w1.alloc (.cells #[.int .u64 (pHi a n : Int), .int .u64 (pLo a n : Int)] 24) := ⟨_, rfl⟩
    rw [← hW0]
    have HX0 := Lib.hid (SX.start HB1.out hW0)
    clear hW0
    obtain ⟨f1, f2, f3, f4, f5, f6⟩ := HX0.out.facts
    have l1 := HX0.out.1.lt
    have l2 := HX0.out.2.1.lt
    have l4 : w.heap.size + 1 < w1.heap.size := ((new2 w (.cells #[.int .u64 (a : Int), .int .u64 (b : Int)] 24) 0 0).below HB1.out (by simp)).lt
    go_region_held3 (fun w' => w'.cell? ⟨w1.heap.size, 1, none⟩ = some (.int .u64 (pLo a n : Int)) ∧ w'.cell? ⟨w.heap.size, 1, none⟩ = some (.int .u64 (b : Int)))
      (first | (go_split_ands; refine ⟨?_, ?_⟩ <;> first | (rw [hb3.cell (by have := hb2.size; simp at this ⊢; omega)]; assumption) | (rw [hb2.cell (by simp; omega)]; assumption) | (rw [World.cell?_setCell_other _ _ _ _ (by simp <;> omega), World.cell?_setCell_other _ _ _ _ (by simp <;> omega)]; assumption)) | go_keep)
      (first
        | (go_at_call 14; (with_reducible refine (mul_any b n _ HA.out.2.1 HA.out.2.2).mono ?_); rintro e w2 ⟨rfl, hb2⟩)
        | (go_at_call 8; (with_reducible refine (add_hi (pLo a n) (pHi b n) (pLo b n) _ HF.out.2.2.2.2.1 HF.out.2.2.1 HF.out.2.2.2.1).mono ?_); rintro e w3 ⟨h3, lo3, c3, rfl, hf3, hb3⟩; have HX3 := Lib.hid ((HX0.out.drew.next hb2).next hb3); have g3 := HX3.out.facts.2.2.1; have g4 := HX3.out.facts.2.2.2.1; have g5 := HX3.out.facts.2.2.2.2.1; have g6 := HX3.out.facts.2.2.2.2.2; have HF3 := Lib.hid hf3; clear hf3))
    all_goals
      go_wp2_with fail
      exact bodyPost_ret (ret_box2 rfl rfl rfl ((HX3.out.2.2.1.set0 _).set1 _)) rfl ⟨_, _, _, rfl, (HF.out.2.1 H0.out) ▸ HF3.out, (HX3.out.2.2.2.setCell (by simp) _).setCell (by simp) _⟩
  · have hq : (((pHi a n : Nat) : Int) != 0) = true := by simp [h0]
    have H0 := Lib.hid h0
    clear h0
    go_enter Tryd.func12, Tryd.ntmps12
    go_wp2_with (first
      | (go_at_call 14; (with_reducible refine (mul_any a n _ HA.out.1 HA.out.2.2).mono ?_); rintro e w1 ⟨rfl, hb1⟩; have HB1 := Lib.hid hb1; have hbx := (new2 w (.cells #[.int .u64 (a : Int), .int .u64 (b : Int)] 24) 0 0).below hb1 (by simp); obtain ⟨f1, f2, f3, f4⟩ := And.intro hbx.c0 (And.intro hbx.c1 (And.intro (hbx.fr 0) (hbx.fr 1))); have hlt := hbx.lt; clear hb1 hbx))
    have hz := (((bel2 w _ _).trans (HB1.out.mono (by simp; omega))).setCell (p := ⟨w.heap.size + 1, 0, none⟩) (by simp) (.int .u64 0)).setCell (p := ⟨w.heap.size + 1, 1, none⟩) (by simp) (.int .u64 0)
    have HY := Lib.hid ((new2 w (.cells #[.int .u64 (a : Int), .int .u64 (b : Int)] 24) 0 0).below HB1.out (by simp))
    exact bodyPost_ret (ret_box2 (a := 0) (b := 0) rfl rfl rfl (((HY.out.set0 0).set1 0).alloc _)) rfl ⟨0, 0, _, rfl, HF.out.1 H0.out, hz.alloc hz.size _⟩
end Go.Proofs.YtmhpfmhpilmfdaaDoor
