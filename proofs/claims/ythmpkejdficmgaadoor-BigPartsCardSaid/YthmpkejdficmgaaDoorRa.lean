/- Proved here: what strconv.FormatUint answers at base 10. Condition: numbers of 64 bits, and the library's table of powers of ten at its place. -/
import Derived.Test.YthmpkejdficmgaaDoorNv
import Derived.Test.YthmpkejdficmgaaDoorMe
import Derived.Laws.Externs
import Derived.Lib.AppendIntMem
namespace Go.Proofs.YthmpkejdficmgaaDoor
open Go.RowKit Go.Sort Go.Lib

/-- The library's table of powers of ten lies at its place. -/
def Tab (w : World) : Prop := Lib.TabIs Tryd.prog w "internal/strconv.uint64pow10" .u64 Lib.pow10Tab
/-- The text of a number. -/
def decS (n : Nat) : ByteArray := ⟨(Lib.decDigits n).toArray⟩
set_option maxHeartbeats 1000000 in
theorem fmtI_small (u : Nat) (w : World) (hu : u < 100) : Calls Tryd.prog 68 #[.int .u64 (u : Int), .int .i64 10] w fun e w' => e = .returned (.string (decS u)) ∧ Below w.heap.size w w' := by
  go_enter Tryd.func68, Tryd.ntmps68
  go_wp2_with (go_at_call 77; (with_reducible refine (Tryd.internal_strconv_small u hu _).mono ?_); rintro e w' ⟨rfl, rfl⟩)
  go_ret
  exact ⟨rfl, Below.refl _ _⟩
theorem al111 : Tryd.prog.arrayLen 111 = 24 := by kernel_rfl
set_option maxHeartbeats 1000000 in
set_option maxRecDepth 100000 in
theorem fmtI_big (u : Nat) (w : World) (hu : 100 ≤ u) (hu64 : u < 18446744073709551616) (ht : Tab w) : Calls Tryd.prog 68 #[.int .u64 (u : Int), .int .i64 10] w fun e w' => e = .returned (.string (decS u)) ∧ Below w.heap.size w w' := by
  have hnd20 : Lib.nDigits u ≤ 20 := by have := Lib.numDigits_eq u (by omega) hu64; split at this <;> omega
  have hsl : ∀ W, (Instr.sliceAt 111 (.pointer (some ⟨w.heap.size, 0, none⟩)) none (some (.int .i64 (Lib.nDigits u : Int))) none).run Tryd.prog W = .ok (.slice (some ⟨w.heap.size, 0, none⟩) (Lib.nDigits u) 24) W := fun W => by
    rw [run_sliceAt_array_h W 111 ⟨w.heap.size, 0, none⟩ (by kernel_rfl) .i64 (Lib.nDigits u : Int) (by omega) (by rw [al111]; omega)]
    go_simp
  have hH0 := Lib.holds_zero0 w 111 (Lib.nDigits u) (by omega)
  have hfmt := Tryd.internal_strconv_formatBase10 w.heap.size 0 24 u (Array.replicate (Lib.nDigits u) 0) (w.alloc (.cells Lib.zeros24 111)) hH0 (by rw [Array.size_replicate]; exact Lib.lt_pow_nDigits u) hu64 (by rw [Array.size_replicate]; omega)
  rw [Array.size_replicate] at hfmt
  have HF := Lib.hid hfmt
  have HH0 := Lib.hid hH0
  have HT := Lib.hid (Lib.tabIs_alloc ht (.cells Lib.zeros24 111))
  have HU := Lib.hid hu64
  clear hfmt hH0 ht hu64
  go_enter Tryd.func68, Tryd.ntmps68
  go_wp2_with (first | (go_at_call 78; refine (Tryd.internal_strconv_numDigits u (by omega) HU.out _ HT.out).mono ?_; rintro e w' ⟨rfl, rfl⟩))
  go_at_call 79
  refine HF.out.mono ?_
  rintro e w' ⟨rfl, k, v', dk, rfl, hF⟩
  have hcv : (convert 78 9 (.slice (some ⟨w.heap.size, 0, none⟩) (Lib.nDigits u) 24)).run Tryd.prog ((putRow (fun (b : UInt8) => Value.int .u8 (b.toNat : Int)) (w.alloc (.cells Lib.zeros24 111)) w.heap.size 0 dk).drewN k) = .ok (.string (decS u)) ((putRow (fun (b : UInt8) => Value.int .u8 (b.toNat : Int)) (w.alloc (.cells Lib.zeros24 111)) w.heap.size 0 dk).drewN k) := by
    have h := run_convert_bytes_back (P := Tryd.prog) ((putRow (fun (b : UInt8) => Value.int .u8 (b.toNat : Int)) (w.alloc (.cells Lib.zeros24 111)) w.heap.size 0 dk).drewN k) 78 9 5 ⟨w.heap.size, 0, none⟩ 24 (Lib.decDigits u) Tryd.underlying78 Tryd.underlying5 Tryd.underlying9 (fun j hj => by
      rw [Lib.add_plain, Lib.row_is_numeral hF j hj, World.cell?_drewN]
      exact cell?_putRow (fun (b : UInt8) => Value.int .u8 (b.toNat : Int)) _ w.heap.size 0 _ dk HH0.out (by rw [hF.size, Array.size_replicate]) j (by rw [hF.size]; rw [Lib.decDigits_length] at hj; exact hj))
    rw [Lib.decDigits_length] at h
    exact h
  obtain ⟨os, eo⟩ := Lib.fin_at w (.cells Lib.zeros24 111) dk k 0
  have hbel : Below w.heap.size w ((putRow (fun (b : UInt8) => Value.int .u8 (b.toNat : Int)) (w.alloc (.cells Lib.zeros24 111)) w.heap.size 0 dk).drewN k) := by rw [eo]; exact Lib.below_grow w.heap.size w (Nat.le_refl _) k os
  have HB := Lib.hid hbel
  clear hbel eo
  generalize hW2 : (putRow (fun (b : UInt8) => Value.int .u8 (b.toNat : Int)) (w.alloc (.cells Lib.zeros24 111)) w.heap.size 0 dk).drewN k = W2 at hcv HB ⊢
  clear hW2
  go_wp2
  go_ret
  exact ⟨rfl, HB.out⟩
theorem fmtI_any (u : Nat) (w : World) (hu64 : u < 18446744073709551616) (ht : Tab w) : Calls Tryd.prog 68 #[.int .u64 (u : Int), .int .i64 10] w fun e w' => e = .returned (.string (decS u)) ∧ Below w.heap.size w w' := by
  rcases Nat.lt_or_ge u 100 with h | h
  · exact fmtI_small u w h
  · exact fmtI_big u w h hu64 ht
set_option maxHeartbeats 400000 in
theorem fmt_any (u : Nat) (w : World) (hu64 : u < 18446744073709551616) (ht : Tab w) : Calls Tryd.prog 54 #[.int .u64 (u : Int), .int .i64 10] w fun e w' => e = .returned (.string (decS u)) ∧ Below w.heap.size w w' := by
  have HU := Lib.hid hu64
  have HT := Lib.hid ht
  clear hu64 ht
  go_enter Tryd.func54, Tryd.ntmps54
  go_wp2_with (go_at_call 68; (with_reducible refine (fmtI_any u _ HU.out HT.out).mono ?_); rintro e w' ⟨rfl, hb⟩; have HB := Lib.hid hb; clear hb)
  go_ret
  exact ⟨rfl, HB.out⟩

theorem Tab.below {w w' : World} (h : Tab w) (hb : Below w.heap.size w w') : Tab w' := by
  unfold Tab Lib.TabIs World.var? at *
  cases hg : Tryd.prog.globalNamed "internal/strconv.uint64pow10" with
  | none => simp [hg] at h
  | some g =>
    simp only [hg, Option.bind_some] at h ⊢
    have hlt : g < w.heap.size := by
      rcases Nat.lt_or_ge g w.heap.size with hl | hl
      · exact hl
      · rw [Array.getElem?_eq_none hl] at h; simp at h
    rw [hb.block g hlt]
    exact h
end Go.Proofs.YthmpkejdficmgaaDoor
