/- Proved here: awake answers true. No condition. -/
import Derived.Test.YtnnanlilnlimaaaFi
import Derived.Test.YtnnanlilnlimaaaFd
import Derived.Test.YtnnanlilnlimaaaFj
namespace Go.Proofs.Ytnnanlilnlimaaa
open Go.RowKit

def awL : List (List Pt) := [[(0, 0, true), (10, 0, true)]]
def awE : List Edg := [(0, false, (0, 0), (0, 0), (20, 0)), (0, false, (20, 0), (0, 0), (0, 0))]
theorem aw_e : EdP awL 1 = (0, awE) := by kernel_rfl
theorem aw_m : mayB awE = true := by decide +kernel
theorem aw_c : closed awE = true := by decide +kernel
theorem aw_b : boxP awE = ((0, 0), (20, 0), true) := by kernel_rfl
theorem aw_few : ∀ i, i < 1 → (ct awL i).length ≤ 5000 := fun i hi => by
  obtain rfl : i = 0 := by omega
  decide
theorem aw_ctl (w : World) : Ctl ((w.alloc (.cells #[.int .i64 0, .int .i64 0, .bool true, .int .i64 10, .int .i64 0, .bool true] 40)).alloc (.cells #[.slice (some ⟨w.heap.size, 0, none⟩) 2 2] 38)) (some ⟨w.heap.size + 1, 0, none⟩) 1 awL := by
  obtain ⟨w1, e1⟩ : ∃ W, W = w.alloc (.cells #[.int .i64 0, .int .i64 0, .bool true, .int .i64 10, .int .i64 0, .bool true] 40) := ⟨_, rfl⟩
  have g0 := heap_alloc_new w (.cells #[.int .i64 0, .int .i64 0, .bool true, .int .i64 10, .int .i64 0, .bool true] 40)
  have g1 := heap_alloc_new w1 (.cells #[.slice (some ⟨w.heap.size, 0, none⟩) 2 2] 38)
  have s1 : w1.heap.size = w.heap.size + 1 := by rw [e1]; simp
  rw [← e1] at g0 ⊢
  rw [s1] at g1
  have hb : Below w1.heap.size w1 (w1.alloc (.cells #[.slice (some ⟨w.heap.size, 0, none⟩) 2 2] 38)) := (Below.refl _ _).alloc (Nat.le_refl _) _
  have h0 := (hb.block w.heap.size (by omega)).trans g0
  refine ⟨rfl, fun i hi => ?_⟩
  obtain rfl : i = 0 := by omega
  refine ⟨_, _, 2, rfl, by rw [size_a, s1]; show w.heap.size + 1 < _; omega, by rw [add_z]; exact cell_of_row _ _ 0 _ _ _ g1, ⟨rfl, fun i hi => ?_⟩⟩
  have hi : i < 2 := hi
  match i, hi with
  | 0, _ => exact ⟨_, rfl, by rw [size_a, s1]; show w.heap.size < _; omega, by rw [add_z]; exact cell_of_row _ _ 0 _ _ _ h0, by rw [add_z]; exact cell_of_row _ _ 1 _ _ _ h0, by rw [add_z]; exact cell_of_row _ _ 2 _ _ _ h0⟩
  | 1, _ => exact ⟨_, rfl, by rw [size_a, s1]; show w.heap.size < _; omega, by rw [add_z]; exact cell_of_row _ _ 3 _ _ _ h0, by rw [add_z]; exact cell_of_row _ _ 4 _ _ _ h0, by rw [add_z]; exact cell_of_row _ _ 5 _ _ _ h0⟩
theorem aw_cells {W : World} {A : Option Addr} (h : Edl W A 2 awE) : ∃ ad, A = some ad ∧ W.cell? { block := ad.block, off := ad.off + 1 } = some (.bool false) ∧ W.cell? { block := ad.block, off := ad.off + 6 } = some (.int .i64 20) ∧ W.cell? { block := ad.block, off := ad.off + 7 } = some (.int .i64 0)
    ∧ W.cell? { block := ad.block, off := ad.off + 14 } = some (.int .i64 0) ∧ W.cell? { block := ad.block, off := ad.off + 15 } = some (.int .i64 0) := by
  obtain ⟨ad, h1, h2, h3⟩ := h.get 0 (by omega)
  obtain ⟨ad', h4, h5, h6⟩ := h.get 1 (by omega)
  rw [h1] at h4
  injection h4 with h4
  subst h4
  have ha : ∀ n, n ≠ 0 → (ad.add n) = ⟨ad.block, ad.off + n, none⟩ := fun n hn => by unfold Addr.add; rw [if_neg hn]
  refine ⟨ad, h1, ?_, ?_, ?_, ?_, ?_⟩
  · have := h3 1 _ rfl; rw [ha _ (by omega)] at this; exact this
  · have := h3 6 _ rfl; rw [ha _ (by omega)] at this; exact this
  · have := h3 7 _ rfl; rw [ha _ (by omega)] at this; exact this
  · have := h6 6 _ rfl; rw [ha _ (by omega)] at this; exact this
  · have := h6 7 _ rfl; rw [ha _ (by omega)] at this; exact this
set_option maxHeartbeats 4000000 in
set_option maxRecDepth 100000 in
theorem awake_any (w : World) : Calls Try.prog 6 #[] w fun e w' => e = .returned (.bool true) ∧ Below w.heap.size w w' := by
  have hb2 : Below w.heap.size w ((w.alloc (.cells #[.int .i64 0, .int .i64 0, .bool true, .int .i64 10, .int .i64 0, .bool true] 40)).alloc (.cells #[.slice (some ⟨w.heap.size, 0, none⟩) 2 2] 38)) := ((Below.refl _ _).alloc (Nat.le_refl _) _).alloc (by simp) _
  have HB2 := Lib.hid hb2
  have CE := Lib.hid (edges_any _ 1 1 awL 1 _ (aw_ctl w) (by omega) aw_few)
  rw [aw_e] at CE
  have CB := Lib.hid (fun A c W (h : Edl W A 2 awE) => show Calls Try.prog 13 #[.slice A 2 c] W fun e w' => e = .returned (.tuple #[.agg #[.int .i64 0, .int .i64 0], .agg #[.int .i64 20, .int .i64 0], .bool true]) ∧ Below W.heap.size W w' from by
    have h2 := pbox_any A 2 c awE W h (by omega)
    rw [aw_b] at h2
    exact h2)
  have CC := Lib.hid (fun A c W (h : Edl W A 2 awE) => show Calls Try.prog 12 #[.slice A 2 c] W fun e w' => e = .returned (.bool true) ∧ Below W.heap.size W w' from by
    have h2 := pclosed_any A 2 c awE W h (by omega)
    rw [aw_c] at h2
    exact h2)
  have CM := Lib.hid (fun A c W (h : Edl W A 2 awE) => show Calls Try.prog 11 #[.slice A 2 c] W fun e w' => e = .returned (.bool true) ∧ Below W.heap.size W w' from by
    have h2 := pmay_any A 2 c awE W h (by omega)
    rw [aw_m] at h2
    exact h2)
  clear hb2
  go_enter Try.func6, Try.ntmps6
  go_upto_region 2 with (go_at_call 8; (with_reducible refine CE.out.mono ?_); rintro e w3 ⟨A, k, c, rfl, hE, hb⟩; obtain rfl : k = 2 := hE.len.symm; have B3 := Lib.hid (HB2.out.trans (hb.mono HB2.out.size)); have HE3 := Lib.hid hE; clear hE hb)
  go_upto_region 3 with (go_at_call 13; (with_reducible refine (CB.out _ _ _ HE3.out).mono ?_); rintro e w4 ⟨he, hb⟩; subst he; have B4 := Lib.hid (B3.out.trans (hb.mono B3.out.size)); have HE4 := Lib.hid (HE3.out.bel hb); clear hb)
  have ha5 : Below w4.heap.size w4 ((w4.alloc (.cells #[.int .i64 0, .int .i64 0] 35)).alloc (.cells #[.int .i64 20, .int .i64 0] 35)) := ((Below.refl _ _).alloc (Nat.le_refl _) _).alloc (by simp) _
  have HR5 := Lib.hid (show Pbx ((w4.alloc (.cells #[.int .i64 0, .int .i64 0] 35)).alloc (.cells #[.int .i64 20, .int .i64 0] 35)) w4.heap.size (0, 0) from (Pbx.new w4 (0, 0)).bel ((Below.refl _ _).alloc (Nat.le_refl _) _))
  have HS5 := Lib.hid (show Pbx ((w4.alloc (.cells #[.int .i64 0, .int .i64 0] 35)).alloc (.cells #[.int .i64 20, .int .i64 0] 35)) (w4.heap.size + 1) (20, 0) from by
    have h := Pbx.new (w4.alloc (.cells #[.int .i64 0, .int .i64 0] 35)) (20, 0)
    rw [size_a] at h
    exact h)
  have HE5 := Lib.hid (HE4.out.bel ha5)
  have B5 := Lib.hid (B4.out.trans (ha5.mono B4.out.size))
  obtain ⟨d, hd⟩ : ∃ b, b = w4.heap.size := ⟨_, rfl⟩
  obtain ⟨W5, hW5⟩ : ∃ W, W = (w4.alloc (.cells #[.int .i64 0, .int .i64 0] 35)).alloc (.cells #[.int .i64 20, .int .i64 0] 35) := ⟨_, rfl⟩
  rw [← hW5] at HR5 HS5 HE5 B5 ⊢
  rw [← hd] at HR5 HS5 ⊢
  clear ha5 hd hW5
  obtain ⟨f0, f1, _, _⟩ := HR5.out.cells
  obtain ⟨g0, g1, _, _⟩ := HS5.out.cells
  obtain ⟨ad, hA, x1, x2, x3, x4, x5⟩ := aw_cells HE5.out
  subst hA
  dsimp only at f0 f1 g0 g1
  go_wp2_with (first
    | (go_at_call 12; (with_reducible refine (CC.out _ _ _ HE5.out).mono ?_); rintro e w6 ⟨rfl, hb⟩; have B6 := Lib.hid (B5.out.trans (hb.mono B5.out.size)); have HE6 := Lib.hid (HE5.out.bel hb); clear hb)
    | (go_at_call 11; (with_reducible refine (CM.out _ _ _ HE6.out).mono ?_); rintro e w7 ⟨rfl, hb⟩; have B7 := Lib.hid (B6.out.trans (hb.mono B6.out.size)); clear hb))
  go_ret
  exact ⟨rfl, B7.out⟩
end Go.Proofs.Ytnnanlilnlimaaa
