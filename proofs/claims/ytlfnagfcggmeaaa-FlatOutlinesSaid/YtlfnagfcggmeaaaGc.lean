/- Proved here: awake answers true. -/
import Derived.Test.YtlfnagfcggmeaaaGa
import Derived.Test.YtlfnagfcggmeaaaLE
namespace Go.Proofs.Ytlfnagfcggmeaaa
open Go.RowKit

def awS : List Shp := [([[(1, 2, true)]], []), ([], [(0, 5, 0, 16384, 0, 0, 16384)])]
theorem aw_may : MayS awS := by decide +kernel
theorem aw_o1 : outA awS 1 = (0, [[(6, 2, true)]]) := by decide +kernel
theorem aw_o2 : outA awS 2 = (1, []) := by decide +kernel
theorem aw_d1 : depA awS 1 = (0, 1) := by decide +kernel
theorem add_zero_ (a : Addr) : a.add 0 = a := by unfold Addr.add; simp
theorem Ctl.zero {w : World} {A : Option Addr} {x y : Int} {o : Bool} (h : Ctl w A 1 [[(x, y, o)]]) : ∃ ad bd c, A = some ad ∧ w.cell? ad = some (.slice (some bd) 1 c) ∧ w.cell? bd = some (.int .i64 x) ∧ w.cell? { block := bd.block, off := bd.off + 1 } = some (.int .i64 y) ∧ w.cell? { block := bd.block, off := bd.off + 2 } = some (.bool o) := by
  obtain ⟨ad, B, c, h1, h2, h3⟩ := h.at_ (Below.refl _ _) (i := 0) (by omega)
  obtain ⟨bd, h4, h5, h6, h7⟩ := h3.at_ (Below.refl _ _) (i := 0) (by show 0 < 1; omega)
  subst h4
  have z0 : bd.add (0 * 3) = bd := by rw [Nat.zero_mul]; exact add_zero_ bd
  rw [z0] at h5 h6 h7
  rw [add_zero_] at h2
  exact ⟨ad, bd, c, h1, h2, h5, h6, h7⟩
def awW (w : World) : World := (((w.alloc (.cells #[.int .i64 1, .int .i64 2, .bool true] 46)).alloc (.cells #[.slice (some ⟨w.heap.size, 0, none⟩) 1 1] 47)).alloc (.cells #[.int .i64 0, .int .i64 5, .int .i64 0, .int .i64 16384, .int .i64 0, .int .i64 0, .int .i64 16384] 54)).alloc (.cells #[.slice (some ⟨w.heap.size + 1, 0, none⟩) 1 1, .slice none 0 0, .slice none 0 0, .slice (some ⟨w.heap.size + 2, 0, none⟩) 1 1] 50)
theorem aw_size (w : World) : (awW w).heap.size = w.heap.size + 4 := by simp [awW]
theorem aw_bel (w : World) : Below w.heap.size w (awW w) := ((((Below.refl _ _).alloc (Nat.le_refl _) _).alloc (by simp) _).alloc (by simp; omega) _).alloc (by simp; omega) _
theorem aw_shl (w : World) : Shl (awW w) (some ⟨w.heap.size + 3, 0, none⟩) 2 awS := by
  obtain ⟨w1, e1⟩ : ∃ W, W = w.alloc (.cells #[.int .i64 1, .int .i64 2, .bool true] 46) := ⟨_, rfl⟩
  obtain ⟨w2, e2⟩ : ∃ W, W = w1.alloc (.cells #[.slice (some ⟨w.heap.size, 0, none⟩) 1 1] 47) := ⟨_, rfl⟩
  obtain ⟨w3, e3⟩ : ∃ W, W = w2.alloc (.cells #[.int .i64 0, .int .i64 5, .int .i64 0, .int .i64 16384, .int .i64 0, .int .i64 0, .int .i64 16384] 54) := ⟨_, rfl⟩
  obtain ⟨w4, e4⟩ : ∃ W, W = w3.alloc (.cells #[.slice (some ⟨w.heap.size + 1, 0, none⟩) 1 1, .slice none 0 0, .slice none 0 0, .slice (some ⟨w.heap.size + 2, 0, none⟩) 1 1] 50) := ⟨_, rfl⟩
  have ew : awW w = w4 := by rw [e4, e3, e2, e1]; rfl
  have s1 : w1.heap.size = w.heap.size + 1 := by rw [e1]; simp
  have s2 : w2.heap.size = w.heap.size + 2 := by rw [e2]; simp [s1]
  have s3 : w3.heap.size = w.heap.size + 3 := by rw [e3]; simp [s2]
  have g0 := heap_alloc_new w (.cells #[.int .i64 1, .int .i64 2, .bool true] 46)
  have g1 := heap_alloc_new w1 (.cells #[.slice (some ⟨w.heap.size, 0, none⟩) 1 1] 47)
  have g2 := heap_alloc_new w2 (.cells #[.int .i64 0, .int .i64 5, .int .i64 0, .int .i64 16384, .int .i64 0, .int .i64 0, .int .i64 16384] 54)
  have g3 := heap_alloc_new w3 (.cells #[.slice (some ⟨w.heap.size + 1, 0, none⟩) 1 1, .slice none 0 0, .slice none 0 0, .slice (some ⟨w.heap.size + 2, 0, none⟩) 1 1] 50)
  rw [← e1] at g0
  rw [← e2, s1] at g1
  rw [← e3, s2] at g2
  rw [← e4, s3] at g3
  have b3 : Below w3.heap.size w3 w4 := by rw [e4]; exact (Below.refl _ _).alloc (Nat.le_refl _) _
  have b2 : Below w2.heap.size w2 w4 := Below.trans (by rw [e3]; exact (Below.refl _ _).alloc (Nat.le_refl _) _) (b3.mono (by omega))
  have b1 : Below w1.heap.size w1 w4 := Below.trans (by rw [e2]; exact (Below.refl _ _).alloc (Nat.le_refl _) _) (b2.mono (by omega))
  have h0 := (b1.block w.heap.size (by omega)).trans g0
  have h1 := (b2.block (w.heap.size + 1) (by omega)).trans g1
  have h2 := (b3.block (w.heap.size + 2) (by omega)).trans g2
  have h3 := g3
  rw [← ew] at h0 h1 h2 h3
  have hs := aw_size w
  have ea : ∀ b j, (⟨b, 0, none⟩ : Addr).add j = ⟨b, j, none⟩ := fun b j => by unfold Addr.add; split <;> simp_all
  refine ⟨rfl, fun i hi => ?_⟩
  match i, hi with
  | 0, _ =>
    refine ⟨⟨w.heap.size + 3, 0, none⟩, some ⟨w.heap.size + 1, 0, none⟩, 1, none, 0, rfl, by rw [hs]; show w.heap.size + 3 < _; omega, by rw [ea]; exact cell_of_row _ _ 0 _ _ _ h3, by rw [ea]; exact cell_of_row _ _ 1 _ _ _ h3, ⟨rfl, fun i hi => ?_⟩, C.Prl.nil _⟩
    have hi : i < 1 := hi
    obtain rfl : i = 0 := by omega
    refine ⟨⟨w.heap.size + 1, 0, none⟩, some ⟨w.heap.size, 0, none⟩, 1, rfl, by rw [hs]; show w.heap.size + 1 < _; omega, by rw [ea]; exact cell_of_row _ _ 0 _ _ _ h1, ⟨rfl, fun i hi => ?_⟩⟩
    have hi : i < 1 := hi
    obtain rfl : i = 0 := by omega
    exact ⟨⟨w.heap.size, 0, none⟩, rfl, by rw [hs]; show w.heap.size < _; omega, by rw [ea]; exact cell_of_row _ _ 0 _ _ _ h0, by rw [ea]; exact cell_of_row _ _ 1 _ _ _ h0, by rw [ea]; exact cell_of_row _ _ 2 _ _ _ h0⟩
  | 1, _ =>
    refine ⟨⟨w.heap.size + 3, 0, none⟩, none, 0, some ⟨w.heap.size + 2, 0, none⟩, 1, rfl, by rw [hs]; show w.heap.size + 3 < _; omega, by rw [ea]; exact cell_of_row _ _ 2 _ _ _ h3, by rw [ea]; exact cell_of_row _ _ 3 _ _ _ h3, Ctl.nil _, ⟨rfl, fun i hi => ?_⟩⟩
    have hi : i < 1 := hi
    obtain rfl : i = 0 := by omega
    refine ⟨⟨w.heap.size + 2, 0, none⟩, rfl, by rw [hs]; show w.heap.size + 2 < _; omega, fun j u hu => ?_⟩
    rw [ea, show 0 * 7 + j = j by omega]
    rw [cell_of_row _ _ j _ _ _ h2]
    simpa [awS, sh, C.prC, C.qp] using hu
set_option maxHeartbeats 8000000 in
set_option maxRecDepth 100000 in
theorem awake_any (w : World) : Calls Try.prog 6 #[] w fun e w' => e = .returned (.bool true) ∧ Below w.heap.size w w' := by
  have hS := aw_shl w
  have hB := aw_bel w
  have hL := may_lim aw_may
  have CO := Lib.hid (fun W (hb : Below (awW w).heap.size (awW w) W) => outline_any _ 2 2 awS 1 W (hS.bel hb) hL (by omega))
  have CQ := Lib.hid (fun W (hb : Below (awW w).heap.size (awW w) W) => outline_any _ 2 2 awS 2 W (hS.bel hb) hL (by omega))
  have CD := Lib.hid (fun W (hb : Below (awW w).heap.size (awW w) W) => depth_any _ 2 2 awS 1 W (hS.bel hb) hL (by omega))
  have CM := Lib.hid (fun W (hb : Below (awW w).heap.size (awW w) W) => mayShapes_any _ 2 2 awS W (hS.bel hb) hL (by omega))
  rw [aw_o1] at CO
  rw [aw_o2] at CQ
  rw [aw_d1] at CD
  rw [decide_eq_true aw_may] at CM
  have HB := Lib.hid hB
  clear hS hB hL
  go_enter Try.func6, Try.ntmps6
  go_upto_region 2 with fail
  rw [show World.alloc (World.alloc (World.alloc (World.alloc w (.cells #[.int .i64 1, .int .i64 2, .bool true] 46)) (.cells #[.slice (some ⟨w.heap.size, 0, none⟩) 1 1] 47)) (.cells #[.int .i64 0, .int .i64 5, .int .i64 0, .int .i64 16384, .int .i64 0, .int .i64 0, .int .i64 16384] 54)) (.cells #[.slice (some ⟨w.heap.size + 1, 0, none⟩) 1 1, .slice none 0 0, .slice none 0 0, .slice (some ⟨w.heap.size + 2, 0, none⟩) 1 1] 50) = awW w from rfl]
  generalize hW : awW w = W4 at CO CQ CD CM HB ⊢
  clear hW
  have B := Lib.hid (Below.refl W4.heap.size W4)
  go_upto_region 5 with (first
    | (go_at_call 8; (with_reducible refine (CO.out _ B.out).mono ?_); rintro e w1 ⟨A1, k1, c1, rfl, hC, hb⟩; have B := Lib.hid (B.out.trans (hb.mono B.out.size)); have HC1 := Lib.hid hC; clear hb hC)
    | (go_at_call 10; (with_reducible refine (CD.out _ B.out).mono ?_); rintro e w1 ⟨rfl, hb⟩; have B := Lib.hid (B.out.trans (hb.mono B.out.size)); have HC1 := Lib.hid (HC1.out.bel hb); clear hb)
    | (go_at_call 8; (with_reducible refine (CQ.out _ B.out).mono ?_); rintro e w1 ⟨A2, k2, c2, rfl, hC, hb⟩; have B := Lib.hid (B.out.trans (hb.mono B.out.size)); have HC1 := Lib.hid (HC1.out.bel hb); clear hb hC))
  have hk := HC1.out.len
  have hk : k1 = 1 := hk.symm
  subst hk
  obtain ⟨ad, bd, c3, rfl, x0, x1, x2, x3⟩ := Ctl.zero HC1.out
  go_wp2_with (go_at_call 13; (with_reducible refine (CM.out _ B.out).mono ?_); rintro e w1 ⟨rfl, hb⟩; have B := Lib.hid (B.out.trans (hb.mono B.out.size)); clear hb)
  go_ret
  exact ⟨rfl, HB.out.trans (B.out.mono HB.out.size)⟩
end Go.Proofs.Ytlfnagfcggmeaaa
