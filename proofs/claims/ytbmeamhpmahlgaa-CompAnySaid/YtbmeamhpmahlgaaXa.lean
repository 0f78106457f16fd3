/- Proved here: awake answers true. No condition. -/
import Derived.Test.YtbmeamhpmahlgaaWa
namespace Go.Proofs.Ytbmeamhpmahlgaa
open Go.RowKit

def aw : Prt := (2, 1, 0, 8192, 0, 0, 16384)
theorem aw_may : MayL [aw] 1024 := by decide
theorem aw_b : mkB [aw] = [255, 255, 0, 0, 0, 0, 0, 0, 0, 0, 0, 66, 0, 2, 1, 0, 32, 0, 64, 0] := by decide +kernel
theorem aw_p : PA (mkB [aw]) 3 = (0, [aw]) := by rw [aw_b]; kernel_rfl
theorem aw_m : mvA aw 3 5 = (3, 5, 0) := by decide +kernel
theorem aw_is : isN (mkB [aw]) := (mk_back aw_may).2
theorem Prl.zero {w : World} {A : Option Addr} {p : Prt} (h : Prl w A 1 [p]) : ∃ ad, A = some ad ∧ (w.cell? ad = some (.int .i64 p.1) ∧ w.cell? { block := ad.block, off := ad.off + 1 } = some (.int .i64 p.2.1)
      ∧ w.cell? { block := ad.block, off := ad.off + 2 } = some (.int .i64 p.2.2.1) ∧ w.cell? { block := ad.block, off := ad.off + 3 } = some (.int .i64 p.2.2.2.1)
      ∧ w.cell? { block := ad.block, off := ad.off + 4 } = some (.int .i64 p.2.2.2.2.1) ∧ w.cell? { block := ad.block, off := ad.off + 5 } = some (.int .i64 p.2.2.2.2.2.1)
      ∧ w.cell? { block := ad.block, off := ad.off + 6 } = some (.int .i64 p.2.2.2.2.2.2)) := by
  obtain ⟨ad, h1, h2⟩ := h.at_ (Below.refl _ _) (i := 0) (by omega)
  have z0 : ad.add (0 * 7) = ad := by unfold Addr.add; simp
  rw [z0] at h2
  exact ⟨ad, h1, h2⟩
theorem Bp.aw {w : World} {b : Nat} (k : Bp w b aw) : w.cell? ⟨b, 0, none⟩ = some (.int .i64 2) ∧ w.cell? ⟨b, 1, none⟩ = some (.int .i64 1) ∧ w.cell? ⟨b, 2, none⟩ = some (.int .i64 0) ∧ w.cell? ⟨b, 3, none⟩ = some (.int .i64 8192) ∧ w.cell? ⟨b, 4, none⟩ = some (.int .i64 0) ∧ w.cell? ⟨b, 5, none⟩ = some (.int .i64 0) ∧ w.cell? ⟨b, 6, none⟩ = some (.int .i64 16384) := k.cells
theorem Prl.aw {w : World} {A : Option Addr} (h : Prl w A 1 [aw]) : ∃ ad, A = some ad ∧ (w.cell? ad = some (.int .i64 2) ∧ w.cell? { block := ad.block, off := ad.off + 1 } = some (.int .i64 1) ∧ w.cell? { block := ad.block, off := ad.off + 2 } = some (.int .i64 0) ∧ w.cell? { block := ad.block, off := ad.off + 3 } = some (.int .i64 8192) ∧ w.cell? { block := ad.block, off := ad.off + 4 } = some (.int .i64 0) ∧ w.cell? { block := ad.block, off := ad.off + 5 } = some (.int .i64 0) ∧ w.cell? { block := ad.block, off := ad.off + 6 } = some (.int .i64 16384)) := h.zero
set_option maxHeartbeats 8000000 in
set_option maxRecDepth 100000 in
theorem awake_any (w : World) : Calls Try.prog 6 #[] w fun e w' => e = .returned (.bool true) ∧ Below w.heap.size w w' := by
  have hN := two_new w (.cells #[.int .i64 2, .int .i64 1, .int .i64 0, .int .i64 8192, .int .i64 0, .int .i64 0, .int .i64 16384] 38) (prC aw) 38
  have HC := Lib.hid (show Prl ((w.alloc (.cells #[.int .i64 2, .int .i64 1, .int .i64 0, .int .i64 8192, .int .i64 0, .int .i64 0, .int .i64 16384] 38)).alloc (.cells #[.int .i64 2, .int .i64 1, .int .i64 0, .int .i64 8192, .int .i64 0, .int .i64 0, .int .i64 16384] 38)) (some ⟨w.heap.size + 1, 0, none⟩) 1 [aw] from
    ⟨rfl, fun i hi => by
      obtain rfl : i = 0 := by omega
      exact ⟨_, rfl, by simp, fun j u hu => by rw [show 0 * 7 + j = j by omega]; exact hN j u hu⟩⟩)
  have HX := Lib.hid (show Bp ((w.alloc (.cells #[.int .i64 2, .int .i64 1, .int .i64 0, .int .i64 8192, .int .i64 0, .int .i64 0, .int .i64 16384] 38)).alloc (.cells #[.int .i64 2, .int .i64 1, .int .i64 0, .int .i64 8192, .int .i64 0, .int .i64 0, .int .i64 16384] 38)) w.heap.size aw from
    (Bp.new w 2 1 0 8192 0 0 16384).bel ((Below.refl _ _).alloc (Nat.le_refl _) _))
  have B0 := Lib.hid (show Below w.heap.size w ((w.alloc (.cells #[.int .i64 2, .int .i64 1, .int .i64 0, .int .i64 8192, .int .i64 0, .int .i64 0, .int .i64 16384] 38)).alloc (.cells #[.int .i64 2, .int .i64 1, .int .i64 0, .int .i64 8192, .int .i64 0, .int .i64 0, .int .i64 16384] 38)) from ((Below.refl _ _).alloc (Nat.le_refl _) _).alloc (by simp) _)
  clear hN
  have CMk := Lib.hid (fun (W : World) (A : Option Addr) (c : Nat) (h : Prl W A 1 [aw]) => make_any A 1 c [aw] W h (by omega))
  rw [show mkE [aw] = 0 from by unfold mkE; rw [if_pos aw_may]] at CMk
  obtain ⟨D, hD⟩ : ∃ D : ByteArray, D = ⟨(mkB [aw]).toArray⟩ := ⟨_, rfl⟩
  rw [← hD] at CMk
  have hDs : D.size = 20 := by rw [hD, aw_b]; rfl
  have CP := Lib.hid (fun W => show Calls Try.prog 11 #[.string D, .int .i64 3] W fun e w' => ∃ A c, e = .returned (.tuple #[.slice A 1 c, .int .i64 0]) ∧ Prl w' A 1 [aw] ∧ Below W.heap.size W w' from (parse_any D 3 W (by omega)).mono fun e w' ⟨⟨A, k, c, h1, h2⟩, h3⟩ => by
    have hp : PA D.data.toList 3 = (0, [aw]) := by rw [hD]; exact aw_p
    rw [hp] at h1 h2
    have hk : k = 1 := by rw [← h2.len]; rfl
    subst hk
    exact ⟨A, c, h1, h2, h3⟩)
  have CI := Lib.hid (fun W => turn_same (is_any D W (by omega)))
  rw [show decide (isN D.data.toList) = true from decide_eq_true (by rw [hD]; exact aw_is)] at CI
  have CJ := Lib.hid (fun W => turn_same (is_any ⟨#[]⟩ W (by decide)))
  rw [show decide (isN (⟨#[]⟩ : ByteArray).data.toList) = false from decide_eq_false (fun h => by have := h.1; exact absurd this (by decide))] at CJ
  have CV := Lib.hid (fun W => move_any 2 1 0 8192 0 0 16384 3 5 W)
  rw [show mvA (2, 1, 0, 8192, 0, 0, 16384) 3 5 = (3, 5, 0) from aw_m] at CV
  have CV : Hid (∀ W, Calls Try.prog 16 #[.agg #[.int .i64 2, .int .i64 1, .int .i64 0, .int .i64 8192, .int .i64 0, .int .i64 0, .int .i64 16384], .int .i64 3, .int .i64 5] W fun e w' => e = .returned (.tuple #[.int .i64 3, .int .i64 5, .int .i64 0]) ∧ Below W.heap.size W w') := CV
  have e20 : ((D.size : Int) == 20) = true := by rw [hDs]; rfl
  clear hD hDs
  go_enter Try.func6, Try.ntmps6
  go_upto_region 3 with (go_at_call 7; (with_reducible refine (CMk.out _ _ _ HC.out).mono ?_); rintro e w1 ⟨rfl, hb⟩; have B1 := Lib.hid (B0.out.trans (hb.mono B0.out.size)); have HX1 := Lib.hid (HX.out.bel hb); clear hb)
  obtain ⟨b, hb⟩ : ∃ b, b = w.heap.size := ⟨_, rfl⟩
  rw [← hb] at HX1 ⊢
  clear hb HX HC B0
  go_upto_region 4 with (go_at_call 11; (with_reducible refine (CP.out _).mono ?_); rintro e w2 ⟨A2, c2, rfl, hC, hb⟩; have B2 := Lib.hid (B1.out.trans (hb.mono B1.out.size)); have HX2 := Lib.hid (HX1.out.bel hb); have HR2 := Lib.hid hC; clear hC hb)
  obtain ⟨c0, c1, c2', c3, c4, c5, c6⟩ := HX2.out.aw
  go_upto_region 5 with (go_at_call 16; (with_reducible refine (CV.out _).mono ?_); rintro e w3 ⟨rfl, hb⟩; have B3 := Lib.hid (B2.out.trans (hb.mono B2.out.size)); have HX3 := Lib.hid (HX2.out.bel hb); have HR3 := Lib.hid (HR2.out.bel hb); clear hb)
  clear c0 c1 c2' c3 c4 c5 c6
  obtain ⟨c0, c1, c2', c3, c4, c5, c6⟩ := HX3.out.aw
  obtain ⟨ad, rfl, d0, d1, d2, d3, d4, d5, d6⟩ := HR3.out.aw
  go_quiet ((first
    | (go_at_call 13; with_reducible exact Calls.quiet_of_same (CI.out _))
    | (go_at_call 13; with_reducible exact Calls.quiet_of_same (CJ.out _))))
  go_wp2_with fail
  go_ret
  exact ⟨rfl, below_drewN B3.out _⟩
end Go.Proofs.Ytbmeamhpmahlgaa
