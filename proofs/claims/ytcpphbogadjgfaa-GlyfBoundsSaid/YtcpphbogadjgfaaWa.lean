/- Proved here: awake answers true. No condition. -/
import Derived.Test.YtcpphbogadjgfaaTi
import Derived.Test.YtcpphbogadjgfaaVb
namespace Go.Proofs.Ytcpphbogadjgfaa
open Go.RowKit

def aw : List (List Pt) := [[(1, -300, true)]]
theorem aw_may : MayG aw := by decide
theorem aw_e : mkE aw = 0 := by decide
theorem aw_len : (mkB aw).length = 18 := by decide
theorem aw_5 : ∀ i, i < 1 → (ct aw i).length ≤ 5000 := fun i hi => by
  have h0 : i = 0 := by omega
  subst h0
  decide
theorem aw_x : prs [120] = (3, []) := by
  unfold prs
  rw [if_neg (by decide), if_pos (by decide)]
set_option maxHeartbeats 8000000 in
set_option maxRecDepth 100000 in
theorem awake_any (w : World) : Calls Try.prog 6 #[] w fun e w' => e = .returned (.bool true) ∧ Below w.heap.size w w' := by
  have B0 := Lib.hid (((Below.refl w.heap.size w).alloc (Nat.le_refl _) (.cells #[.int .i64 1, .int .i64 (-300), .bool true] 39)).alloc (by simp) (.cells #[.slice (some ⟨w.heap.size, 0, none⟩) 1 1] 36))
  have HC := Lib.hid (show Ctl ((w.alloc (.cells #[.int .i64 1, .int .i64 (-300), .bool true] 39)).alloc (.cells #[.slice (some ⟨w.heap.size, 0, none⟩) 1 1] 36)) (some ⟨w.heap.size + 1, 0, none⟩) 1 aw from ⟨rfl, fun i hi => by
    obtain rfl : i = 0 := by omega
    have h1 := Pz.new w 1 (-300) true
    have h2 := h1.bel ((Below.refl _ _).alloc (Nat.le_refl _) (.cells #[.slice (some ⟨w.heap.size, 0, none⟩) 1 1] 36))
    have h3 := heap_alloc_new (w.alloc (.cells #[.int .i64 1, .int .i64 (-300), .bool true] 39)) (.cells #[.slice (some ⟨w.heap.size, 0, none⟩) 1 1] 36)
    have h3 : ((w.alloc (.cells #[.int .i64 1, .int .i64 (-300), .bool true] 39)).alloc (.cells #[.slice (some ⟨w.heap.size, 0, none⟩) 1 1] 36)).heap[w.heap.size + 1]? = some (.cells #[.slice (some ⟨w.heap.size, 0, none⟩) 1 1] 36 (0, 0)) := by simpa using h3
    obtain ⟨c0, c1, c2⟩ := h2.cells
    refine ⟨_, some ⟨w.heap.size, 0, none⟩, 1, rfl, heap_lt h3, ?_, ⟨rfl, fun j hj => ?_⟩⟩
    · rw [add_at, cell_of_row _ _ 0 _ 36 (0, 0) h3]; rfl
    · obtain rfl : j = 0 := by have : j < 1 := hj; omega
      refine ⟨_, rfl, h2.lt, ?_, ?_, ?_⟩
      · rw [add_at]; exact c0
      · rw [add_at]; exact c1
      · rw [add_at]; exact c2⟩)
  have CMk := Lib.hid (fun (W : World) (h : Ctl W (some ⟨w.heap.size + 1, 0, none⟩) 1 aw) => make_any _ 1 1 aw W h (by omega) aw_5)
  rw [aw_e] at CMk
  obtain ⟨D, hD⟩ : ∃ D : ByteArray, D = ⟨(mkB aw).toArray⟩ := ⟨_, rfl⟩
  rw [← hD] at CMk
  have hDs : D.size = 18 := by rw [hD]; show (mkB aw).toArray.size = 18; rw [List.size_toArray]; exact aw_len
  have CP := Lib.hid (fun W => show Calls Try.prog 12 #[.string D] W fun e w' => ∃ A c, e = .returned (.tuple #[.slice A 1 c, .int .i64 0]) ∧ Ctl w' A 1 aw ∧ Below W.heap.size W w' from (parse_any D W (by omega)).mono fun e w' ⟨A, k, c, h1, h2, h3⟩ => by
    have hp : prs D.data.toList = (0, aw) := by rw [hD]; exact mk_back aw_e
    rw [hp] at h1 h2
    have hk : k = 1 := by rw [← h2.len]; rfl
    subst hk
    exact ⟨A, c, h1, h2, h3⟩)
  have CX := Lib.hid (fun W => show Calls Try.prog 12 #[.string ⟨#[120]⟩] W fun e w' => ∃ A c k, e = .returned (.tuple #[.slice A k c, .int .i64 3]) ∧ Below W.heap.size W w' from (parse_any ⟨#[120]⟩ W (by decide)).mono fun e w' ⟨A, k, c, h1, h2, h3⟩ => by
    have hp : prs (⟨#[120]⟩ : ByteArray).data.toList = (3, []) := aw_x
    rw [hp] at h1
    exact ⟨A, c, k, h1, h3⟩)
  have CM := Lib.hid (fun (W : World) (h : Ctl W (some ⟨w.heap.size + 1, 0, none⟩) 1 aw) => show Calls Try.prog 10 #[.slice (some ⟨w.heap.size + 1, 0, none⟩) 1 1] W fun e w' => e = .returned (.bool true) ∧ Below W.heap.size W w' by
    have h2 := may_any _ 1 1 aw W h (by omega) aw_5
    rw [decide_eq_true aw_may] at h2
    exact h2)
  have e18 : ((D.size : Int) == 18) = true := by rw [hDs]; rfl
  clear hD
  go_enter Try.func6, Try.ntmps6
  go_upto_region 2 with fail
  obtain ⟨W0, hW0⟩ : ∃ W, W = (w.alloc (.cells #[.int .i64 1, .int .i64 (-300), .bool true] 39)).alloc (.cells #[.slice (some ⟨w.heap.size, 0, none⟩) 1 1] 36) := ⟨_, rfl⟩
  rw [← hW0] at B0 HC ⊢
  obtain ⟨b, hb⟩ : ∃ b, b = w.heap.size + 1 := ⟨_, rfl⟩
  rw [← hb] at HC CMk CM ⊢
  clear hW0 hb
  go_upto_region 5 with (first
    | (go_at_call 8; (with_reducible refine (CMk.out _ HC.out).mono ?_); rintro e w1 ⟨rfl, hb⟩; have B1 := Lib.hid (B0.out.trans (hb.mono B0.out.size)); have HC1 := Lib.hid (HC.out.bel hb); clear hb)
    | (go_at_call 12; (with_reducible refine (CP.out _).mono ?_); rintro e w2 ⟨A2, c2, rfl, hC, hb⟩; have B2 := Lib.hid (B1.out.trans (hb.mono B1.out.size)); have HC2 := Lib.hid (HC1.out.bel hb); have HR2 := Lib.hid hC; clear hC hb)
    | (go_at_call 12; (with_reducible refine (CX.out _).mono ?_); rintro e w3 ⟨A3, c3, k3, rfl, hb⟩; have B3 := Lib.hid (B2.out.trans (hb.mono B2.out.size)); have HC3 := Lib.hid (HC2.out.bel hb); have HR3 := Lib.hid (HR2.out.bel hb); clear hb))
  have z0 : ∀ b : Addr, b.add 0 = b := fun b => by unfold Addr.add; simp
  obtain ⟨ad, B, c4, rfl, l0, d0, hp⟩ := HR3.out.get 0 (by omega)
  obtain ⟨q, rfl, l1, d1, d2, d3⟩ := hp.get 0 (by decide)
  obtain ⟨ad', B', c4', e1, l0', d0', hp'⟩ := HC3.out.get 0 (by omega)
  injection e1 with e1
  subst e1
  obtain ⟨q', rfl, l1', d1', d2', d3'⟩ := hp'.get 0 (by decide)
  rw [z0] at d0 d0'
  have n1 : (ct aw 0).length = 1 := rfl
  have p1 : px (ct aw 0) 0 = 1 := rfl
  have p2 : py (ct aw 0) 0 = -300 := rfl
  have p3 : po (ct aw 0) 0 = true := rfl
  rw [n1] at d0 d0'
  rw [p1, Nat.zero_mul, z0] at d1 d1'
  rw [p2, Nat.zero_mul] at d2 d2'
  rw [p3, Nat.zero_mul] at d3 d3'
  have z1 : ∀ q : Addr, (⟨q.block, q.off + 1, none⟩ : Addr) = q.add (0 + 1) := fun q => by have := add_next q 0; rw [z0] at this; exact this
  have z2 : ∀ q : Addr, (⟨q.block, q.off + 2, none⟩ : Addr) = q.add (0 + 2) := fun q => by have := add_next2 q 0; rw [z0] at this; exact this
  rw [← z1] at d2 d2'
  rw [← z2] at d3 d3'
  have HF := Lib.hid (show ∀ W, Below w3.heap.size w3 W → (((W.cell? ad = some (.slice (some q) 1 c4) ∧ W.cell? q = some (.int .i64 1)) ∧ W.cell? { block := q.block, off := q.off + 1 } = some (.int .i64 (-300)) ∧ W.cell? { block := q.block, off := q.off + 2 } = some (.bool true)) ∧ ((W.cell? ⟨b, 0, none⟩ = some (.slice (some q') 1 c4') ∧ W.cell? q' = some (.int .i64 1)) ∧ W.cell? { block := q'.block, off := q'.off + 1 } = some (.int .i64 (-300)) ∧ W.cell? { block := q'.block, off := q'.off + 2 } = some (.bool true))) from fun W hW =>
    ⟨⟨⟨(hW.cell l0).trans d0, (hW.cell l1).trans d1⟩, (hW.cell (by exact l1)).trans d2, (hW.cell (by exact l1)).trans d3⟩, ⟨(hW.cell l0').trans d0', (hW.cell l1').trans d1'⟩, (hW.cell (by exact l1')).trans d2', (hW.cell (by exact l1')).trans d3'⟩)
  have H := Lib.hid (Below.refl w3.heap.size w3)
  have HB3 := B3
  obtain ⟨⟨⟨s0, s1⟩, s2, s3⟩, ⟨s0', s1'⟩, s2', s3'⟩ := HF.out _ H.out
  clear z0 z1 z2 hp hp' n1 p1 p2 p3 B0 B1 B2 B3 d0 d1 d2 d3 d0' d1' d2' d3' l0 l1 l0' l1'
  go_region_held3 (fun w' => ((w'.cell? ad = some (.slice (some q) 1 c4) ∧ w'.cell? q = some (.int .i64 1)) ∧ w'.cell? { block := q.block, off := q.off + 1 } = some (.int .i64 (-300)) ∧ w'.cell? { block := q.block, off := q.off + 2 } = some (.bool true)) ∧ ((w'.cell? ⟨b, 0, none⟩ = some (.slice (some q') 1 c4') ∧ w'.cell? q' = some (.int .i64 1)) ∧ w'.cell? { block := q'.block, off := q'.off + 1 } = some (.int .i64 (-300)) ∧ w'.cell? { block := q'.block, off := q'.off + 2 } = some (.bool true)))
    (first | exact HF.out _ H.out | exact HF.out _ (Below.drew H.out) | go_keep)
    (first
      | (go_at_call 10; (with_reducible refine (CM.out _ HC3.out).mono ?_); rintro e w4 ⟨rfl, hb⟩; have H := Lib.hid (H.out.trans (hb.mono H.out.size)); clear hb)
      | (go_at_call 10; (with_reducible refine (CM.out _ (HC3.out.bel (Below.drew (Below.refl _ _)))).mono ?_); rintro e w4 ⟨rfl, hb⟩; have H := Lib.hid ((Below.drew H.out).trans (hb.mono H.out.size)); clear hb))
  all_goals
    go_wp2_with fail
    go_ret
    exact ⟨rfl, HB3.out.trans (H.out.mono HB3.out.size)⟩
end Go.Proofs.Ytcpphbogadjgfaa
