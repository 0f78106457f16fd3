/- Proved here: what the document's Cmp and Floor of layer 3 answer. Condition: numbers of 64 bits; for Floor a fraction that may be. -/
import Derived.Test.YtjjinncecfilpaaDoorXe
namespace Go.Proofs.YtjjinncecfilpaaDoor
open Go.RowKit

/-- Two fractions in boxes. -/
structure BtH (w W : World) (n d m c : Int) : Prop where
  ba : Rt W w.heap.size n d
  bb : Rt W (w.heap.size + 1) m c
  bel : Below w.heap.size w W
section
variable {w W W' : World} {n d m c : Int}
theorem BtH.start (w : World) (n d m c : Int) : BtH w ((w.alloc (.cells #[.int .i64 n, .int .i64 d] 24)).alloc (.cells #[.int .i64 m, .int .i64 c] 24)) n d m c :=
  ⟨(Rt.new w n d).alloc _, Rt.newg (by simp), bel_tr (bel_a w _) (bel_a _ _)⟩
theorem BtH.next (h : BtH w W n d m c) (hb : Below W.heap.size W W') : BtH w W' n d m c := ⟨h.ba.bel hb, h.bb.bel hb, bel_tr h.bel hb⟩
theorem BtH.drew (h : BtH w W n d m c) : BtH w W.drew n d m c := ⟨h.ba, h.bb, h.bel.drew⟩
theorem BtH.facts (h : BtH w W n d m c) : W.cell? ⟨w.heap.size, 0, none⟩ = some (.int .i64 n) ∧ W.cell? ⟨w.heap.size, 1, none⟩ = some (.int .i64 d) ∧ W.cell? ⟨w.heap.size + 1, 0, none⟩ = some (.int .i64 m) ∧ W.cell? ⟨w.heap.size + 1, 1, none⟩ = some (.int .i64 c) :=
  ⟨h.ba.c0, h.ba.c1, h.bb.c0, h.bb.c1⟩
end
def cmpR (n d m c : Int) : Int × Int := if Maybe n d ∧ Maybe m c then (cmpI (n * c) (m * d), 0) else (0, 1)
set_option maxHeartbeats 2000000 in
theorem cmpn_any (n d m c : Int) (w : World) (hn : Fit n) (hd : Fit d) (hm : Fit m) (hc : Fit c) : Calls Tryd.prog 22 #[.agg #[.int .i64 n, .int .i64 d], .agg #[.int .i64 m, .int .i64 c]] w fun e w' => e = .returned (.tuple #[.int .i64 (cmpR n d m c).1, .int .i64 (cmpR n d m c).2]) ∧ Below w.heap.size w w' := by
  have H := Lib.hid (BtH.start w n d m c)
  have HO := Lib.hid (fun W => both_any n d m c W hn hd hm hc)
  have H1 := Lib.hid (fun W => times_any n c W hn hc)
  have H2 := Lib.hid (fun W => times_any m d W hm hd)
  obtain ⟨f1, f2, f3, f4⟩ := H.out.facts
  clear hn hd hm hc
  by_cases hmb : Maybe n d ∧ Maybe m c
  · have hb1 : decide (Maybe n d ∧ Maybe m c) = true := decide_eq_true hmb
    have HM := Lib.hid (show cmpR n d m c = (cmpI (n * c) (m * d), 0) from if_pos hmb)
    rw [hb1] at HO
    clear hmb hb1
    obtain ⟨v, hv⟩ : ∃ v, v = cmpI (n * c) (m * d) := ⟨_, rfl⟩
    rw [← hv] at HM
    have HC := Lib.hid hv
    clear hv
    rw [HM.out]
    go_enter Tryd.func22, Tryd.ntmps22
    go_wp2_with (go_at_call 43; (with_reducible refine (HO.out _).mono ?_); rintro e w1 ⟨rfl, hb⟩; have H := Lib.hid (H.out.next hb); clear f1 f2 f3 f4 hb)
    go_region_held3 (fun w' => w'.cell? ⟨w.heap.size, 0, none⟩ = some (.int .i64 n) ∧ w'.cell? ⟨w.heap.size, 1, none⟩ = some (.int .i64 d) ∧ w'.cell? ⟨w.heap.size + 1, 0, none⟩ = some (.int .i64 m) ∧ w'.cell? ⟨w.heap.size + 1, 1, none⟩ = some (.int .i64 c))
      (first | with_reducible exact H.out.facts | with_reducible exact H.out.drew.facts | go_keep)
      (first
        | (go_at_call 46; (with_reducible refine (H1.out _).mono ?_); rintro e w2 ⟨Z1, rfl, hz, hb⟩; have HZ1 := Lib.hid hz; have H := Lib.hid (H.out.drew.next hb); clear hz hb)
        | (go_at_call 46; (with_reducible refine (H2.out _).mono ?_); rintro e w3 ⟨Z2, rfl, hz, hb⟩; have HZ2 := Lib.hid hz; have HZ1 := Lib.hid (HZ1.out.bel hb); have H := Lib.hid (H.out.next hb); clear hz hb)
        | (go_at_call 49; (with_reducible refine (rcmp_any _ _ _ _ 9 9 _ HZ1.out HZ2.out (by decide) (by decide)).mono ?_); rintro e w4 ⟨he, hb⟩; rw [← HC.out] at he; subst he; have H := Lib.hid (H.out.next hb); clear hb))
    all_goals
      go_wp2_with fail
      go_ret2
      exact ⟨rfl, H.out.bel⟩
  · have hb1 : decide (Maybe n d ∧ Maybe m c) = false := decide_eq_false hmb
    have HM := Lib.hid (show cmpR n d m c = (0, 1) from if_neg hmb)
    rw [hb1] at HO
    clear hmb hb1
    rw [HM.out]
    go_enter Tryd.func22, Tryd.ntmps22
    go_wp2_with (go_at_call 43; (with_reducible refine (HO.out _).mono ?_); rintro e w1 ⟨rfl, hb⟩; have H := Lib.hid (H.out.next hb); clear f1 f2 f3 f4 hb)
    go_ret2
    exact ⟨rfl, H.out.bel⟩
theorem floor_eq (n d : Int) (hd : 0 < d) : (n.tmod d < 0 → n.tdiv d - 1 = n / d) ∧ (¬ n.tmod d < 0 → n.tdiv d = n / d) := by
  have h1 := Int.tdiv_eq_ediv (a := n) (b := d)
  have h2 := Int.tmod_eq_emod (a := n) (b := d)
  have h3 := Int.emod_nonneg n (show d ≠ 0 by omega)
  have h4 := Int.emod_lt_of_pos n hd
  have h5 : d.sign = 1 := Int.sign_eq_one_of_pos hd
  constructor
  · intro h
    split at h2
    · omega
    · rename_i hh
      rw [if_neg hh, h5] at h1
      omega
  · intro h
    split at h2
    · rename_i hh
      rw [if_pos hh] at h1
      omega
    · omega
set_option maxHeartbeats 1000000 in
theorem floor_any (n d : Int) (w : World) (hn : Fit n) (_hd : Fit d) (h0 : 0 < d) : Calls Tryd.prog 25 #[.agg #[.int .i64 n, .int .i64 d]] w fun e w' => e = .returned (.int .i64 (n / d)) ∧ Below w.heap.size w w' := by
  have HB := Lib.hid (And.intro (Rt.new w n d) (bel_a w (.cells #[.int .i64 n, .int .i64 d] 24)))
  have f1 := HB.out.1.c0
  have f2 := HB.out.1.c1
  have hz : ¬ d = 0 := by omega
  obtain ⟨q, hq⟩ : ∃ q, q = n.tdiv d := ⟨_, rfl⟩
  obtain ⟨r, hr⟩ : ∃ r, r = n.tmod d := ⟨_, rfl⟩
  have HF := Lib.hid (floor_eq n d h0)
  rw [← hq, ← hr] at HF
  have F1 : IntKind.i64.wrap (n.tdiv d) = q := by rw [hq]; exact IntWalk.i64_quo' n d ⟨hn.1, hn.2, by omega⟩
  have F2 : n.tmod d = r := hr.symm
  have hq2 : -9223372036854775808 ≤ n / d ∧ n / d ≤ 9223372036854775807 := by
    have h1 := Int.ediv_emod_unique (a := n) (b := d) (r := n % d) (q := n / d) h0
    have h3 := Int.emod_nonneg n (show d ≠ 0 by omega)
    have h4 := Int.emod_lt_of_pos n h0
    have := hn.1
    have := hn.2
    constructor
    · exact (Int.le_ediv_iff_mul_le h0).2 (by have : (-9223372036854775808) * d ≤ -9223372036854775808 := by omega
                                              omega)
    · exact Int.ediv_le_of_le_mul h0 (by have : 9223372036854775807 ≤ 9223372036854775807 * d := by omega
                                         omega)
  by_cases hr0 : r < 0
  · have hd1 : decide (r < 0) = true := decide_eq_true hr0
    have e := HF.out.1 hr0
    have F3 : IntKind.i64.wrap (q - 1) = q - 1 := IntWalk.i64_in _ (by omega)
    have HE := Lib.hid e
    clear e hq hr hr0 hn _hd hq2
    go_enter Tryd.func25, Tryd.ntmps25
    go_wp2_with fail
    go_ret
    exact ⟨ret_int HE.out, HB.out.2⟩
  · have hd1 : decide (r < 0) = false := decide_eq_false hr0
    have HE := Lib.hid (HF.out.2 hr0)
    clear hq hr hr0 hn _hd hq2
    go_enter Tryd.func25, Tryd.ntmps25
    go_wp2_with fail
    go_ret
    exact ⟨ret_int HE.out, HB.out.2⟩
end Go.Proofs.YtjjinncecfilpaaDoor
