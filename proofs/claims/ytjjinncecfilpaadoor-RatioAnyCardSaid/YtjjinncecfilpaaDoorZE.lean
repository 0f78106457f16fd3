/- Proved here: what package ratio's down, Floor and Round answer. Condition: numbers of 64 bits. · what package ratio's Text answers. Condition: numbers of 64 bits; the library's table of powers of ten stands in memory. -/
import Derived.Test.YtjjinncecfilpaaDoorZA
import Derived.Test.YtjjinncecfilpaaDoorXg
import Derived.Test.YtjjinncecfilpaaDoorYa
namespace Go.Proofs.YtjjinncecfilpaaDoor
open Go.RowKit

theorem down_eq (n d : Int) (hd : 0 < d) : (n.tmod d < 0 → n.tmod d + d = n % d) ∧ (¬ n.tmod d < 0 → n.tmod d = n % d) := by
  have h2 := Int.tmod_eq_emod (a := n) (b := d)
  have h3 := Int.emod_nonneg n (show d ≠ 0 by omega)
  have h4 := Int.emod_lt_of_pos n hd
  have h5 : (d.natAbs : Int) = d := by omega
  constructor
  · intro h
    split at h2
    · omega
    · omega
  · intro h
    split at h2
    · omega
    · omega
theorem div_fit (n d : Int) (hn : Fit n) (h0 : 0 < d) : Fit (n / d) := by
  have h1 := Int.ediv_emod_unique (a := n) (b := d) (r := n % d) (q := n / d) h0
  have := hn.1
  have := hn.2
  constructor
  · exact (Int.le_ediv_iff_mul_le h0).2 (by have : (-9223372036854775808) * d ≤ -9223372036854775808 := by omega
                                            omega)
  · exact Int.ediv_le_of_le_mul h0 (by have : 9223372036854775807 ≤ 9223372036854775807 * d := by omega
                                       omega)
set_option maxHeartbeats 1000000 in
theorem p_down (n d : Int) (w : World) (hn : Fit n) (hdf : Fit d) (h0 : 0 < d) : Calls Tryd.prog 50 #[.agg #[.int .i64 n, .int .i64 d]] w fun e w' => e = .returned (.tuple #[.int .i64 (n / d), .int .i64 (n % d)]) ∧ Below w.heap.size w w' := by
  have HB := Lib.hid (And.intro (Rt.new w n d) (bel_a w (.cells #[.int .i64 n, .int .i64 d] 24)))
  have f1 := HB.out.1.c0
  have f2 := HB.out.1.c1
  have hz : ¬ d = 0 := by omega
  obtain ⟨q, hq⟩ : ∃ q, q = n.tdiv d := ⟨_, rfl⟩
  obtain ⟨r, hr⟩ : ∃ r, r = n.tmod d := ⟨_, rfl⟩
  have HF := Lib.hid (And.intro (floor_eq n d h0) (down_eq n d h0))
  rw [← hq, ← hr] at HF
  have F1 : IntKind.i64.wrap (n.tdiv d) = q := by rw [hq]; exact IntWalk.i64_quo' n d ⟨hn.1, hn.2, by omega⟩
  have F2 : n.tmod d = r := hr.symm
  have hq2 := div_fit n d hn h0
  have hr3 := Int.emod_nonneg n (show d ≠ 0 by omega)
  have hr4 := Int.emod_lt_of_pos n h0
  by_cases hr0 : r < 0
  · have hd1 : decide (r < 0) = true := decide_eq_true hr0
    have e := HF.out.1.1 hr0
    have e2 := HF.out.2.1 hr0
    have F3 : IntKind.i64.wrap (q - 1) = n / d := by rw [← e]; exact IntWalk.i64_in _ (by have := hq2.1; have := hq2.2; omega)
    have F4 : IntKind.i64.wrap (r + d) = n % d := by rw [← e2]; exact IntWalk.i64_in _ (by have := hdf.2; omega)
    obtain ⟨x, hx⟩ : ∃ x, x = n / d := ⟨_, rfl⟩
    obtain ⟨y, hy⟩ : ∃ y, y = n % d := ⟨_, rfl⟩
    rw [← hx] at F3 ⊢
    rw [← hy] at F4 ⊢
    clear e e2 hq hr hr0 hn hdf hq2 hr3 hr4 hx hy
    go_enter Tryd.func50, Tryd.ntmps50
    go_wp2_with fail
    go_quiet (fail)
    go_wp2_with fail
    go_quiet (fail)
    go_wp2_with fail
    go_ret2
    exact ⟨rfl, below_drewN (below_drewN HB.out.2 _) _⟩
  · have hd1 : decide (r < 0) = false := decide_eq_false hr0
    have e := HF.out.1.2 hr0
    have e2 := HF.out.2.2 hr0
    rw [← e, ← e2]
    clear e e2 hq hr hr0 hn hdf hq2 hr3 hr4
    go_enter Tryd.func50, Tryd.ntmps50
    go_wp2_with fail
    go_quiet (fail)
    go_wp2_with fail
    go_ret2
    exact ⟨rfl, below_drewN HB.out.2 nq⟩
/-- The value of the first result where the fraction may be. -/
theorem p_floor (n d : Int) (w : World) (hn : Fit n) (hd : Fit d) : Calls Tryd.prog 23 #[.agg #[.int .i64 n, .int .i64 d]] w fun e w' => e = .returned (.tuple #[.int .i64 (if Maybe n d then n / d else 0), .int .i64 (if Maybe n d then 0 else 1)]) ∧ Below w.heap.size w w' := by
  have HB := Lib.hid (And.intro (Rt.new w n d) (bel_a w (.cells #[.int .i64 n, .int .i64 d] 24)))
  have f1 := HB.out.1.c0
  have f2 := HB.out.1.c1
  have HM := Lib.hid (fun W => p_may n d W hn hd)
  by_cases hm : Maybe n d
  · have h0 := hm.1
    have hb : decide (Maybe n d) = true := decide_eq_true hm
    rw [if_pos hm, if_pos hm]
    rw [hb] at HM
    have HD := Lib.hid (fun W => p_down n d W hn hd h0)
    obtain ⟨x, hx⟩ : ∃ x, x = n / d := ⟨_, rfl⟩
    obtain ⟨y, hy⟩ : ∃ y, y = n % d := ⟨_, rfl⟩
    rw [← hx, ← hy] at HD
    rw [← hx]
    clear hx hy hb hm h0 hn hd
    go_enter Tryd.func23, Tryd.ntmps23
    go_wp2_with (first
      | (go_at_call 11; (with_reducible refine (HM.out _).mono ?_); rintro e w1 ⟨rfl, hb⟩; have HB := Lib.hid (And.intro (HB.out.1.bel hb) (bel_tr HB.out.2 hb)); clear f1 f2 hb; have f1 := HB.out.1.c0; have f2 := HB.out.1.c1)
      | (go_at_call 50; (with_reducible refine (HD.out _).mono ?_); rintro e w1 ⟨rfl, hb⟩; have HB := Lib.hid (And.intro (HB.out.1.bel hb) (bel_tr HB.out.2 hb)); clear f1 f2 hb; have f1 := HB.out.1.c0; have f2 := HB.out.1.c1))
    go_ret2
    exact ⟨rfl, HB.out.2⟩
  · have hb : decide (Maybe n d) = false := decide_eq_false hm
    rw [if_neg hm, if_neg hm]
    rw [hb] at HM
    clear hb hm hn hd
    go_enter Tryd.func23, Tryd.ntmps23
    go_wp2_with (go_at_call 11; (with_reducible refine (HM.out _).mono ?_); rintro e w1 ⟨rfl, hb⟩; have HB := Lib.hid (And.intro (HB.out.1.bel hb) (bel_tr HB.out.2 hb)); clear f1 f2 hb; have f1 := HB.out.1.c0; have f2 := HB.out.1.c1)
    go_ret2
    exact ⟨rfl, HB.out.2⟩
theorem p_round (n d : Int) (w : World) (hn : Fit n) (hd : Fit d) : Calls Tryd.prog 24 #[.agg #[.int .i64 n, .int .i64 d]] w fun e w' => e = .returned (.tuple #[.int .i64 (if Maybe n d then roundR n d else 0), .int .i64 (if Maybe n d then 0 else 1)]) ∧ Below w.heap.size w w' := by
  have HB := Lib.hid (And.intro (Rt.new w n d) (bel_a w (.cells #[.int .i64 n, .int .i64 d] 24)))
  have f1 := HB.out.1.c0
  have f2 := HB.out.1.c1
  have HM := Lib.hid (fun W => p_may n d W hn hd)
  by_cases hm : Maybe n d
  · have h0 := hm.1
    have hb : decide (Maybe n d) = true := decide_eq_true hm
    rw [if_pos hm, if_pos hm]
    rw [hb] at HM
    have HD := Lib.hid (fun W => p_down n d W hn hd h0)
    have hy0 := Int.emod_nonneg n (show d ≠ 0 by omega)
    have hy1 := Int.emod_lt_of_pos n h0
    have hx0 := div_fit n d hn h0
    have hx1 : ¬ d = 1 → n / d ≤ 4611686018427387904 := fun h1 => Int.ediv_le_of_le_mul h0 (by
      have : 4611686018427387904 * 2 ≤ 4611686018427387904 * d := by omega
      have := hn.2
      omega)
    obtain ⟨x, hx⟩ : ∃ x, x = n / d := ⟨_, rfl⟩
    obtain ⟨y, hy⟩ : ∃ y, y = n % d := ⟨_, rfl⟩
    have HR := Lib.hid (show roundR n d = if d ≤ 2 * y then x + 1 else x by unfold roundR; rw [hx, hy])
    rw [HR.out]
    rw [← hx] at HD hx0 hx1
    rw [← hy] at HD hy0 hy1
    have F1 : IntKind.i64.wrap (d - y) = d - y := IntWalk.i64_in _ (by have := hd.2; omega)
    by_cases hc : d - y ≤ y
    · have hc1 : decide (d - y ≤ y) = true := decide_eq_true hc
      have F2 : IntKind.i64.wrap (x + 1) = x + 1 := IntWalk.i64_in _ (by have := hx0.1; have := hx1 (by omega); omega)
      rw [if_pos (show d ≤ 2 * y by omega)]
      clear hx hy hb hm h0 hn hd hy0 hy1 hx0 hx1 hc HR
      go_enter Tryd.func24, Tryd.ntmps24
      go_wp2_with (first
        | (go_at_call 11; (with_reducible refine (HM.out _).mono ?_); rintro e w1 ⟨rfl, hb⟩; have HB := Lib.hid (And.intro (HB.out.1.bel hb) (bel_tr HB.out.2 hb)); clear f1 f2 hb; have f1 := HB.out.1.c0; have f2 := HB.out.1.c1)
        | (go_at_call 50; (with_reducible refine (HD.out _).mono ?_); rintro e w1 ⟨rfl, hb⟩; have HB := Lib.hid (And.intro (HB.out.1.bel hb) (bel_tr HB.out.2 hb)); clear f1 f2 hb; have f1 := HB.out.1.c0; have f2 := HB.out.1.c1))
      go_ret2
      exact ⟨rfl, HB.out.2⟩
    · have hc1 : decide (d - y ≤ y) = false := decide_eq_false hc
      rw [if_neg (show ¬ d ≤ 2 * y by omega)]
      clear hx hy hb hm h0 hn hd hy0 hy1 hx0 hx1 hc HR
      go_enter Tryd.func24, Tryd.ntmps24
      go_wp2_with (first
        | (go_at_call 11; (with_reducible refine (HM.out _).mono ?_); rintro e w1 ⟨rfl, hb⟩; have HB := Lib.hid (And.intro (HB.out.1.bel hb) (bel_tr HB.out.2 hb)); clear f1 f2 hb; have f1 := HB.out.1.c0; have f2 := HB.out.1.c1)
        | (go_at_call 50; (with_reducible refine (HD.out _).mono ?_); rintro e w1 ⟨rfl, hb⟩; have HB := Lib.hid (And.intro (HB.out.1.bel hb) (bel_tr HB.out.2 hb)); clear f1 f2 hb; have f1 := HB.out.1.c0; have f2 := HB.out.1.c1))
      go_ret2
      exact ⟨rfl, HB.out.2⟩
  · have hb : decide (Maybe n d) = false := decide_eq_false hm
    rw [if_neg hm, if_neg hm]
    rw [hb] at HM
    clear hb hm hn hd
    go_enter Tryd.func24, Tryd.ntmps24
    go_wp2_with (go_at_call 11; (with_reducible refine (HM.out _).mono ?_); rintro e w1 ⟨rfl, hb⟩; have HB := Lib.hid (And.intro (HB.out.1.bel hb) (bel_tr HB.out.2 hb)); clear f1 f2 hb; have f1 := HB.out.1.c0; have f2 := HB.out.1.c1)
    go_ret2
    exact ⟨rfl, HB.out.2⟩
end Go.Proofs.YtjjinncecfilpaaDoor
namespace Go.Proofs.YtjjinncecfilpaaDoor
open Go.RowKit Go.Sort

/-- The library's table of powers of ten stands in memory. -/
def Tab (w : World) : Prop := Lib.TabIs Tryd.prog w "internal/strconv.uint64pow10" .u64 Lib.pow10Tab
theorem Tab.below {w w' : World} (h : Tab w) (hb : Below w.heap.size w w') : Tab w' := by
  unfold Tab Lib.TabIs World.var? at *
  cases hg : Tryd.prog.globalNamed "internal/strconv.uint64pow10" with
  | none => simp [hg] at h
  | some g =>
    simp only [hg, Option.bind_some] at h ⊢
    have hlt : g < w.heap.size := by
      rcases Nat.lt_or_ge g w.heap.size with hl | hl
      · exact hl
      · rw [Array.getElem?_eq_none hl] at h; simp at h
    rw [hb.block g hlt]
    exact h
theorem below_grow (w : World) (os : Array Obj) : Below w.heap.size w (grow w os) :=
  ⟨rfl, rfl, rfl, by unfold grow; simp, fun k hk => by unfold grow; rw [Array.getElem?_append_left hk]⟩
theorem itoa_txt (n : Int) : Lib.itoa n = txt n := by
  unfold Lib.itoa txt
  split
  · rfl
  · rw [show n.toNat = n.natAbs by omega]
theorem fmt10 (n : Int) (S : ByteArray) (hS : S = ⟨(txt n).toArray⟩) (w : World) (hn : Fit n) (ht : Tab w) : Calls Tryd.prog 52 #[.int .i64 n, .int .i64 10] w fun e w' => e = .returned (.string S) ∧ Below w.heap.size w w' :=
  (Tryd.strconv_FormatInt_10 n hn.1 hn.2 w ht).mono fun _ _ ⟨he, k, os, hw⟩ => by
    subst hw
    exact ⟨by rw [he, itoa_txt, hS], bel_tr (below_drewN (Below.refl _ w) k) (below_grow _ os)⟩
theorem join_txt2 (a b : List UInt8) : (⟨a.toArray⟩ : ByteArray) ++ ((⟨#[47]⟩ : ByteArray) ++ (⟨b.toArray⟩ : ByteArray)) = ⟨(a ++ 47 :: b).toArray⟩ := by
  apply str_of
  simp
set_option maxHeartbeats 1000000 in
theorem p_text (n d : Int) (w : World) (hn : Fit n) (hd : Fit d) (ht : Tab w) : Calls Tryd.prog 27 #[.agg #[.int .i64 n, .int .i64 d]] w fun e w' => e = .returned (.tuple #[.string ⟨(textC n d).1.toArray⟩, .int .i64 (textC n d).2]) ∧ Below w.heap.size w w' := by
  have HB := Lib.hid (And.intro (Rt.new w n d) (bel_a w (.cells #[.int .i64 n, .int .i64 d] 24)))
  have f1 := HB.out.1.c0
  have f2 := HB.out.1.c1
  have HM := Lib.hid (fun W => p_may n d W hn hd)
  have HT := Lib.hid (ht.below HB.out.2)
  by_cases hm : Maybe n d
  · have hb : decide (Maybe n d) = true := decide_eq_true hm
    rw [hb] at HM
    have HE := Lib.hid (show textC n d = (rtxt n d, 0) from if_pos hm)
    rw [HE.out]
    obtain ⟨S, hS⟩ : ∃ S : ByteArray, S = ⟨(txt n).toArray⟩ := ⟨_, rfl⟩
    obtain ⟨R, hR⟩ : ∃ S : ByteArray, S = ⟨(txt d).toArray⟩ := ⟨_, rfl⟩
    have hSl : S.size ≤ 21 := by rw [hS]; exact txt_len n hn
    have hRl : R.size ≤ 21 := by rw [hR]; exact txt_len d hd
    have HN := Lib.hid (fun W => fmt10 n S hS W hn)
    have HD := Lib.hid (fun W => fmt10 d R hR W hd)
    by_cases h1 : d = 1
    · have hb1 : (d != 1) = false := by simp [h1]
      have HR := Lib.hid (show (⟨(rtxt n d).toArray⟩ : ByteArray) = S by unfold rtxt; rw [if_pos h1, hS])
      rw [HR.out]
      clear hS hR hb hm h1 hn hd ht
      go_enter Tryd.func27, Tryd.ntmps27
      go_wp2_with (first
        | (go_at_call 11; (with_reducible refine (HM.out _).mono ?_); rintro e w1 ⟨rfl, hb⟩; have HT := Lib.hid (HT.out.below hb); have HB := Lib.hid (And.intro (HB.out.1.bel hb) (bel_tr HB.out.2 hb)); clear f1 f2 hb; have f1 := HB.out.1.c0; have f2 := HB.out.1.c1)
        | (go_at_call 52; (with_reducible refine (HN.out _ HT.out).mono ?_); rintro e w1 ⟨rfl, hb⟩; have HT := Lib.hid (HT.out.below hb); have HB := Lib.hid (And.intro (HB.out.1.bel hb) (bel_tr HB.out.2 hb)); clear f1 f2 hb; have f1 := HB.out.1.c0; have f2 := HB.out.1.c1))
      go_ret2
      exact ⟨rfl, HB.out.2⟩
    · have hb1 : (d != 1) = true := by simp [h1]
      have HR := Lib.hid (show (⟨(rtxt n d).toArray⟩ : ByteArray) = S ++ ((⟨#[47]⟩ : ByteArray) ++ R) by unfold rtxt; rw [if_neg h1, hS, hR, join_txt2])
      rw [HR.out]
      clear hS hR hb hm h1 hn hd ht
      go_enter Tryd.func27, Tryd.ntmps27
      go_wp2_with (first
        | (go_at_call 11; (with_reducible refine (HM.out _).mono ?_); rintro e w1 ⟨rfl, hb⟩; have HT := Lib.hid (HT.out.below hb); have HB := Lib.hid (And.intro (HB.out.1.bel hb) (bel_tr HB.out.2 hb)); clear f1 f2 hb; have f1 := HB.out.1.c0; have f2 := HB.out.1.c1)
        | (go_at_call 52; (with_reducible refine (HN.out _ HT.out).mono ?_); rintro e w1 ⟨rfl, hb⟩; have HT := Lib.hid (HT.out.below hb); have HB := Lib.hid (And.intro (HB.out.1.bel hb) (bel_tr HB.out.2 hb)); clear f1 f2 hb; have f1 := HB.out.1.c0; have f2 := HB.out.1.c1)
        | (go_at_call 52; (with_reducible refine (HD.out _ HT.out).mono ?_); rintro e w1 ⟨rfl, hb⟩; have HT := Lib.hid (HT.out.below hb); have HB := Lib.hid (And.intro (HB.out.1.bel hb) (bel_tr HB.out.2 hb)); clear f1 f2 hb; have f1 := HB.out.1.c0; have f2 := HB.out.1.c1))
      go_ret2
      exact ⟨rfl, HB.out.2⟩
  · have hb : decide (Maybe n d) = false := decide_eq_false hm
    rw [hb] at HM
    have HE := Lib.hid (show textC n d = ([], 1) from if_neg hm)
    rw [HE.out]
    clear hb hm hn hd ht
    go_enter Tryd.func27, Tryd.ntmps27
    go_wp2_with (go_at_call 11; (with_reducible refine (HM.out _).mono ?_); rintro e w1 ⟨rfl, hb⟩; have HB := Lib.hid (And.intro (HB.out.1.bel hb) (bel_tr HB.out.2 hb)); clear f1 f2 hb; have f1 := HB.out.1.c0; have f2 := HB.out.1.c1)
    go_ret2
    exact ⟨rfl, HB.out.2⟩
end Go.Proofs.YtjjinncecfilpaaDoor
