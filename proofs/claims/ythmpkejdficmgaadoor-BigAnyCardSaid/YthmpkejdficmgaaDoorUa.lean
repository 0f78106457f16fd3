/- Proved here: what the reference package's Parse answers of texts without a sign. Condition: a text that isn't too long to be held. -/
import Derived.Test.YthmpkejdficmgaaDoorRf
import Derived.Test.YthmpkejdficmgaaDoorQf
import Derived.IntWalk
namespace Go.Proofs.YthmpkejdficmgaaDoor
open Go.RowKit

/-- What the reference's Parse answers. -/
def RPaE (c : Nat) (z : Int) (l : Nat) (w : World) (e : Ending) (w' : World) : Prop := ∃ Z, e = .returned (.tuple #[Z, .int .i64 (c : Int)]) ∧ NumC w' Z z l ∧ Below w.heap.size w w'
theorem rpar_of {z z' : Int} {l l' c : Nat} {v : Int} {w w' : World} {Z : Value} (h : NumE z l w (.returned Z) w') (hv : v = (c : Int)) (hz : z = z') (hl : l ≤ l') : RPaE c z' l' w (.returned (.tuple #[Z, .int .i64 v])) w' := by
  obtain ⟨Z', h1, h2, h3⟩ := h
  injection h1 with h1
  subst h1
  subst hz
  subst hv
  exact ⟨_, rfl, h2.le hl, h3⟩
theorem rnothing (w W : World) (h : B0 28 w W) : NumE 0 0 w (.returned (.agg #[.bool false, .slice none 0 0])) W :=
  ⟨_, rfl, ⟨false, _, [], rfl, Arr.nil _ _, fun j => by simp, ⟨top_nil, fun _ => rfl⟩, Nat.le_refl _, rfl⟩, h.bel⟩
/-- What holds at each round's head. -/
structure RpH (w W : World) (n : Bool) (u : Value) (t : List UInt8) (k : Nat) : Prop where
  box : B0 28 w W
  Y : Bx 28 W (w.heap.size + 1) n u
  N : NumC W (.agg #[.bool n, u]) (dval (t.take k) : Nat) 500
theorem RpH.next {w W W' : World} {n : Bool} {u : Value} {t : List UInt8} {k : Nat} (h : RpH w W n u t k) (hb : Below W.heap.size W W') : RpH w W' n u t k := ⟨h.box.next hb, h.Y.bel hb, h.N.bel hb⟩
theorem RpH.drew {w W : World} {n : Bool} {u : Value} {t : List UInt8} {k : Nat} (h : RpH w W n u t k) : RpH w W.drew n u t k := ⟨⟨h.box.c, h.box.bel.drew⟩, h.Y, h.N⟩
theorem NumC.short {W : World} {Z : Value} {z l : Nat} {n : Nat} (h : NumC W Z (z : Int) l) (hz : z < 65536 ^ n) : NumC W Z (z : Int) n := by
  obtain ⟨b, v, xs, h1, h2, h3, h4, h5, h6⟩ := h
  refine ⟨b, v, xs, h1, h2, h3, h4, top_len16 h4.1 ?_, h6⟩
  have : dv xs = z := by cases b <;> simp [sv] at h6 <;> omega
  rw [this]
  exact hz
theorem pow_room {x k : Nat} (e : Nat) (h1 : x < 10 ^ k) (h2 : k ≤ e) : x < 65536 ^ e :=
  Nat.lt_of_lt_of_le h1 (Nat.le_trans (Nat.pow_le_pow_right (by decide) h2) (Nat.pow_le_pow_left (by decide) e))
theorem RpH.put {w W : World} {n m : Bool} {C : Option Addr} {r q : Nat} {z : Value} {t : List UInt8} {k : Nat} (h : RpH w W n (.slice C r q) t k) (hk : k < t.length) (hk4 : k < 400) (hg : 48 ≤ bat t k ∧ bat t k ≤ 57) (hgood : ∀ j, j < k → 48 ≤ bat t j ∧ bat t j ≤ 57) {l : Nat}
    (hz : NumC W (.agg #[.bool m, z]) ((dval (t.take k) : Nat) * 10 + ((bat t k : Int) - 48)) l) :
    RpH w ((W.setCell ⟨w.heap.size + 1, 0, none⟩ (.bool m)).setCell ⟨w.heap.size + 1, 1, none⟩ z) m z t (k + 1) := by
  have hnum : ((dval (t.take k) : Nat) : Int) * 10 + ((bat t k : Int) - 48) = ((dval (t.take (k + 1)) : Nat) : Int) := by
    rw [List.take_succ_eq_append_getElem hk, dval_snoc]
    have : bat t k = t[k].toNat := by simp [bat, hk]
    rw [← this]
    omega
  have HLT := Lib.hid (show dval (t.take (k + 1)) < 65536 ^ 500 by
    have h1 := dval_lt (t.take (k + 1)) (fun c hc => by
      obtain ⟨j, hj, rfl⟩ := List.getElem_of_mem hc
      have hj2 : j < k + 1 := by simp at hj; omega
      have e : (t.take (k + 1))[j].toNat = bat t j := by simp [bat, show j < t.length by omega]
      rw [e]
      rcases Nat.lt_or_ge j k with h5 | h5
      · exact hgood j h5
      · obtain rfl : j = k := by omega
        exact hg)
    have h2 : (t.take (k + 1)).length ≤ 500 := by rw [List.length_take]; omega
    exact pow_room 500 h1 h2)
  rw [hnum] at hz
  have hz := hz.short HLT.out
  refine ⟨⟨(h.box.c.far (by simp) _).far (by simp) _, bel_set (bel_set h.box.bel (by omega) _ _) (by omega) _ _⟩, (h.Y.set0 m).set1 z, ?_⟩
  obtain ⟨b, v, xs, h1, h2, h3⟩ := hz
  exact ⟨b, v, xs, h1, (h2.box h.Y 0 _).box (h.Y.set0 m) 1 _, h3⟩
set_option maxHeartbeats 8000000 in
theorem rparse_pos_any (s : ByteArray) (w : World) (h2 : s.size ≤ 400) (hn1 : s.data.toList.head? ≠ some 45) (hne : 0 < s.size) (hl48 : bat s.data.toList 0 ≠ 48) : Calls Tryd.prog 33 #[.string s] w (RPaE (pcode s.data.toList) (pnum s.data.toList) 500 w) := by
  obtain ⟨m, hm⟩ : ∃ m, m = s.size := ⟨_, rfl⟩
  have hsz : s.size = m := hm.symm
  obtain ⟨t, ht⟩ : ∃ t, t = s.data.toList := ⟨_, rfl⟩
  have htl : t.length = m := by rw [ht, hm]; simp
  have hidx := fun (k : Nat) (hk : k < m) (W : World) => idx_run s k (by rw [← ht, htl]; exact hk) (k : Int) rfl W
  rw [← ht] at hidx hn1 hl48 ⊢
  rw [← hm] at h2 hne
  have hnil : (s.toList == []) = false := by
    rw [ByteArray.toList_eq, ← ht]
    cases t with
    | nil => simp at htl; omega
    | cons a r => rfl
  have hb45 : bat t 0 ≠ 45 := fun h => hn1 (by
    cases t with
    | nil => simp at htl; omega
    | cons a r =>
      have : a = 45 := UInt8.toNat_inj.1 (by simpa [bat] using h)
      simp [this])
  have hcut := cut_none t hn1
  have hpc : pcode t = if Good t then 0 else 4 := by
    unfold pcode okN
    rw [if_neg (by rw [htl]; omega), hcut.1, hcut.2]
    by_cases hg : Good t <;> simp [hg]
  have hpv : pcode t = 0 → pnum t = ((dval t : Nat) : Int) := fun h => by
    unfold pnum pval
    rw [if_pos h, hcut.1, hcut.2]
    rfl
  have hgb := good_bat t
  rw [htl] at hgb
  have HPC := Lib.hid (And.intro hpc hpv)
  have HGB := Lib.hid hgb
  have HTL := Lib.hid htl
  have HI := Lib.hid hidx
  have hi0 : ∀ W, (Instr.index 9 (.string s) (.int .i64 0)).run Tryd.prog W = .ok (.int .u8 (bat t 0 : Int)) W := fun W => HI.out 0 hne W
  have hd : decide (400 < (m : Int)) = false := decide_eq_false (by omega)
  have hd2 : decide (0 < (m : Int)) = true := decide_eq_true (by omega)
  have hx45 : ((bat t 0 : Int) == 45) = false := by simp; omega
  have hx48 : ((bat t 0 : Int) == 48) = false := by simp; omega
  have hb0 := bat_lt t 0
  have L0 := Lib.hid (show RpH w ((w.alloc (.cells #[.bool false, .slice none 0 0] 28)).alloc (.cells #[.bool false, .slice none 0 0] 28)) false (.slice none 0 0) t 0 from
    ⟨(B0.start 28 w).next (bel_a _ _), by simpa using Bx.new 28 (w.alloc (.cells #[.bool false, .slice none 0 0] 28)) false (.slice none 0 0), ⟨false, _, [], rfl, Arr.nil _ _, fun j => by simp, ⟨top_nil, fun _ => rfl⟩, by simp, rfl⟩⟩)
  have H0 := Lib.hid (B0.start 28 w)
  clear hm ht hidx hcut htl hn1 hpc hpv hgb
  go_enter Tryd.func33, Tryd.ntmps33
  go_wp2_with fail
  go_loopw [7] (fun i wr => ∃ (k : Nat) (n : Bool) (C : Option Addr) (r q : Nat), i = .int .i64 (k : Int) ∧ k ≤ m ∧ (∀ j, j < k → 48 ≤ bat t j ∧ bat t j ≤ 57) ∧ RpH w wr n (.slice C r q) t k) (fun i _ => m - (intOf i).toNat)
  case atStart => exact ⟨0, false, none, 0, 0, rfl, Nat.zero_le _, fun j hj => absurd hj (Nat.not_lt_zero _), L0.out⟩
  case round =>
    obtain ⟨k, n, C, r, q, rfl, hk, hgood, hr⟩ := hrel
    have HGO := Lib.hid hgood
    have L := Lib.hid hr
    clear hgood
    rcases Nat.lt_or_ge k m with hkm | hkm
    · have hd3 : decide ((k : Int) < (m : Int)) = true := decide_eq_true (by omega)
      have hik : ∀ W, (Instr.index 9 (.string s) (.int .i64 (k : Int))).run Tryd.prog W = .ok (.int .u8 (bat t k : Int)) W := fun W => HI.out k hkm W
      have hbk := bat_lt t k
      obtain ⟨e1, e2⟩ : hr.box.facts = hr.box.facts ∧ True := ⟨rfl, trivial⟩
      clear e1 e2
      obtain ⟨f3, f4, f5, f6⟩ := hr.box.facts
      by_cases h48 : bat t k < 48
      · have hd4 : decide ((bat t k : Int) < 48) = true := decide_eq_true (by omega)
        have HNG := Lib.hid (show ¬ Good t from fun h => by have := ((HGB.out.1 h).2.2 k hkm).1; omega)
        clear hr
        go_wp2_with fail
        exact bodyPost_ret (ret_bx28_2 rfl rfl rfl (L.out.box.fin false _)) rfl (rpar_of (num_fin0 (l := 0) (l' := 0) (z := 0) (z' := 0) L.out.box ⟨Arr.nil _ _, fun j => by simp, ⟨top_nil, fun _ => rfl⟩, Nat.le_refl _, rfl⟩ rfl (Nat.le_refl _)) (by rw [HPC.out.1, if_neg HNG.out]; rfl) (by unfold pnum; rw [HPC.out.1, if_neg HNG.out]; rfl) (by omega))
      · have hd4 : decide ((bat t k : Int) < 48) = false := decide_eq_false (by omega)
        by_cases h57 : 57 < bat t k
        · have hd5 : decide (57 < (bat t k : Int)) = true := decide_eq_true (by omega)
          have HNG := Lib.hid (show ¬ Good t from fun h => by have := ((HGB.out.1 h).2.2 k hkm).2; omega)
          clear hr
          go_wp2_with fail
          exact bodyPost_ret (ret_bx28_2 rfl rfl rfl (L.out.box.fin false _)) rfl (rpar_of (num_fin0 (l := 0) (l' := 0) (z := 0) (z' := 0) L.out.box ⟨Arr.nil _ _, fun j => by simp, ⟨top_nil, fun _ => rfl⟩, Nat.le_refl _, rfl⟩ rfl (Nat.le_refl _)) (by rw [HPC.out.1, if_neg HNG.out]; rfl) (by unfold pnum; rw [HPC.out.1, if_neg HNG.out]; rfl) (by omega))
        · have hd5 : decide (57 < (bat t k : Int)) = false := decide_eq_false (by omega)
          clear f3 f4 f5 f6
          have f1 := hr.Y.c0
          have f2 := hr.Y.c1
          have f3 := hr.Y.fr 0
          have f4 := hr.Y.fr 1
          clear hr
          go_wp2_with fail
          have HG5 := Lib.hid (show 48 ≤ bat t k ∧ bat t k ≤ 57 by omega)
          have HO10 := Lib.hid (show ∀ W, Calls Tryd.prog 26 #[.int .i64 10] W (NumE 10 4 W) from fun W => rof_any 10 W (by decide) (by decide))
          have HOD := Lib.hid (fun W => rof_any ((bat t k : Int) - 48) W (by omega) (by omega))
          have hw1 : IntKind.i64.wrap (bat t k : Int) = (bat t k : Int) := IntWalk.i64_in _ (by omega)
          have hw2 : IntKind.i64.wrap ((bat t k : Int) - 48) = (bat t k : Int) - 48 := IntWalk.i64_in _ (by omega)
          go_region_with (first
            | (go_at_call 26; (with_reducible refine (HO10.out _).mono ?_); rintro e w1 ⟨Z1, rfl, hz1, hb1⟩; have HZ1 := Lib.hid hz1; have L := Lib.hid (L.out.drew.next hb1); (clear f1 f2 f3 f4 hz1 hb1); have f1 := L.out.Y.c0; have f2 := L.out.Y.c1)
            | (go_at_call 17; (with_reducible refine (rmul_any _ Z1 _ 10 500 4 _ L.out.N HZ1.out (by decide) (by decide)).mono ?_); rintro e w2 ⟨Z2, rfl, hz2, hb2⟩; have HZ2 := Lib.hid hz2; have L := Lib.hid (L.out.next hb2); (clear f1 f2 hz2 hb2))
            | (go_at_call 26; (with_reducible refine (HOD.out _).mono ?_); rintro e w3 ⟨Z3, rfl, hz3, hb3⟩; have HZ3 := Lib.hid hz3; have HZ2 := Lib.hid (HZ2.out.bel hb3); have L := Lib.hid (L.out.next hb3); (clear hz3 hb3))
            | (go_at_call 13; (with_reducible refine (radd_any Z2 Z3 _ _ (500 + 4 + 1) 4 _ HZ2.out HZ3.out (by decide) (by decide)).mono ?_); rintro e w4 he; obtain ⟨b4, C4, p4, q4, zs, rfl, hs, hb4⟩ := he.open_; have HS := Lib.hid hs; have L := Lib.hid (L.out.next hb4); have f1 := L.out.Y.c0; have f2 := L.out.Y.c1; have f3 := L.out.Y.fr 0; have f4 := L.out.Y.fr 1; (clear he hs hb4)))
          all_goals
            go_wp2_with fail
            exact ⟨⟨k + 1, b4, C4, p4, q4, by simp, by omega, fun j hj => by
              rcases Nat.lt_or_ge j k with h5 | h5
              · exact HGO.out j h5
              · obtain rfl : j = k := by omega
                exact HG5.out, L.out.put (by rw [HTL.out]; exact hkm) (by omega) HG5.out HGO.out ⟨b4, _, zs, rfl, HS.out⟩⟩, by simp [intOf]; omega⟩
    · obtain rfl : k = m := by omega
      have hd3 : decide ((k : Int) < (k : Int)) = false := decide_eq_false (by omega)
      have HG := Lib.hid (show Good t from HGB.out.2 ⟨by omega, fun h => hl48 h.1, HGO.out⟩)
      have f1 := hr.Y.c1
      obtain ⟨b', v', ys, hZ, hy1, hy2, hy3, hy4, hy5⟩ := hr.N
      have hZ2 : v' = .slice C r q ∧ b' = n := by
        injection hZ with hZ
        simp at hZ
        exact ⟨hZ.2.symm, hZ.1.symm⟩
      obtain ⟨rfl, rfl⟩ := hZ2
      have hyv : dv ys = dval t := by
        have e1 : t.take k = t := by rw [← HTL.out]; exact List.take_length
        rw [e1] at hy5
        cases b' <;> simp [sv] at hy5 <;> omega
      have HY := Lib.hid (And.intro hy1 (And.intro hy2 hyv))
      clear hr
      go_wp2_with (go_at_call 36; (with_reducible refine (norm_parts false _ ys _ HY.out.1 HY.out.2.1).mono ?_); rintro e w3 ⟨b3, C3, p3, q3, ss, rfl, hs, hb3⟩; have HX3 := Lib.hid (L.out.box.next hb3); have HS := Lib.hid hs; clear hs hb3; obtain ⟨f3, f4, f5, f6⟩ := HX3.out.facts)
      exact bodyPost_ret (ret_bx28_2 rfl rfl rfl (HX3.out.fin b3 _)) rfl (rpar_of (num_fin0 HX3.out HS.out rfl (Nat.le_refl _)) (by rw [HPC.out.1, if_pos HG.out]; rfl) (by rw [HPC.out.2 (by rw [HPC.out.1, if_pos HG.out]), HY.out.2.2]; rfl) hy4)
end Go.Proofs.YthmpkejdficmgaaDoor
