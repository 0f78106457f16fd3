/- Proved here: the bytes of a row's table, or the error, in the program. Condition: a text of at most 10^6 bytes; the rows ahead lie in memory, their tables within the text. -/
import Derived.Test.YtfhaloclbbmbeaaGreatM05
namespace Go.Proofs.YtfhaloclbbmbeaaGreat
open Go.RowKit
def takeD (l : List UInt8) (r : Row) (R : List Row) (fin : Nat) : List UInt8 := if takeE l r R fin = 0 then piece l r.place r.size else []
theorem takeD_not {l : List UInt8} {r : Row} {R : List Row} {fin : Nat} (h : takeE l r R fin ≠ 0) : takeD l r R fin = [] := by unfold takeD; rw [if_neg h]
theorem takeE_tag {l : List UInt8} {r : Row} {R : List Row} {fin : Nat} (h : (!tagOK r.tag || behind r.tag R) = true) : takeE l r R fin = 4 := by unfold takeE; rw [if_pos h]
theorem takeE_place {l : List UInt8} {r : Row} {R : List Row} {fin : Nat} (h : ¬ (!tagOK r.tag || behind r.tag R) = true) (h2 : r.place % 4 ≠ 0 ∨ r.place < fin) : takeE l r R fin = 4 := by unfold takeE; rw [if_neg h, if_pos h2]
theorem takeE_end {l : List UInt8} {r : Row} {R : List Row} {fin : Nat} (h : ¬ (!tagOK r.tag || behind r.tag R) = true) (h2 : ¬ (r.place % 4 ≠ 0 ∨ r.place < fin)) (h3 : ¬ r.place + r.size ≤ l.length) : takeE l r R fin = 3 := by unfold takeE; rw [if_neg h, if_neg h2, if_pos h3]
theorem takeE_meet {l : List UInt8} {r : Row} {R : List Row} {fin : Nat} (h : ¬ (!tagOK r.tag || behind r.tag R) = true) (h2 : ¬ (r.place % 4 ≠ 0 ∨ r.place < fin)) (h3 : r.place + r.size ≤ l.length) (h4 : R.any (meet r) = true) : takeE l r R fin = 4 := by unfold takeE; rw [if_neg h, if_neg h2, if_neg (by simp [h3]), if_pos h4]
theorem takeE_sum {l : List UInt8} {r : Row} {R : List Row} {fin : Nat} (h : ¬ (!tagOK r.tag || behind r.tag R) = true) (h2 : ¬ (r.place % 4 ≠ 0 ∨ r.place < fin)) (h3 : r.place + r.size ≤ l.length) (h4 : R.any (meet r) = false) : takeE l r R fin = if total r.tag (piece l r.place r.size) ≠ r.sum then 5 else 0 := by unfold takeE; rw [if_neg h, if_neg h2, if_neg (by simp [h3]), if_neg (by rw [h4]; simp)]
structure TkS (w W : World) (br : Nat) (X : ByteArray) (sm pl sz : Nat) : Prop where
  bel : Below w.heap.size w W
  box : Rb W br X sm pl sz
theorem TkS.next {w W W' : World} {br : Nat} {X : ByteArray} {sm pl sz : Nat} (h : TkS w W br X sm pl sz) (hb : Below W.heap.size W W') : TkS w W' br X sm pl sz := ⟨h.bel.trans (hb.mono h.bel.size), h.box.bel hb⟩
theorem TkS.start (w : World) (X : ByteArray) (sm pl sz n : Nat) : TkS w ((w.alloc (.cells #[.string X, .int .u32 (sm : Int), .int .u32 (pl : Int), .int .u32 (sz : Int)] 134)).drewN n) w.heap.size X sm pl sz :=
  ⟨below_drewN ((Below.refl _ _).alloc (Nat.le_refl _) _) n, heap_alloc_new w _⟩
set_option maxRecDepth 100000 in
set_option maxHeartbeats 8000000 in
theorem take_any (s : ByteArray) (r : Row) (A : Option Addr) (m c : Nat) (R : List Row) (fin : Nat) (w : World) (hs : s.size ≤ 1000000) (hA : Al w A m R) (hm : m ≤ 1000) (ht : r.tag.length ≤ 1000000) (_hsm : r.sum < 4294967296) (hpl : r.place < 4294967296) (hsz : r.size < 4294967296) (hR : ∀ x ∈ R, x.place + x.size ≤ s.size) :
    Calls Tryz.prog 68 #[.string s, .agg #[.string ⟨r.tag.toArray⟩, .int .u32 (r.sum : Int), .int .u32 (r.place : Int), .int .u32 (r.size : Int)], .slice A m c, .int .u32 (fin : Int)] w fun e w' => e = .returned (.tuple #[.string ⟨(takeD s.data.toList r R fin).toArray⟩, .int .i64 (takeE s.data.toList r R fin)]) ∧ Below w.heap.size w w' := by
  have hlen := hA.len
  have HA := Lib.hid hA
  obtain ⟨X, hX⟩ : ∃ X : ByteArray, X = ⟨r.tag.toArray⟩ := ⟨_, rfl⟩
  obtain ⟨sm, hsm0⟩ : ∃ n, n = r.sum := ⟨_, rfl⟩
  obtain ⟨pl, hpl0⟩ : ∃ n, n = r.place := ⟨_, rfl⟩
  obtain ⟨sz, hsz0⟩ : ∃ n, n = r.size := ⟨_, rfl⟩
  rw [← hX, ← hsm0, ← hpl0, ← hsz0]
  rw [← hpl0] at hpl
  rw [← hsz0] at hsz
  have hl : X.data.toList = r.tag := by rw [hX]
  have hm1 := fun W => (may_any X W (by rw [hl]; omega)).mono fun _ _ h => And.intro h.1 h.2.symm
  rw [hl] at hm1
  cases htg : tagOK r.tag
  · rw [htg] at hm1
    have he : takeE s.data.toList r R fin = 4 := takeE_tag (by rw [htg]; rfl)
    have HE := Lib.hid (And.intro he (takeD_not (by rw [he]; decide)))
    have HM := Lib.hid hm1
    clear hA hX hsm0 hpl0 hsz0 hl hm1 htg he hlen ht hR
    go_enter Tryz.func68, Tryz.ntmps68
    go_wp2_with fail
    go_quiet ((go_at_call 136; with_reducible exact Calls.quiet_of_same (HM.out _)))
    all_goals
      go_wp2_with fail
      go_ret2
      exact ⟨(by rw [HE.out.1, HE.out.2] <;> rfl), (TkS.start w X sm pl sz _).bel⟩
  rw [htg] at hm1
  have HM := Lib.hid hm1
  have hways : (m = 0 ∧ ¬ (!tagOK r.tag || behind r.tag R) = true) ∨ ∃ j Y, 0 < m ∧ j = m - 1 ∧ (∃ ad, A = some ad ∧ ∀ W, Below w.heap.size w W → W.cell? (ad.add (j * 4)) = some (.string Y)) ∧ ∃ b, (Op.bytesLess X.toList Y.toList || (X.toList == Y.toList)) = b ∧ (!tagOK r.tag || behind r.tag R) = b := by
    by_cases h0 : m = 0
    · left
      have hR0 : R = [] := List.eq_nil_of_length_eq_zero (by omega)
      rw [htg, hR0]
      exact ⟨h0, by simp [behind]⟩
    · right
      refine ⟨m - 1, ⟨(R[m - 1]'(by omega)).tag.toArray⟩, by omega, rfl, ?_, _, rfl, ?_⟩
      · obtain ⟨ad, e1, _⟩ := HA.out.get (m - 1) (by omega)
        refine ⟨ad, e1, fun W hb => ?_⟩
        obtain ⟨ad', e1', e2, _⟩ := HA.out.at_ hb (i := m - 1) (by omega)
        rw [e1] at e1'
        injection e1' with e1'
        subst e1'
        exact e2
      · rw [hX, leq_eq, htg, behind_snoc _ _ (by omega)]
        have : R.length - 1 = m - 1 := by omega
        simp [this]
  obtain ⟨Q, hQ⟩ : ∃ Q : Prop, Q = ((!tagOK r.tag || behind r.tag R) = true) := ⟨_, rfl⟩
  have HTK := Lib.hid (And.intro hlen hR)
  have HF := Lib.hid (And.intro hX (And.intro hsm0 (And.intro hpl0 hsz0)))
  have w1 : IntKind.i64.wrap (pl : Int) = (pl : Int) := i64_in _ (by omega)
  have w2 : IntKind.i64.wrap (sz : Int) = (sz : Int) := i64_in _ (by omega)
  rcases hways with ⟨h0, hnb⟩ | ⟨j, Y, h0, hj, ⟨ad, rfl, hY⟩, b, hle, hb⟩
  case inr =>
    have f0 := hY _ (TkS.start w X sm pl sz 0).bel
    have f0 : (w.alloc (.cells #[.string X, .int .u32 (sm : Int), .int .u32 (pl : Int), .int .u32 (sz : Int)] 134)).cell? (ad.add (j * 4)) = some (.string Y) := f0
    have e1 : (m : Int) - 1 = (j : Int) := by omega
    have e2 : IntKind.i64.wrap (j : Int) = (j : Int) := i64_in _ (by omega)
    have hjm : j < m := by omega
    cases b
    · have hnb : ¬ (!tagOK r.tag || behind r.tag R) = true := by rw [hb]; simp
      have HNB := Lib.hid hnb
      clear hA hX hsm0 hpl0 hsz0 hl hm1 htg hlen ht hR hQ Q hb hnb hj hY
      go_enter Tryz.func68, Tryz.ntmps68
      go_wp2_with fail
      go_quiet ((go_at_call 136; with_reducible exact Calls.quiet_of_same (HM.out _)))
      obtain ⟨br, hbr⟩ : ∃ b, b = w.heap.size := ⟨_, rfl⟩
      have K1 := Lib.hid (TkS.start w X sm pl sz nq)
      obtain ⟨W1, hW1⟩ : ∃ W, W = (w.alloc (.cells #[.string X, .int .u32 (sm : Int), .int .u32 (pl : Int), .int .u32 (sz : Int)] 134)).drewN nq := ⟨_, rfl⟩
      rw [← hbr, ← hW1] at K1 ⊢
      clear hbr hW1
      obtain ⟨d0, d1, d2, d3⟩ := K1.out.box.cells
      by_cases hp4 : pl % 4 ≠ 0
      · have he : takeE s.data.toList r R fin = 4 := takeE_place HNB.out (.inl (by rw [← HF.out.2.2.1]; exact hp4))
        have HE := Lib.hid (And.intro he (takeD_not (by rw [he]; decide)))
        have e3 : ((pl : Int) % 4 != 0) = true := by simp; omega
        have e4 : ((pl : Int).tmod 4 != 0) = true := by rw [Int.tmod_eq_emod_of_nonneg (by omega)]; exact e3
        clear he hp4
        go_wp2_with fail
        go_ret2
        exact ⟨(by rw [HE.out.1, HE.out.2] <;> rfl), K1.out.bel⟩
      have e3 : ((pl : Int) % 4 != 0) = false := by simp; omega
      have e4 : ((pl : Int).tmod 4 != 0) = false := by rw [Int.tmod_eq_emod_of_nonneg (by omega)]; exact e3
      by_cases hpf : pl < fin
      · have he : takeE s.data.toList r R fin = 4 := takeE_place HNB.out (.inr (by rw [← HF.out.2.2.1]; exact hpf))
        have HE := Lib.hid (And.intro he (takeD_not (by rw [he]; decide)))
        clear he hp4
        go_wp2_with fail
        go_ret2
        exact ⟨(by rw [HE.out.1, HE.out.2] <;> rfl), K1.out.bel⟩
      have hpok : ¬ (r.place % 4 ≠ 0 ∨ r.place < fin) := by rw [← HF.out.2.2.1]; omega
      by_cases hin : ¬ pl + sz ≤ s.size
      · have he : takeE s.data.toList r R fin = 3 := takeE_end HNB.out hpok (by rw [size_list, ← HF.out.2.2.1, ← HF.out.2.2.2]; exact hin)
        have HE := Lib.hid (And.intro he (takeD_not (by rw [he]; decide)))
        have hcut := fun W => cut_any s (pl : Int) (sz : Int) W (by omega) (by omega)
        have h2 := cutL_out (l := s.data.toList) (a := pl) (n := sz) (by rw [size_list]; exact hin)
        rw [h2.1, h2.2] at hcut
        have HC := Lib.hid hcut
        clear he hp4 hin hpok h2 hcut
        go_wp2_with (go_at_call 132; (with_reducible refine (HC.out _).mono ?_); rintro e w1 ⟨rfl, hb⟩; have K2 := Lib.hid (K1.out.next hb); clear hb)
        go_ret2
        exact ⟨(by rw [HE.out.1, HE.out.2] <;> rfl), K2.out.bel⟩
      have hin : pl + sz ≤ s.size := by omega
      have hcut := fun W => cut_any s (pl : Int) (sz : Int) W (by omega) (by omega)
      have h2 := cutL_in (l := s.data.toList) (a := pl) (n := sz) (by rw [size_list]; exact hin)
      rw [h2.1, h2.2] at hcut
      have hin2 : r.place + r.size ≤ s.data.toList.length := by rw [size_list, ← HF.out.2.2.1, ← HF.out.2.2.2]; exact hin
      have hpl := piece_len (l := s.data.toList) (a := pl) (n := sz) (by rw [size_list]; exact hin)
      obtain ⟨D, hD⟩ : ∃ D : ByteArray, D = ⟨(piece s.data.toList pl sz).toArray⟩ := ⟨_, rfl⟩
      have hDl : D.data.toList = piece s.data.toList pl sz := by rw [hD]
      have htot := fun W => total_q X D W (by rw [hDl]; omega)
      have hXl : X.data.toList = r.tag := by rw [HF.out.1]
      rw [hDl, hXl] at htot
      rw [← hD] at hcut
      have HSU := Lib.hid (fun (h4 : R.any (meet r) = false) => show takeE s.data.toList r R fin = if total r.tag (piece s.data.toList pl sz) ≠ sm then 5 else 0 by rw [takeE_sum HNB.out hpok hin2 h4, ← HF.out.2.1, ← HF.out.2.2.1, ← HF.out.2.2.2])
      have HME := Lib.hid (fun (h4 : R.any (meet r) = true) => takeE_meet HNB.out hpok hin2 h4)
      have HDD := Lib.hid (fun (h : takeE s.data.toList r R fin = 0) => show takeD s.data.toList r R fin = piece s.data.toList pl sz by unfold takeD; rw [if_pos h, ← HF.out.2.2.1, ← HF.out.2.2.2])
      obtain ⟨tt, htt⟩ : ∃ n, n = total r.tag (piece s.data.toList pl sz) := ⟨_, rfl⟩
      rw [← htt] at HSU htot
      have HDe := Lib.hid hD
      have HC := Lib.hid hcut
      have HT := Lib.hid htot
      have HIN := Lib.hid hin
      clear hp4 hin hpok h2 hcut hin2 hpl hD hDl htot hXl htt
      go_upto_region 6 with (go_at_call 132; (with_reducible refine (HC.out _).mono ?_); rintro e w1 ⟨rfl, hb⟩; have K2 := Lib.hid (K1.out.next hb); clear hb)
      clear d0 d1 d2 d3 K1
      go_wp2_with fail
      go_loopw [61] (fun v wi => ∃ k : Nat, v = .int .i64 (k : Int) ∧ k ≤ m ∧ (∀ (i : Nat) (hi : i < R.length), i < k → meet r R[i] = false) ∧ TkS w wi br X sm pl sz) (fun v _ => m - (intOf v).toNat)
      case atStart => exact ⟨0, rfl, Nat.zero_le _, fun i _ hi => by omega, K2.out⟩
      case round =>
        obtain ⟨k, rfl, hk, hno, hK⟩ := hrel
        have HK := Lib.hid hK
        have HNO := Lib.hid hno
        clear hK hno
        by_cases hgo : k < m
        · obtain ⟨ad3, had3, c0, c1, c2, c3⟩ := HA.out.at_ HK.out.bel hgo
          injection had3 with had3
          subst had3
          have hkR : k < R.length := by rw [HTK.out.1]; exact hgo
          have hins := HTK.out.2 (R[k]'hkR) (List.getElem_mem _)
          obtain ⟨X2, hX2⟩ : ∃ X : ByteArray, X = ⟨((R[k]'hkR).tag).toArray⟩ := ⟨_, rfl⟩
          obtain ⟨sm2, hsm2⟩ : ∃ n, n = (R[k]'hkR).sum := ⟨_, rfl⟩
          obtain ⟨pl2, hpl2⟩ : ∃ n, n = (R[k]'hkR).place := ⟨_, rfl⟩
          obtain ⟨sz2, hsz2⟩ : ∃ n, n = (R[k]'hkR).size := ⟨_, rfl⟩
          rw [← hX2] at c0
          rw [← hsm2] at c1
          rw [← hpl2] at c2
          rw [← hsz2] at c3
          rw [← hpl2, ← hsz2] at hins
          have hme : meet r (R[k]'hkR) = decide (max pl pl2 < min (pl + sz) (pl2 + sz2)) := by unfold meet; rw [HF.out.2.2.1, HF.out.2.2.2, hpl2, hsz2]
          have hmeet := fun W => meet_any X X2 sm sm2 pl pl2 sz sz2 W (by have := HIN.out; omega) (by omega)
          rw [← hme] at hmeet
          have HK3 := Lib.hid (And.intro (HK.out.next ((Below.refl _ _).alloc (Nat.le_refl _) (.cells #[.string X2, .int .u32 (sm2 : Int), .int .u32 (pl2 : Int), .int .u32 (sz2 : Int)] 134))) (show Rb (wr.alloc (.cells #[.string X2, .int .u32 (sm2 : Int), .int .u32 (pl2 : Int), .int .u32 (sz2 : Int)] 134)) wr.heap.size X2 sm2 pl2 sz2 from heap_alloc_new wr _))
          have HMT := Lib.hid hmeet
          have HNX := Lib.hid (fun (h : meet r (R[k]'hkR) = false) => show ∀ (i : Nat) (hi : i < R.length), i < k + 1 → meet r R[i] = false from fun i hi hik => by
            rcases Nat.lt_or_ge i k with h7 | h7
            · exact HNO.out i hi h7
            · have : i = k := by omega
              subst this
              exact h)
          have HHT := Lib.hid (fun (h : meet r (R[k]'hkR) = true) => show R.any (meet r) = true from List.any_eq_true.2 ⟨_, List.getElem_mem hkR, h⟩)
          clear hins hX2 hsm2 hpl2 hsz2 hme hmeet
          go_upto_region 11 with fail
          obtain ⟨g, hg⟩ : ∃ g, g = wr.heap.size := ⟨_, rfl⟩
          obtain ⟨W3, hW3⟩ : ∃ W, W = wr.alloc (.cells #[.string X2, .int .u32 (sm2 : Int), .int .u32 (pl2 : Int), .int .u32 (sz2 : Int)] 134) := ⟨_, rfl⟩
          rw [← hg, ← hW3] at HK3 ⊢
          clear hg hW3 c0 c1 c2 c3
          obtain ⟨d0, d1, d2, d3⟩ := HK3.out.1.box.cells
          obtain ⟨f0, f1, f2, f3⟩ := HK3.out.2.cells
          rcases hmv : meet r (R[k]'hkR) with _ | _
          · rw [hmv] at HMT
            have HS := Lib.hid (HNX.out hmv)
            clear hmv
            go_wp2_with (go_at_call 137; (with_reducible refine (HMT.out _).mono ?_); rintro e w5 ⟨rfl, hb⟩; have K5 := Lib.hid (HK3.out.1.next hb); clear hb)
            exact ⟨⟨k + 1, by simp, by omega, HS.out, K5.out⟩, by simp [intOf]; omega⟩
          · rw [hmv] at HMT
            have he := HME.out (HHT.out hmv)
            have HE := Lib.hid (And.intro he (takeD_not (by rw [he]; decide)))
            clear hmv he
            go_wp2_with (go_at_call 137; (with_reducible refine (HMT.out _).mono ?_); rintro e w5 ⟨rfl, hb⟩; have K5 := Lib.hid (HK3.out.1.next hb); clear hb)
            go_ret2
            exact ⟨(by rw [HE.out.1, HE.out.2] <;> rfl), K5.out.bel⟩
        · have hkm : k = m := by omega
          have hany : R.any (meet r) = false := by
            rw [List.any_eq_false]
            intro x hx
            obtain ⟨i, hi, rfl⟩ := List.getElem_of_mem hx
            rw [HNO.out i hi (by have := HTK.out.1; omega)]
            simp
          have hsu := HSU.out hany
          obtain ⟨d0, d1, d2, d3⟩ := HK.out.box.cells
          by_cases hts : tt = sm
          · rw [if_neg (by simp [hts])] at hsu
            have HE := Lib.hid (And.intro hsu (HDD.out hsu))
            have e5 : ((tt : Int) != (sm : Int)) = false := by simp [hts]
            clear hkm hany hsu hts
            go_wp2_with fail
            go_quiet ((go_at_call 111; with_reducible exact Calls.quiet_of (HT.out _)))
            all_goals
              go_wp2_with fail
              go_ret2
              exact ⟨(by rw [HE.out.1, HE.out.2, HDe.out] <;> rfl), below_drewN HK.out.bel _⟩
          · rw [if_pos hts] at hsu
            have HE := Lib.hid (And.intro hsu (takeD_not (by rw [hsu]; decide)))
            have e5 : ((tt : Int) != (sm : Int)) = true := by simp; omega
            clear hkm hany hsu hts
            go_wp2_with fail
            go_quiet ((go_at_call 111; with_reducible exact Calls.quiet_of (HT.out _)))
            all_goals
              go_wp2_with fail
              go_ret2
              exact ⟨(by rw [HE.out.1, HE.out.2] <;> rfl), below_drewN HK.out.bel _⟩
    · have he : takeE s.data.toList r R fin = 4 := takeE_tag hb
      have HE := Lib.hid (And.intro he (takeD_not (by rw [he]; decide)))
      clear hA hX hsm0 hpl0 hsz0 hl hm1 htg he hlen ht hR hQ Q hb hj hY
      go_enter Tryz.func68, Tryz.ntmps68
      go_wp2_with fail
      go_quiet ((go_at_call 136; with_reducible exact Calls.quiet_of_same (HM.out _)))
      all_goals
        go_wp2_with fail
        go_ret2
        exact ⟨(by rw [HE.out.1, HE.out.2] <;> rfl), (TkS.start w X sm pl sz _).bel⟩
  case inl =>
    have HNB := Lib.hid hnb
    have h0' : ¬ 0 < m := by omega
    clear h0
    clear hA hX hsm0 hpl0 hsz0 hl hm1 htg hlen ht hR hQ Q hnb
    go_enter Tryz.func68, Tryz.ntmps68
    go_wp2_with fail
    go_quiet ((go_at_call 136; with_reducible exact Calls.quiet_of_same (HM.out _)))
    obtain ⟨br, hbr⟩ : ∃ b, b = w.heap.size := ⟨_, rfl⟩
    have K1 := Lib.hid (TkS.start w X sm pl sz nq)
    obtain ⟨W1, hW1⟩ : ∃ W, W = (w.alloc (.cells #[.string X, .int .u32 (sm : Int), .int .u32 (pl : Int), .int .u32 (sz : Int)] 134)).drewN nq := ⟨_, rfl⟩
    rw [← hbr, ← hW1] at K1 ⊢
    clear hbr hW1
    obtain ⟨d0, d1, d2, d3⟩ := K1.out.box.cells
    by_cases hp4 : pl % 4 ≠ 0
    · have he : takeE s.data.toList r R fin = 4 := takeE_place HNB.out (.inl (by rw [← HF.out.2.2.1]; exact hp4))
      have HE := Lib.hid (And.intro he (takeD_not (by rw [he]; decide)))
      have e3 : ((pl : Int) % 4 != 0) = true := by simp; omega
      have e4 : ((pl : Int).tmod 4 != 0) = true := by rw [Int.tmod_eq_emod_of_nonneg (by omega)]; exact e3
      clear he hp4
      go_wp2_with fail
      go_ret2
      exact ⟨(by rw [HE.out.1, HE.out.2] <;> rfl), K1.out.bel⟩
    have e3 : ((pl : Int) % 4 != 0) = false := by simp; omega
    have e4 : ((pl : Int).tmod 4 != 0) = false := by rw [Int.tmod_eq_emod_of_nonneg (by omega)]; exact e3
    by_cases hpf : pl < fin
    · have he : takeE s.data.toList r R fin = 4 := takeE_place HNB.out (.inr (by rw [← HF.out.2.2.1]; exact hpf))
      have HE := Lib.hid (And.intro he (takeD_not (by rw [he]; decide)))
      clear he hp4
      go_wp2_with fail
      go_ret2
      exact ⟨(by rw [HE.out.1, HE.out.2] <;> rfl), K1.out.bel⟩
    have hpok : ¬ (r.place % 4 ≠ 0 ∨ r.place < fin) := by rw [← HF.out.2.2.1]; omega
    by_cases hin : ¬ pl + sz ≤ s.size
    · have he : takeE s.data.toList r R fin = 3 := takeE_end HNB.out hpok (by rw [size_list, ← HF.out.2.2.1, ← HF.out.2.2.2]; exact hin)
      have HE := Lib.hid (And.intro he (takeD_not (by rw [he]; decide)))
      have hcut := fun W => cut_any s (pl : Int) (sz : Int) W (by omega) (by omega)
      have h2 := cutL_out (l := s.data.toList) (a := pl) (n := sz) (by rw [size_list]; exact hin)
      rw [h2.1, h2.2] at hcut
      have HC := Lib.hid hcut
      clear he hp4 hin hpok h2 hcut
      go_wp2_with (go_at_call 132; (with_reducible refine (HC.out _).mono ?_); rintro e w1 ⟨rfl, hb⟩; have K2 := Lib.hid (K1.out.next hb); clear hb)
      go_ret2
      exact ⟨(by rw [HE.out.1, HE.out.2] <;> rfl), K2.out.bel⟩
    have hin : pl + sz ≤ s.size := by omega
    have hcut := fun W => cut_any s (pl : Int) (sz : Int) W (by omega) (by omega)
    have h2 := cutL_in (l := s.data.toList) (a := pl) (n := sz) (by rw [size_list]; exact hin)
    rw [h2.1, h2.2] at hcut
    have hin2 : r.place + r.size ≤ s.data.toList.length := by rw [size_list, ← HF.out.2.2.1, ← HF.out.2.2.2]; exact hin
    have hpl := piece_len (l := s.data.toList) (a := pl) (n := sz) (by rw [size_list]; exact hin)
    obtain ⟨D, hD⟩ : ∃ D : ByteArray, D = ⟨(piece s.data.toList pl sz).toArray⟩ := ⟨_, rfl⟩
    have hDl : D.data.toList = piece s.data.toList pl sz := by rw [hD]
    have htot := fun W => total_q X D W (by rw [hDl]; omega)
    have hXl : X.data.toList = r.tag := by rw [HF.out.1]
    rw [hDl, hXl] at htot
    rw [← hD] at hcut
    have HSU := Lib.hid (fun (h4 : R.any (meet r) = false) => show takeE s.data.toList r R fin = if total r.tag (piece s.data.toList pl sz) ≠ sm then 5 else 0 by rw [takeE_sum HNB.out hpok hin2 h4, ← HF.out.2.1, ← HF.out.2.2.1, ← HF.out.2.2.2])
    have HME := Lib.hid (fun (h4 : R.any (meet r) = true) => takeE_meet HNB.out hpok hin2 h4)
    have HDD := Lib.hid (fun (h : takeE s.data.toList r R fin = 0) => show takeD s.data.toList r R fin = piece s.data.toList pl sz by unfold takeD; rw [if_pos h, ← HF.out.2.2.1, ← HF.out.2.2.2])
    obtain ⟨tt, htt⟩ : ∃ n, n = total r.tag (piece s.data.toList pl sz) := ⟨_, rfl⟩
    rw [← htt] at HSU htot
    have HDe := Lib.hid hD
    have HC := Lib.hid hcut
    have HT := Lib.hid htot
    have HIN := Lib.hid hin
    clear hp4 hin hpok h2 hcut hin2 hpl hD hDl htot hXl htt
    go_upto_region 6 with (go_at_call 132; (with_reducible refine (HC.out _).mono ?_); rintro e w1 ⟨rfl, hb⟩; have K2 := Lib.hid (K1.out.next hb); clear hb)
    clear d0 d1 d2 d3 K1
    go_wp2_with fail
    go_loopw [61] (fun v wi => ∃ k : Nat, v = .int .i64 (k : Int) ∧ k ≤ m ∧ (∀ (i : Nat) (hi : i < R.length), i < k → meet r R[i] = false) ∧ TkS w wi br X sm pl sz) (fun v _ => m - (intOf v).toNat)
    case atStart => exact ⟨0, rfl, Nat.zero_le _, fun i _ hi => by omega, K2.out⟩
    case round =>
      obtain ⟨k, rfl, hk, hno, hK⟩ := hrel
      have HK := Lib.hid hK
      have HNO := Lib.hid hno
      clear hK hno
      by_cases hgo : k < m
      · exact absurd hgo (by omega)
      · have hkm : k = m := by omega
        have hany : R.any (meet r) = false := by
          rw [List.any_eq_false]
          intro x hx
          obtain ⟨i, hi, rfl⟩ := List.getElem_of_mem hx
          rw [HNO.out i hi (by have := HTK.out.1; omega)]
          simp
        have hsu := HSU.out hany
        obtain ⟨d0, d1, d2, d3⟩ := HK.out.box.cells
        by_cases hts : tt = sm
        · rw [if_neg (by simp [hts])] at hsu
          have HE := Lib.hid (And.intro hsu (HDD.out hsu))
          have e5 : ((tt : Int) != (sm : Int)) = false := by simp [hts]
          clear hkm hany hsu hts
          go_wp2_with fail
          go_quiet ((go_at_call 111; with_reducible exact Calls.quiet_of (HT.out _)))
          all_goals
            go_wp2_with fail
            go_ret2
            exact ⟨(by rw [HE.out.1, HE.out.2, HDe.out] <;> rfl), below_drewN HK.out.bel _⟩
        · rw [if_pos hts] at hsu
          have HE := Lib.hid (And.intro hsu (takeD_not (by rw [hsu]; decide)))
          have e5 : ((tt : Int) != (sm : Int)) = true := by simp; omega
          clear hkm hany hsu hts
          go_wp2_with fail
          go_quiet ((go_at_call 111; with_reducible exact Calls.quiet_of (HT.out _)))
          all_goals
            go_wp2_with fail
            go_ret2
            exact ⟨(by rw [HE.out.1, HE.out.2] <;> rfl), below_drewN HK.out.bel _⟩
end Go.Proofs.YtfhaloclbbmbeaaGreat
