/- Proved here: what the document's Make answers of tables that may be. Condition: a list that lies in memory. -/
import Derived.Test.YtlidagofjkilgaaTj
namespace Go.Proofs.Ytlidagofjkilgaa
open Go.RowKit

theorem app_list (a b : ByteArray) : (a ++ b).data.toList = a.data.toList ++ b.data.toList := by simp
theorem of_list {s : ByteArray} {l : List UInt8} (h : s.data.toList = l) : s = ⟨l.toArray⟩ := by
  subst h
  apply ByteArray.ext
  simp
theorem put2 (n : Nat) (w : World) (hn : n < 4294967296) : Calls Try.prog 24 #[.int .u32 (n : Int), .int .i64 2] w fun e w' => e = .returned (.string ⟨(byt 2 n).toArray⟩) ∧ Below w.heap.size w w' := put_any n 2 w hn (by decide)
theorem put4 (n : Nat) (w : World) (hn : n < 4294967296) : Calls Try.prog 24 #[.int .u32 (n : Int), .int .i64 4] w fun e w' => e = .returned (.string ⟨(byt 4 n).toArray⟩) ∧ Below w.heap.size w w' := put_any n 4 w hn (by decide)
/-- The header, as far as j of the three numbers. -/
def preL (m j : Nat) : List UInt8 := [0, 1, 0, 0] ++ byt 2 m ++ (([16 * 2 ^ pw m, pw m, 16 * m - 16 * 2 ^ pw m] : List Nat).take j).flatMap (byt 2)
theorem preL_three (m : Nat) : preL m 3 = hdr m := by simp [preL, hdr, nums]
theorem preL_len (m : Nat) : ∀ j, (preL m j).length ≤ 12
  | 0 => by simp [preL, byt_len]
  | 1 => by simp [preL, byt_len]
  | 2 => by simp [preL, byt_len]
  | j + 3 => by simp [preL, byt_len]
/-- The three numbers, in memory. -/
structure Th3 (w W : World) (g a p r : Nat) : Prop where
  bel : Below w.heap.size w W
  blk : W.heap[g]? = some (.cells #[.int .i64 (a : Int), .int .i64 (p : Int), .int .i64 (r : Int)] 3 (0, 0))
theorem Th3.next {w W W' : World} {g a p r : Nat} (h : Th3 w W g a p r) (hb : Below W.heap.size W W') : Th3 w W' g a p r := ⟨h.bel.trans (hb.mono h.bel.size), (hb.block g (heap_lt h.blk)).trans h.blk⟩
theorem Th3.facts {w W : World} {g a p r : Nat} (h : Th3 w W g a p r) : W.cell? ⟨g, 0, none⟩ = some (.int .i64 (a : Int)) ∧ W.cell? ⟨g, 1, none⟩ = some (.int .i64 (p : Int)) ∧ W.cell? ⟨g, 2, none⟩ = some (.int .i64 (r : Int)) :=
  ⟨cell_of_row W g 0 _ 3 (0, 0) h.blk, cell_of_row W g 1 _ 3 (0, 0) h.blk, cell_of_row W g 2 _ 3 (0, 0) h.blk⟩
set_option maxRecDepth 100000 in
set_option maxHeartbeats 8000000 in
theorem rmake_main (A : Option Addr) (m c : Nat) (L : List (List UInt8 × List UInt8)) (w : World) (h : Tl w A m L) (hE : mkE L = 0) (hd : ∀ i, i < m → (dt L i).length ≤ 900000) :
    Calls Try.prog 8 #[.slice A m c] w fun e w' => e = .returned (.tuple #[.string ⟨(mkF L).toArray⟩, .int .i64 0]) ∧ Below w.heap.size w w' := by
  have hl := h.len
  obtain ⟨h0, hris, h64, hsz⟩ := mkE_zero hE
  have hri := risU_iff.2 hris
  rw [hl] at h0 h64 hri
  have hm : m ≤ 1000000 := by omega
  have HX := Lib.hid h
  have HD := Lib.hid hd
  have HL := Lib.hid hl
  have HRI := Lib.hid hri
  have HRis := Lib.hid hris
  have H6 := Lib.hid (And.intro h0 h64)
  have HSZ := Lib.hid (show 12 + 16 * m + (body L).length ≤ 1048576 by unfold szF at hsz; rw [hl] at hsz; exact hsz)
  have HBM := Lib.hid (fun j (hj : j ≤ m) => body_max (L := L) (fun i hi => hd i (by omega)) j (by omega))
  have e0 : ((m : Int) == 0) = false := by simp; omega
  clear h hl h0 hE hd hri hris h64 hsz
  go_enter Try.func8, Try.ntmps8
  go_wp2_with fail
  go_loopw [5] (fun i wr => ∃ k : Nat, i = .int .i64 (k : Int) ∧ k ≤ m ∧ risU L k = true ∧ Below w.heap.size w wr) (fun i _ => m - (intOf i).toNat)
  case atStart => exact ⟨0, rfl, Nat.zero_le _, rfl, Below.refl _ _⟩
  case round =>
    obtain ⟨k, rfl, hk, hu, hb⟩ := hrel
    have HB := Lib.hid hb
    have HU := Lib.hid hu
    clear hb hu
    by_cases hgo : k < m
    · obtain ⟨ad, rfl, c0, c1⟩ := HX.out.at_ HB.out hgo
      obtain ⟨X, hX⟩ : ∃ X : ByteArray, X = ⟨(tg L k).toArray⟩ := ⟨_, rfl⟩
      have hl : X.data.toList = tg L k := by rw [hX]
      have hm1 := fun W => (rtag_any X W).mono fun _ _ h => And.intro h.1 h.2.symm
      rw [hl] at hm1
      rw [← hX] at c0
      clear c1
      cases hr : tagOK (tg L k)
      · rw [hr] at hm1
        have HF := Lib.hid (show risU L m = false from risU_false (by unfold risK; rw [hr]; rfl) hgo)
        have HM := Lib.hid hm1
        clear hr hX hl hm1
        exact absurd (HRI.out.symm.trans HF.out) (by decide)
      · rw [hr] at hm1
        have HM := Lib.hid hm1
        by_cases hk0 : k = 0
        · have HS := Lib.hid (show risU L (k + 1) = true by rw [risU_succ, HU.out, hk0]; unfold risK; rw [← hk0, hr, hk0]; rfl)
          have d0 : ¬ 0 < k := by omega
          clear hr hX hl hm1 hk0
          go_wp2_with fail
          go_quiet ((go_at_call 23; with_reducible exact Calls.quiet_of_same (HM.out _)))
          all_goals
            go_wp2_with fail
            exact ⟨⟨k + 1, by simp, by omega, HS.out, below_drewN HB.out _⟩, by simp [intOf]; omega⟩
        · obtain ⟨j, hj⟩ : ∃ j, j = k - 1 := ⟨_, rfl⟩
          have hr2 : risK L k = !bLe (tg L k) (tg L j) := by unfold risK; rw [hr, hj, decide_eq_true (show 0 < k by omega)]; simp
          obtain ⟨ad2, had2, b0, b1⟩ := HX.out.at_ HB.out (i := j) (by omega)
          obtain ⟨rfl⟩ := had2
          clear b1
          have hle := leq_eq (tg L k) (tg L j)
          obtain ⟨Y, hY⟩ : ∃ Y : ByteArray, Y = ⟨(tg L j).toArray⟩ := ⟨_, rfl⟩
          rw [← hY] at b0 hle
          rw [← hX] at hle
          have d0 : 0 < k := by omega
          have e1 : (k : Int) - 1 = (j : Int) := by omega
          have e2 : IntKind.i64.wrap (j : Int) = (j : Int) := i64_in _ (by omega)
          have hjm : j < m := by omega
          cases hbl : bLe (tg L k) (tg L j)
          · rw [hbl] at hle hr2
            have HS := Lib.hid (show risU L (k + 1) = true by rw [risU_succ, HU.out, hr2]; rfl)
            clear hr hX hl hm1 hr2 hY hbl hj hk0
            go_wp2_with fail
            go_quiet ((go_at_call 23; with_reducible exact Calls.quiet_of_same (HM.out _)))
            all_goals
              go_wp2_with fail
              exact ⟨⟨k + 1, by simp, by omega, HS.out, below_drewN HB.out _⟩, by simp [intOf]; omega⟩
          · rw [hbl] at hle hr2
            have HF := Lib.hid (show risU L m = false from risU_false (by rw [hr2]; rfl) hgo)
            clear hr hX hl hm1 hr2 hY hbl hj hk0
            exact absurd (HRI.out.symm.trans HF.out) (by decide)
    · have hkm : k = m := by omega
      subst hkm
      go_wp2_with fail
      go_loopw [6, 7] (fun v i wi => ∃ j q : Nat, i = .int .i64 (j : Int) ∧ j ≤ k ∧ v = .int .i64 (q : Int) ∧ q = 12 + 16 * k + (body (L.take j)).length ∧ wi = wr) (fun _ i _ => k - (intOf i).toNat)
      case atStart => exact ⟨0, 12 + 16 * k, rfl, Nat.zero_le _, by congr 1 <;> (first | omega | (unfold wrap64; omega)), rfl, rfl⟩
      case round =>
        obtain ⟨j, q, rfl, hj, rfl, hq, rfl⟩ := hrel
        by_cases hgo2 : j < k
        · obtain ⟨ad, rfl, c0, c1⟩ := HX.out.at_ HB.out hgo2
          have hn := HD.out j hgo2
          have hnx := body_next (L := L) (i := j) (by have := HL.out; omega)
          have hup := blk_up (dt L j)
          have hmx := HBM.out j hj
          have hn1 := congrArg List.length hnx
          rw [List.length_append] at hn1
          obtain ⟨D, hDD⟩ : ∃ D : ByteArray, D = ⟨(dt L j).toArray⟩ := ⟨_, rfl⟩
          have hz : D.size = (dt L j).length := by rw [hDD]; exact List.size_toArray
          obtain ⟨n, hnn⟩ : ∃ n, n = (dt L j).length := ⟨_, rfl⟩
          rw [← hnn] at hz hup hn
          rw [← hDD] at c1
          obtain ⟨q4, hq4⟩ : ∃ q4, q4 = (n + 3) / 4 := ⟨_, rfl⟩
          have w1 : IntKind.i64.wrap (((n : Int) + 3).tdiv 4) = (q4 : Int) := by rw [Int.tdiv_eq_ediv_of_nonneg (by omega), i64_in _ (by omega)]; omega
          have w2 : ((n : Int) + 3).tdiv 4 = (q4 : Int) := by rw [Int.tdiv_eq_ediv_of_nonneg (by omega)]; omega
          have w3 : ((n : Int) + 3) / 4 = (q4 : Int) := by omega
          have HQ := Lib.hid (show q + q4 * 4 = 12 + 16 * k + (body (L.take (j + 1))).length by omega)
          have hq5 : q4 ≤ 1000000000 := by omega
          have hq6 : q ≤ 1000000000000000 := by omega
          clear hnx hup hmx hn1 hDD hnn hq4 c0 hq
          go_wp2_with fail
          exact ⟨⟨j + 1, q + q4 * 4, by simp, by omega, by congr 1 <;> (first | omega | (unfold wrap64; omega)), HQ.out, by trivial⟩, by simp [intOf]; omega⟩
        · have hjm : j = k := by omega
          subst hjm
          have h7 : L.take j = L := by rw [← HL.out, List.take_length]
          rw [h7] at hq
          have h64 := H6.out.2
          have h0 := H6.out.1
          have g1 : ¬ 64 < j := by omega
          have g2 : ¬ 1048576 < q := by have := HSZ.out; omega
          have hc1 := fun W => put2 j W (by omega)
          have w1 : IntKind.u32.wrap (j : Int) = (j : Int) := by rw [IntKind.wrap_u32]; omega
          obtain ⟨T1, hT1⟩ : ∃ X : ByteArray, X = ⟨(byt 2 j).toArray⟩ := ⟨_, rfl⟩
          have z1 : T1.size = 2 := by rw [hT1]; exact byt_len 2 _
          have q1 : ¬ 9223372036854775807 < 4 + T1.size := by omega
          have HP0 := Lib.hid (show (⟨#[0, 1, 0, 0]⟩ ++ T1 : ByteArray).data.toList = preL j 0 by rw [app_list, hT1]; simp [preL])
          rw [← hT1] at hc1
          have C1 := Lib.hid hc1
          have C3 := Lib.hid (fun W => three_any j W h0 h64)
          clear hq hc1 hT1 z1 h7
          obtain ⟨a, ha⟩ : ∃ a, a = 16 * 2 ^ pw j := ⟨_, rfl⟩
          obtain ⟨p, hp⟩ : ∃ p, p = pw j := ⟨_, rfl⟩
          obtain ⟨r, hr⟩ : ∃ r, r = 16 * j - a := ⟨_, rfl⟩
          rw [← ha, ← hr, ← hp] at C3
          go_upto_region 18 with (first
            | (go_at_call 24; (with_reducible refine (C1.out _).mono ?_); rintro e w3 ⟨rfl, hb⟩; have K1 := Lib.hid (HB.out.trans (hb.mono HB.out.size)); clear hb)
            | (go_at_call 25; (with_reducible refine (C3.out _).mono ?_); rintro e w4 ⟨rfl, hw4⟩; have K2 := Lib.hid (show Th3 w w4 w3.heap.size a p r from by rw [hw4]; exact ⟨K1.out.alloc K1.out.size _, heap_alloc_new w3 _⟩); clear hw4))
          obtain ⟨g3, hg3⟩ : ∃ g, g = w3.heap.size := ⟨_, rfl⟩
          rw [← hg3] at K2 ⊢
          clear hg3 K1
          have hpw := bits_log j (by omega) h0
          have HPL := Lib.hid (show preL j 1 = preL j 0 ++ byt 2 a ∧ preL j 2 = preL j 1 ++ byt 2 p ∧ preL j 3 = preL j 2 ++ byt 2 r from by
            rw [ha] at hr
            rw [ha, hp, hr]
            simp [preL])
          rw [← hp] at hpw
          have hp2 : 2 ^ p ≤ j := hpw.2.2.1
          have hp6 : p ≤ 6 := hpw.2.1
          rw [hp] at hp2
          have ha64 : a ≤ 1024 := by omega
          have hr64 : r ≤ 1024 := by omega
          clear ha hp hr hpw hp2 g1 g2
          go_wp2_with fail
          go_loopw [8, 10] (fun x v wi => ∃ (i : Nat) (S : ByteArray), v = .int .i64 (i : Int) ∧ i ≤ 3 ∧ x = .string S ∧ S.data.toList = preL j i ∧ Th3 w wi g3 a p r) (fun _ v _ => 3 - (intOf v).toNat)
          case atStart => exact ⟨0, _, rfl, by omega, rfl, HP0.out, K2.out⟩
          case round =>
            obtain ⟨i, S, rfl, hi, rfl, hS, hK⟩ := hrel
            have HK := Lib.hid hK
            clear hK
            obtain ⟨f0, f1, f2⟩ := HK.out.facts
            have hSz : S.size ≤ 12 := by rw [← size_list, hS]; exact preL_len j i
            rcases (by omega : i = 0 ∨ i = 1 ∨ i = 2 ∨ i = 3) with rfl | rfl | rfl | hi3
            · have hc1 := fun W => put2 a W (by omega)
              have w1 : IntKind.u32.wrap (a : Int) = (a : Int) := by rw [IntKind.wrap_u32]; omega
              obtain ⟨T, hT⟩ : ∃ X : ByteArray, X = ⟨(byt 2 a).toArray⟩ := ⟨_, rfl⟩
              have z1 : T.size = 2 := by rw [hT]; exact byt_len 2 _
              have q1 : ¬ 9223372036854775807 < S.size + T.size := by omega
              have HP1 := Lib.hid (show (S ++ T : ByteArray).data.toList = preL j (0 + 1) by rw [app_list, hT, hS]; exact HPL.out.1.symm)
              rw [← hT] at hc1
              have C1 := Lib.hid hc1
              clear hc1 hT z1 hS hSz
              go_wp2_with (go_at_call 24; (with_reducible refine (C1.out _).mono ?_); rintro e w5 ⟨rfl, hb⟩; have K3 := Lib.hid (HK.out.next hb); clear hb)
              exact ⟨⟨0 + 1, _, by simp, by omega, rfl, HP1.out, K3.out⟩, by simp [intOf]; try omega⟩
            · have hc1 := fun W => put2 p W (by omega)
              have w1 : IntKind.u32.wrap (p : Int) = (p : Int) := by rw [IntKind.wrap_u32]; omega
              obtain ⟨T, hT⟩ : ∃ X : ByteArray, X = ⟨(byt 2 p).toArray⟩ := ⟨_, rfl⟩
              have z1 : T.size = 2 := by rw [hT]; exact byt_len 2 _
              have q1 : ¬ 9223372036854775807 < S.size + T.size := by omega
              have HP1 := Lib.hid (show (S ++ T : ByteArray).data.toList = preL j (1 + 1) by rw [app_list, hT, hS]; exact HPL.out.2.1.symm)
              rw [← hT] at hc1
              have C1 := Lib.hid hc1
              clear hc1 hT z1 hS hSz
              go_wp2_with (go_at_call 24; (with_reducible refine (C1.out _).mono ?_); rintro e w5 ⟨rfl, hb⟩; have K3 := Lib.hid (HK.out.next hb); clear hb)
              exact ⟨⟨1 + 1, _, by simp, by omega, rfl, HP1.out, K3.out⟩, by simp [intOf]; try omega⟩
            · have hc1 := fun W => put2 r W (by omega)
              have w1 : IntKind.u32.wrap (r : Int) = (r : Int) := by rw [IntKind.wrap_u32]; omega
              obtain ⟨T, hT⟩ : ∃ X : ByteArray, X = ⟨(byt 2 r).toArray⟩ := ⟨_, rfl⟩
              have z1 : T.size = 2 := by rw [hT]; exact byt_len 2 _
              have q1 : ¬ 9223372036854775807 < S.size + T.size := by omega
              have HP1 := Lib.hid (show (S ++ T : ByteArray).data.toList = preL j (2 + 1) by rw [app_list, hT, hS]; exact HPL.out.2.2.symm)
              rw [← hT] at hc1
              have C1 := Lib.hid hc1
              clear hc1 hT z1 hS hSz
              go_wp2_with (go_at_call 24; (with_reducible refine (C1.out _).mono ?_); rintro e w5 ⟨rfl, hb⟩; have K3 := Lib.hid (HK.out.next hb); clear hb)
              exact ⟨⟨2 + 1, _, by simp, by omega, rfl, HP1.out, K3.out⟩, by simp [intOf]; try omega⟩
            · have HH := Lib.hid (show S.data.toList = hdr j by rw [hS, hi3]; exact preL_three j)
              have g4 : decide ((i : Int) < 3) = false := decide_eq_false (by omega)
              have HB4 := Lib.hid HK.out.bel
              clear hS hSz f0 f1 f2 HK hi3 hi
              go_wp2_with fail
              go_loopw [8, 11, 12] (fun x y v wi => ∃ (k : Nat) (H Bd : ByteArray), v = .int .i64 (k : Int) ∧ k ≤ j ∧ x = .string H ∧ y = .string Bd ∧ H.data.toList = hdr j ++ dir (12 + 16 * j) (L.take k) ∧ Bd.data.toList = body (L.take k) ∧ Below w.heap.size w wi) (fun _ _ v _ => j - (intOf v).toNat)
              case atStart => exact ⟨0, S, ⟨#[]⟩, rfl, Nat.zero_le _, rfl, rfl, by rw [HH.out]; simp [dir], rfl, HB4.out⟩
              case round =>
                obtain ⟨k, H, Bd, rfl, hk, rfl, rfl, hH, hBd, hb⟩ := hrel
                have HB5 := Lib.hid hb
                clear hb
                have h64 := H6.out.2
                have hsz := HSZ.out
                have hbk := body_mono (L := L) (i := k) (j := j) hk (by have := HL.out; omega)
                rw [show L.take j = L by rw [← HL.out, List.take_length]] at hbk
                have hdl := dir_len (L := L.take k) (12 + 16 * j) (fun t ht => tags_four HRis.out t (List.mem_of_mem_take ht))
                rw [List.length_take, HL.out, Nat.min_eq_left hk] at hdl
                have hHz : H.size = 12 + 16 * k := by rw [← size_list, hH, List.length_append, hdr_len, hdl]
                have hBz : Bd.size = (body (L.take k)).length := by rw [← size_list, hBd]
                have hb4 := body_four (L.take k)
                by_cases hgo : k < j
                · obtain ⟨ad, rfl, c0, c1⟩ := HX.out.at_ HB5.out hgo
                  have hn := HD.out k hgo
                  have hx4 := tagOK_len (risK_tag (HRis.out k (by have := HL.out; omega)))
                  have hnx := body_next (L := L) (i := k) (by have := HL.out; omega)
                  have hble := body_le (L := L) (i := k) (by have := HL.out; omega)
                  have hbl := blk_len (dt L k)
                  have hnl := dir_next (L := L) (i := k) (by have := HL.out; omega) (12 + 16 * j)
                  rw [← hBz] at hnl
                  obtain ⟨X, hX⟩ : ∃ X : ByteArray, X = ⟨(tg L k).toArray⟩ := ⟨_, rfl⟩
                  obtain ⟨D, hDD⟩ : ∃ D : ByteArray, D = ⟨(dt L k).toArray⟩ := ⟨_, rfl⟩
                  have hXl : X.data.toList = tg L k := by rw [hX]
                  have hDl : D.data.toList = dt L k := by rw [hDD]
                  have hXz : X.size = 4 := by rw [← size_list, hXl]; exact hx4
                  have hz : D.size = (dt L k).length := by rw [← size_list, hDl]
                  have htot := fun W => rsum_any X D W (by rw [hDl]; omega)
                  rw [hXl, hDl] at htot
                  have htl := total_lt (tg L k) (dt L k)
                  have KX := Lib.hid (fun W (hb : Below w.heap.size w W) => show W.cell? (ad.add (k * 2)) = some (.string X) from by
                    obtain ⟨ad', e1, e2, _⟩ := HX.out.at_ hb hgo
                    injection e1 with e1
                    subst e1
                    rw [hX]; exact e2)
                  rw [← hX] at c0
                  rw [← hDD] at c1
                  obtain ⟨o, ho⟩ : ∃ o, o = 12 + 16 * j + Bd.size := ⟨_, rfl⟩
                  rw [← ho] at hnl
                  have hc1 := fun W => put4 (total (tg L k) (dt L k)) W (by omega)
                  have hc2 := fun W => put4 o W (by omega)
                  have hc3 := fun W => put4 (dt L k).length W (by omega)
                  obtain ⟨T1, hT1⟩ : ∃ X : ByteArray, X = ⟨(byt 4 (total (tg L k) (dt L k))).toArray⟩ := ⟨_, rfl⟩
                  obtain ⟨T2, hT2⟩ : ∃ X : ByteArray, X = ⟨(byt 4 o).toArray⟩ := ⟨_, rfl⟩
                  obtain ⟨T3, hT3⟩ : ∃ X : ByteArray, X = ⟨(byt 4 (dt L k).length).toArray⟩ := ⟨_, rfl⟩
                  have z1 : T1.size = 4 := by rw [hT1]; exact byt_len 4 _
                  have z2 : T2.size = 4 := by rw [hT2]; exact byt_len 4 _
                  have z3 : T3.size = 4 := by rw [hT3]; exact byt_len 4 _
                  have q0 : ¬ 9223372036854775807 < H.size + X.size := by omega
                  have q1 : ¬ 9223372036854775807 < H.size + X.size + T1.size := by omega
                  have q2 : ¬ 9223372036854775807 < H.size + X.size + T1.size + T2.size := by omega
                  have q3 : ¬ 9223372036854775807 < H.size + X.size + T1.size + T2.size + T3.size := by omega
                  have q4 : ¬ 9223372036854775807 < Bd.size + D.size := by omega
                  have HHN := Lib.hid (show (H ++ X ++ T1 ++ T2 ++ T3 : ByteArray).data.toList = hdr j ++ dir (12 + 16 * j) (L.take (k + 1)) by
                    rw [app_list, app_list, app_list, app_list, hH, hXl, hT1, hT2, hT3, hnl]
                    simp [line])
                  rw [← hT1] at hc1
                  rw [← hT2] at hc2
                  rw [← hT3] at hc3
                  have HBD := Lib.hid (show (Bd ++ D : ByteArray).data.toList = body (L.take k) ++ dt L k by rw [app_list, hBd, hDl])
                  obtain ⟨n, hnn⟩ : ∃ n, n = (dt L k).length := ⟨_, rfl⟩
                  have HNX := Lib.hid (show body (L.take (k + 1)) = body (L.take k) ++ dt L k ++ zer (padn n) by rw [hnx, hnn]; simp [blk])
                  rw [← hnn] at hz hbl hn hble hc3
                  obtain ⟨tt, htt⟩ : ∃ n, n = total (tg L k) (dt L k) := ⟨_, rfl⟩
                  rw [← htt] at htot hc1
                  obtain ⟨bs, hbs⟩ : ∃ bs, bs = Bd.size := ⟨_, rfl⟩
                  have w1 : IntKind.u32.wrap (o : Int) = (o : Int) := by rw [IntKind.wrap_u32]; omega
                  have w2 : IntKind.u32.wrap (n : Int) = (n : Int) := by rw [IntKind.wrap_u32]; omega
                  have w3 : IntKind.i64.wrap (16 * (j : Int)) = 16 * (j : Int) := i64_in _ (by omega)
                  have w4 : IntKind.i64.wrap (12 + 16 * (j : Int)) = 12 + 16 * (j : Int) := i64_in _ (by omega)
                  have w5 : IntKind.i64.wrap (12 + 16 * (j : Int) + (bs : Int)) = (o : Int) := by rw [i64_in _ (by omega)]; omega
                  have HLN := Lib.hid (show bs % 4 = 0 ∧ bs ≤ 1048576 ∧ n ≤ 1048576 ∧ (dt L k).length = n ∧ (body (L.take k)).length = bs by omega)
                  have hbz2 : Bd.size = bs := hbs.symm
                  have C0 := Lib.hid htot
                  have C1 := Lib.hid hc1
                  have C2 := Lib.hid hc2
                  have C3 := Lib.hid hc3
                  clear hn hx4 hnx hble hbl hnl hX hDD hXl hDl hXz htot htl ho hc1 hc2 hc3 hT1 hT2 hT3 z1 z2 z3 hnn htt hbs hBz hb4 hsz hbk hdl hHz hH hBd h0 ha64 hr64 hp6
                  go_upto_region 27 with fail
                  clear c1
                  go_region_held3 (fun w' => w'.cell? (ad.add (k * 2)) = some (.string X))
                    (first | with_reducible exact KX.out _ HB5.out | with_reducible exact KX.out _ K5.out | with_reducible exact KX.out _ K6.out | with_reducible exact KX.out _ K7.out | with_reducible exact KX.out _ K8.out | go_keep)
                    (first
                      | (go_at_call 26; (with_reducible refine (C0.out _).mono ?_); rintro e w5 ⟨q, rfl, rfl⟩; have K5 := Lib.hid (below_drewN HB5.out (1 + q)))
                      | (go_at_call 24; (with_reducible refine (C1.out _).mono ?_); rintro e w6 ⟨rfl, hb⟩; have K6 := Lib.hid (K5.out.trans (hb.mono K5.out.size)); clear hb)
                      | (go_at_call 24; (with_reducible refine (C2.out _).mono ?_); rintro e w7 ⟨rfl, hb⟩; have K7 := Lib.hid (K6.out.trans (hb.mono K6.out.size)); clear hb)
                      | (go_at_call 24; (with_reducible refine (C3.out _).mono ?_); rintro e w8 ⟨rfl, hb⟩; have K8 := Lib.hid (K7.out.trans (hb.mono K7.out.size)); clear hb))
                  go_wp2_with fail
                  go_loopg [11] (padn n) (fun gh x wi => ∃ (i : Nat) (B2 : ByteArray), gh + i = padn n ∧ x = .string B2 ∧ B2.data.toList = body (L.take k) ++ dt L k ++ zer i ∧ Below w.heap.size w wi)
                  case atStart => exact ⟨0, _, rfl, rfl, by rw [HBD.out]; simp [zer], K8.out⟩
                  case round =>
                    obtain ⟨i, B2, hi, rfl, hB2, hb⟩ := hrel
                    have HB6 := Lib.hid hb
                    clear hb
                    obtain ⟨y1, y2, y3, y4, y5⟩ := HLN.out
                    obtain ⟨s, hs⟩ : ∃ s, s = B2.size := ⟨_, rfl⟩
                    have hsz2 : s = bs + n + i := by rw [hs, ← size_list, hB2, List.length_append, List.length_append, y4, y5]; simp [zer]
                    have hsz3 : B2.size = s := hs.symm
                    have hpn : padn n < 4 ∧ (n + padn n) % 4 = 0 := by unfold padn; omega
                    rcases gk with _ | g
                    · have hs4 : s % 4 = 0 := by omega
                      have e1 : ((s : Int) % 4 != 0) = false := by simp; omega
                      have e2 : ((s : Int).tmod 4 != 0) = false := by rw [Int.tmod_eq_emod_of_nonneg (by omega)]; exact e1
                      have HBN := Lib.hid (show B2.data.toList = body (L.take (k + 1)) by rw [hB2, HNX.out, show i = padn n by omega])
                      clear hs4 hsz2 hs hB2 hi hpn y1 y2 y3 y4 y5
                      go_wp2_with fail
                      exact ⟨⟨k + 1, _, B2, by simp, by omega, rfl, rfl, HHN.out, HBN.out, HB6.out⟩, by simp [intOf]; omega⟩
                    · have hs4 : s % 4 ≠ 0 := by omega
                      have e1 : ((s : Int) % 4 != 0) = true := by simp; omega
                      have e2 : ((s : Int).tmod 4 != 0) = true := by rw [Int.tmod_eq_emod_of_nonneg (by omega)]; exact e1
                      have q5 : ¬ 9223372036854775807 < s + 1 := by omega
                      have HBN := Lib.hid (show (B2 ++ ⟨#[0]⟩ : ByteArray).data.toList = body (L.take k) ++ dt L k ++ zer (i + 1) by
                        rw [app_list, hB2]
                        simp [zer, List.replicate_succ'])
                      have HGI := Lib.hid (show g + (i + 1) = padn n by omega)
                      clear hs4 hsz2 hs hB2 hi hpn y1 y2 y3 y4 y5
                      go_wp2_with fail
                      go_roundg g
                      case measure => omega
                      case rel => exact ⟨i + 1, _, HGI.out, rfl, HBN.out, HB6.out⟩
                · have hkj : k = j := by omega
                  subst hkj
                  have q5 : ¬ 9223372036854775807 < H.size + Bd.size := by omega
                  have HFN := Lib.hid (show (H ++ Bd : ByteArray) = ⟨(mkF L).toArray⟩ from of_list (by
                    rw [app_list, hH, hBd, show L.take k = L by rw [← HL.out, List.take_length]]
                    unfold mkF
                    rw [HL.out]))
                  clear hH hBd hHz hBz hdl hb4 hbk hsz
                  go_wp2_with fail
                  go_ret2
                  exact ⟨(by rw [HFN.out] <;> rfl), HB5.out⟩
theorem rmake_any (A : Option Addr) (m c : Nat) (L : List (List UInt8 × List UInt8)) (w : World) (h : Tl w A m L) (hm : m ≤ 1000000) (hd : ∀ i, i < m → (dt L i).length ≤ 900000) :
    Calls Try.prog 8 #[.slice A m c] w fun e w' => e = .returned (.tuple #[.string ⟨(mkS L).toArray⟩, .int .i64 (mkE L)]) ∧ Below w.heap.size w w' := by
  unfold mkS
  by_cases hE : mkE L = 0
  · rw [if_pos hE, hE]
    exact rmake_main A m c L w h hE hd
  · rw [if_neg hE]
    exact rmake_none A m c L w h hm hd hE
end Go.Proofs.Ytlidagofjkilgaa
