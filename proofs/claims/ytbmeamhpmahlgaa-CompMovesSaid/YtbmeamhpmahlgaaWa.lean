/- Proved here: what the document's Make answers. Condition: parts that lie in memory, at most 100000 of them. -/
import Derived.Test.YtbmeamhpmahlgaaVc
namespace Go.Proofs.Ytbmeamhpmahlgaa
open Go.RowKit

set_option maxHeartbeats 1000000 in
theorem rp16_any (n : Int) (w : World) : Calls Try.prog 22 #[.int .i64 n] w fun e w' => e = .returned (.string ⟨(u2 n).toArray⟩) ∧ Below w.heap.size w w' := by
  have e1 := wrap_u16i n
  obtain ⟨m, hm⟩ : ∃ m, m = (n % 65536).toNat := ⟨_, rfl⟩
  have hm2 : m < 65536 := by omega
  have C := Lib.hid (fun W => put_any m 2 W (by omega) (by omega))
  have C : Hid (∀ W, Calls Try.prog 20 #[.int .u32 (m : Int), .int .i64 2] W fun e w' => e = .returned (.string ⟨(byt 2 m).toArray⟩) ∧ Below W.heap.size W w') := C
  have e2 : IntKind.u32.wrap (m : Int) = (m : Int) := by rw [IntKind.wrap_u32]; omega
  unfold u2
  rw [← hm] at e1 ⊢
  clear hm
  go_enter Try.func22, Try.ntmps22
  go_wp2_with (go_at_call 20; (with_reducible refine (C.out _).mono ?_); rintro e w1 ⟨rfl, hb⟩; have HB := Lib.hid hb; clear hb)
  go_ret
  exact ⟨rfl, HB.out⟩
theorem MS.six {w W : World} {b : Nat} {p : Prt} (s : MS w W b p) : W.cell? ⟨b, 1, none⟩ = some (.int .i64 p.2.1) ∧ W.cell? ⟨b, 2, none⟩ = some (.int .i64 p.2.2.1) ∧ W.cell? ⟨b, 3, none⟩ = some (.int .i64 p.2.2.2.1) ∧ W.cell? ⟨b, 4, none⟩ = some (.int .i64 p.2.2.2.2.1) ∧ W.cell? ⟨b, 5, none⟩ = some (.int .i64 p.2.2.2.2.2.1) ∧ W.cell? ⟨b, 6, none⟩ = some (.int .i64 p.2.2.2.2.2.2) := s.cells.2
theorem MS.zero {w W : World} {b : Nat} {p : Prt} (s : MS w W b p) : W.cell? ⟨b, 0, none⟩ = some (.int .i64 p.1) := s.cells.1
theorem txt_size (l : List UInt8) : (⟨l.toArray⟩ : ByteArray).size = l.length := by simp [ByteArray.size]
theorem mvB_le (p : Prt) : mvB p ≤ 1 := by unfold mvB; split <;> omega
theorem nuB_le (p : Prt) : nuB p ≤ 128 := by unfold nuB; (repeat' split) <;> omega
theorem nuB_flg (p : Prt) (b : Bool) : flg p b = 2 + (if b then 0 else 32) + mvB p + nuB p := by unfold flg; omega
set_option maxHeartbeats 16000000 in
set_option maxRecDepth 100000 in
theorem rmake_any (A : Option Addr) (m c : Nat) (L : List Prt) (w : World) (hP : Prl w A m L) (hm : m ≤ 100000) :
    Calls Try.prog 8 #[.slice A m c] w fun e w' => e = .returned (.tuple #[.string ⟨(mkB L).toArray⟩, .int .i64 (mkE L)]) ∧ Below w.heap.size w w' := by
  have hlen := hP.len
  have CM := Lib.hid (rmay_any A m c L 1024 w hP hm)
  by_cases hM : MayL L 1024
  rotate_left
  · rw [decide_eq_false hM] at CM
    have tE : mkE L = 1 := by unfold mkE; rw [if_neg hM]
    have tB : mkB L = [] := by unfold mkB; rw [if_neg hM]
    rw [tE, tB]
    clear hP hm hM hlen tE tB
    go_enter Try.func8, Try.ntmps8
    go_wp2_with (go_at_call 10; (with_reducible refine CM.out.mono ?_); rintro e w1 ⟨rfl, hb⟩; have B1 := Lib.hid hb; clear hb)
    go_ret2
    exact ⟨rfl, B1.out⟩
  rw [decide_eq_true hM] at CM
  have h64 : m ≤ 64 := by have := hM.2.1.2; omega
  have tE : mkE L = 0 := by unfold mkE; rw [if_pos hM]
  have tB : mkB L = hdE ++ pkE L m := by unfold mkB; rw [if_pos hM, hlen]
  rw [tE, tB]
  have HI := Lib.hid hP
  have HLen := Lib.hid hlen
  clear hP hm hM hlen tE tB
  go_enter Try.func8, Try.ntmps8
  go_wp2_with (go_at_call 10; (with_reducible refine CM.out.mono ?_); rintro e w1 ⟨rfl, hb⟩; have B1 := Lib.hid hb; clear hb)
  go_loopw [4, 5] (fun s i wr => ∃ k : Nat, i = .int .i64 (k : Int) ∧ k ≤ m ∧ s = .string ⟨(hdE ++ pkE L k).toArray⟩ ∧ Below w.heap.size w wr) (fun _ i _ => m - (intOf i).toNat)
  case atStart => exact ⟨0, rfl, Nat.zero_le _, rfl, B1.out⟩
  case round =>
    obtain ⟨k, rfl, hk, rfl, hb⟩ := hrel
    have HB := Lib.hid hb
    by_cases hgo : k < m
    · obtain ⟨ad, rfl, hc⟩ := HI.out.at_ hb hgo
      obtain ⟨p, hp⟩ : ∃ p, p = qp L k := ⟨_, rfl⟩
      rw [← hp] at hc
      have HQq := Lib.hid hp
      have hll := pkE_len L k
      obtain ⟨pg, px, py, pa, pb, pc, pd⟩ := p
      obtain ⟨c0, c1, c2, c3, c4, c5, c6⟩ := hc
      dsimp only at c0 c1 c2 c3 c4 c5 c6
      obtain ⟨S0, hS0⟩ : ∃ D : ByteArray, D = ⟨(hdE ++ pkE L k).toArray⟩ := ⟨_, rfl⟩
      rw [← hS0]
      have zS : S0.size ≤ 1034 := by rw [hS0, txt_size, List.length_append]; show 10 + _ ≤ 1034; omega
      obtain ⟨lz, hlz⟩ : ∃ z : Nat, z = if decide (k + 1 = m) = true then 0 else 32 := ⟨_, rfl⟩
      have HLZ := Lib.hid hlz
      have HS0 := Lib.hid hS0
      have H := Lib.hid (show MS w (wr.alloc (.cells #[.int .i64 pg, .int .i64 px, .int .i64 py, .int .i64 pa, .int .i64 pb, .int .i64 pc, .int .i64 pd] 38)) wr.heap.size (pg, px, py, pa, pb, pc, pd) from ⟨HB.out.alloc HB.out.size _, Bp.new wr pg px py pa pb pc pd⟩)
      clear hb hp hll hlz hS0
      go_upto_if 28 with fail
      generalize wr.heap.size = hb1 at H ⊢
      generalize wr.alloc (.cells #[.int .i64 pg, .int .i64 px, .int .i64 py, .int .i64 pa, .int .i64 pb, .int .i64 pc, .int .i64 pd] 38) = W1 at H ⊢
      clear c0 c1 c2 c3 c4 c5 c6
      go_cut [7] from 14 to 131 (fun s wx => s = .int .i64 ((2 + lz : Nat) : Int) ∧ MS w wx hb1 (pg, px, py, pa, pb, pc, pd))
      case first =>
        by_cases hl : k + 1 = m
        · have e9 : decide ((k : Int) < (m : Int) - 1) = false := decide_eq_false (by omega)
          have e8 : lz = 0 := by rw [HLZ.out, decide_eq_true hl, if_pos rfl]
          go_wp2_with fail
          go_meet
          exact ⟨by rw [e8]; rfl, H.out⟩
        · have e9 : decide ((k : Int) < (m : Int) - 1) = true := decide_eq_true (by omega)
          have e8 : lz = 32 := by rw [HLZ.out, decide_eq_false hl, if_neg (by decide)]
          go_wp2_with fail
          go_meet
          exact ⟨by rw [e8]; rfl, H.out⟩
      case rest =>
        obtain ⟨rfl, hms⟩ := hcut
        have H := Lib.hid hms
        clear hms
        have l1 : (px % 256).toNat < 256 := by omega
        have l2 : (py % 256).toNat < 256 := by omega
        have z1 := wrap_u8i px
        have z2 := wrap_u8i py
        obtain ⟨p1, hp1⟩ : ∃ p, p = (px % 256).toNat := ⟨_, rfl⟩
        obtain ⟨p2, hp2⟩ : ∃ p, p = (py % 256).toNat := ⟨_, rfl⟩
        rw [← hp1] at z1 l1
        rw [← hp2] at z2 l2
        have z3 : IntKind.u32.wrap (p1 : Int) = (p1 : Int) := by rw [IntKind.wrap_u32]; omega
        have z4 : IntKind.u32.wrap (p2 : Int) = (p2 : Int) := by rw [IntKind.wrap_u32]; omega
        obtain ⟨Da, hDa⟩ : ∃ D : ByteArray, D = ⟨(u1 px).toArray⟩ := ⟨_, rfl⟩
        obtain ⟨Db, hDb⟩ : ∃ D : ByteArray, D = ⟨(u1 py).toArray⟩ := ⟨_, rfl⟩
        have Ca := Lib.hid (show ∀ W, Calls Try.prog 20 #[.int .u32 (p1 : Int), .int .i64 1] W fun e w' => e = .returned (.string Da) ∧ Below W.heap.size W w' from fun W => by rw [hDa]; unfold u1; rw [← hp1]; exact put_any p1 1 W (by omega) (by omega))
        have Cb := Lib.hid (show ∀ W, Calls Try.prog 20 #[.int .u32 (p2 : Int), .int .i64 1] W fun e w' => e = .returned (.string Db) ∧ Below W.heap.size W w' from fun W => by rw [hDb]; unfold u1; rw [← hp2]; exact put_any p2 1 W (by omega) (by omega))
        have y1 : ¬ 9223372036854775807 < Da.size + Db.size := by rw [hDa, hDb, txt_size, txt_size, u1_len, u1_len]; omega
        have HDab := Lib.hid (show Da ++ Db = (⟨(u1 px ++ u1 py).toArray⟩ : ByteArray) from by rw [hDa, hDb, app_txt])
        clear hp1 hp2 l1 l2 hDa hDb
        obtain ⟨f1, hf1⟩ : ∃ f, f = 2 + lz := ⟨_, rfl⟩
        have hf1b : f1 ≤ 34 := by have h := HLZ.out; split at h <;> omega
        rw [← hf1]
        have HF1 := Lib.hid hf1
        clear hf1
        go_upto_region 11 with fail
        obtain ⟨c1, c2⟩ := H.out.two
        go_region_held3 (fun w' => w'.cell? ⟨hb1, 1, none⟩ = some (.int .i64 px) ∧ w'.cell? ⟨hb1, 2, none⟩ = some (.int .i64 py))
          (first | with_reducible exact H.out.two | go_keep)
          (first
            | (go_at_call 20; (with_reducible refine (Ca.out _).mono ?_); rintro e wx ⟨rfl, hb⟩; (first | have H := Lib.hid (H.out.next hb) | have H := Lib.hid (H.out.drew.next hb)); clear hb)
            | (go_at_call 20; (with_reducible refine (Cb.out _).mono ?_); rintro e wx ⟨rfl, hb⟩; (first | have H := Lib.hid (H.out.next hb) | have H := Lib.hid (H.out.drew.next hb)); clear hb))
        go_upto_region 12 with fail
        clear z1 z2 z3 z4 y1
        go_cut [51] from 14 to 131 (fun s wx => s = .bool (!decide (tin px ∧ tin py)) ∧ MS w wx hb1 (pg, px, py, pa, pb, pc, pd))
        case first =>
          obtain ⟨c1, c2⟩ := H.out.two
          have CX := Lib.hid (fun W => rtiny_any px W)
          have CY := Lib.hid (fun W => rtiny_any py W)
          by_cases k1 : tin px
          · rw [decide_eq_true k1] at CX
            by_cases k2 : tin py
            · rw [decide_eq_true k2] at CY
              have HK := Lib.hid (show decide (tin px ∧ tin py) = true from decide_eq_true ⟨k1, k2⟩)
              clear k1 k2
              go_wp2_with (first
                | (go_at_call 21; (with_reducible refine (CX.out _).mono ?_); rintro e w' ⟨rfl, rfl⟩)
                | (go_at_call 21; (with_reducible refine (CY.out _).mono ?_); rintro e w' ⟨rfl, rfl⟩))
              go_meet
              exact ⟨by rw [HK.out]; rfl, H.out⟩
            · rw [decide_eq_false k2] at CY
              have HK := Lib.hid (show decide (tin px ∧ tin py) = false from decide_eq_false (fun h => k2 h.2))
              clear k1 k2
              go_wp2_with (first
                | (go_at_call 21; (with_reducible refine (CX.out _).mono ?_); rintro e w' ⟨rfl, rfl⟩)
                | (go_at_call 21; (with_reducible refine (CY.out _).mono ?_); rintro e w' ⟨rfl, rfl⟩))
              go_meet
              exact ⟨by rw [HK.out]; rfl, H.out⟩
          · rw [decide_eq_false k1] at CX
            have HK := Lib.hid (show decide (tin px ∧ tin py) = false from decide_eq_false (fun h => k1 h.1))
            clear k1
            go_wp2_with (first
              | (go_at_call 21; (with_reducible refine (CX.out _).mono ?_); rintro e w' ⟨rfl, rfl⟩)
              | (go_at_call 21; (with_reducible refine (CY.out _).mono ?_); rintro e w' ⟨rfl, rfl⟩))
            go_meet
            exact ⟨by rw [HK.out]; rfl, H.out⟩
        case rest =>
          obtain ⟨rfl, hms⟩ := hcut
          have H := Lib.hid hms
          clear hms c1 c2
          go_upto_if 51 with fail
          go_cut [7, 8] from 14 to 131 (fun s7 s8 wx => s7 = .int .i64 ((f1 + mvB (pg, px, py, pa, pb, pc, pd) : Nat) : Int) ∧ s8 = .string ⟨(mvE (pg, px, py, pa, pb, pc, pd)).toArray⟩ ∧ MS w wx hb1 (pg, px, py, pa, pb, pc, pd))
          case first =>
            by_cases kt : tin px ∧ tin py
            · have m1 : mvB (pg, px, py, pa, pb, pc, pd) = 0 := by unfold mvB; rw [if_pos kt]
              have m2 : mvE (pg, px, py, pa, pb, pc, pd) = u1 px ++ u1 py := by unfold mvE; rw [if_pos kt]
              have HM := Lib.hid (And.intro m1 m2)
              rw [decide_eq_true kt]
              clear kt m1 m2
              go_wp2_with fail
              go_meet
              exact ⟨by rw [HM.out.1]; rfl, by rw [HM.out.2, ← HDab.out], H.out⟩
            · have m1 : mvB (pg, px, py, pa, pb, pc, pd) = 1 := by unfold mvB; rw [if_neg kt]
              have m2 : mvE (pg, px, py, pa, pb, pc, pd) = u2 px ++ u2 py := by unfold mvE; rw [if_neg kt]
              have HM := Lib.hid (And.intro m1 m2)
              rw [decide_eq_false kt]
              obtain ⟨D0, hD0⟩ : ∃ D : ByteArray, D = ⟨(u2 px).toArray⟩ := ⟨_, rfl⟩
              have C0 := Lib.hid (show ∀ W, Calls Try.prog 22 #[.int .i64 px] W fun e w' => e = .returned (.string D0) ∧ Below W.heap.size W w' from fun W => by rw [hD0]; exact rp16_any px W)
              have s0 : D0.size = 2 := by rw [hD0]; exact u2_len px
              obtain ⟨D1, hD1⟩ : ∃ D : ByteArray, D = ⟨(u2 py).toArray⟩ := ⟨_, rfl⟩
              have C1 := Lib.hid (show ∀ W, Calls Try.prog 22 #[.int .i64 py] W fun e w' => e = .returned (.string D1) ∧ Below W.heap.size W w' from fun W => by rw [hD1]; exact rp16_any py W)
              have s1 : D1.size = 2 := by rw [hD1]; exact u2_len py
              have y1 : ¬ 9223372036854775807 < D0.size + D1.size := by omega
              have HR := Lib.hid (show D0 ++ D1 = (⟨(u2 px ++ u2 py).toArray⟩ : ByteArray) from by rw [hD0, hD1, app_txt])
              clear hD0 hD1 s0 s1
              clear kt m1 m2
              go_upto_region 14 with fail
              obtain ⟨c1, c2⟩ := H.out.two
              go_region_held3 (fun w' => w'.cell? ⟨hb1, 1, none⟩ = some (.int .i64 px) ∧ w'.cell? ⟨hb1, 2, none⟩ = some (.int .i64 py))
                (first | with_reducible exact H.out.two | go_keep)
                (first
                  | (go_at_call 22; (with_reducible refine (C0.out _).mono ?_); rintro e wx ⟨rfl, hb⟩; (first | have H := Lib.hid (H.out.next hb) | have H := Lib.hid (H.out.drew.next hb)); clear hb)
                                    | (go_at_call 22; (with_reducible refine (C1.out _).mono ?_); rintro e wx ⟨rfl, hb⟩; (first | have H := Lib.hid (H.out.next hb) | have H := Lib.hid (H.out.drew.next hb)); clear hb))
              go_wp2_with fail
              go_meet
              exact ⟨by rw [HM.out.1]; rfl, by rw [HM.out.2, ← HR.out], H.out⟩
          case rest =>
            obtain ⟨rfl, rfl, hms⟩ := hcut
            have H := Lib.hid hms
            clear hms
            have q8b := (mvE_len (pg, px, py, pa, pb, pc, pd)).2
            have q9b := nuE_len (pg, px, py, pa, pb, pc, pd)
            have hmv := mvB_le (pg, px, py, pa, pb, pc, pd)
            have hnu := nuB_le (pg, px, py, pa, pb, pc, pd)
            obtain ⟨f2, hf2⟩ : ∃ f, f = f1 + mvB (pg, px, py, pa, pb, pc, pd) := ⟨_, rfl⟩
            rw [← hf2]
            have hf2b : f2 ≤ 35 := by omega
            have HF2 := Lib.hid hf2
            obtain ⟨D8, hD8⟩ : ∃ D : ByteArray, D = ⟨(mvE (pg, px, py, pa, pb, pc, pd)).toArray⟩ := ⟨_, rfl⟩
            rw [← hD8]
            have z8 : D8.size ≤ 4 := by rw [hD8, txt_size]; exact q8b
            have HD8 := Lib.hid hD8
            clear hf2 hD8 q8b hmv
            obtain ⟨pl, hpl⟩ : ∃ q : Bool, q = decide (pb = 0 ∧ pc = 0) := ⟨_, rfl⟩
            have HPL := Lib.hid hpl
            clear hpl
            go_upto_region 16 with fail
            go_cut [10] from 14 to 131 (fun s wx => s = .bool pl ∧ MS w wx hb1 (pg, px, py, pa, pb, pc, pd))
            case first =>
              obtain ⟨c0, c1, c2, c3, c4, c5, c6⟩ := H.out.cells
              by_cases k1 : pb = 0
              · by_cases k2 : pc = 0
                · have HK := Lib.hid (show decide (pb = 0 ∧ pc = 0) = true from decide_eq_true ⟨k1, k2⟩)
                  have e1 : (pb == 0) = true := by simp [k1]
                  have e2 : (pc == 0) = true := by simp [k2]
                  clear k1 k2
                  go_wp2_with fail
                  go_meet
                  exact ⟨by rw [HPL.out, HK.out], H.out⟩
                · have HK := Lib.hid (show decide (pb = 0 ∧ pc = 0) = false from decide_eq_false (fun h => k2 h.2))
                  have e1 : (pb == 0) = true := by simp [k1]
                  have e2 : (pc == 0) = false := by simp [k2]
                  clear k1 k2
                  go_wp2_with fail
                  go_meet
                  exact ⟨by rw [HPL.out, HK.out], H.out⟩
              · have HK := Lib.hid (show decide (pb = 0 ∧ pc = 0) = false from decide_eq_false (fun h => k1 h.1))
                have e1 : (pb == 0) = false := by simp [k1]
                clear k1
                go_wp2_with fail
                go_meet
                exact ⟨by rw [HPL.out, HK.out], H.out⟩
            case rest =>
              obtain ⟨rfl, hms⟩ := hcut
              have H := Lib.hid hms
              clear hms
              go_upto_region 17 with fail
              go_cut [79] from 14 to 131 (fun s wx => s = .bool (decide ((pb = 0 ∧ pc = 0) ∧ pa = 16384 ∧ pd = 16384)) ∧ MS w wx hb1 (pg, px, py, pa, pb, pc, pd))
              case first =>
                obtain ⟨c0, c1, c2, c3, c4, c5, c6⟩ := H.out.cells
                by_cases k1 : pb = 0 ∧ pc = 0
                · by_cases k2 : pa = 16384
                  · by_cases k3 : pd = 16384
                    · have HK := Lib.hid (show decide ((pb = 0 ∧ pc = 0) ∧ pa = 16384 ∧ pd = 16384) = true from decide_eq_true ⟨k1, k2, k3⟩)
                      have e2 : (pa == 16384) = true := by simp [k2]
                      have e3 : (pd == 16384) = true := by simp [k3]
                      obtain rfl : pl = true := by rw [HPL.out, decide_eq_true k1]
                      clear k1 k2 k3
                      go_wp2_with fail
                      go_meet
                      exact ⟨by rw [HK.out], H.out⟩
                    · have HK := Lib.hid (show decide ((pb = 0 ∧ pc = 0) ∧ pa = 16384 ∧ pd = 16384) = false from decide_eq_false (fun h => k3 h.2.2))
                      have e2 : (pa == 16384) = true := by simp [k2]
                      have e3 : (pd == 16384) = false := by simp [k3]
                      obtain rfl : pl = true := by rw [HPL.out, decide_eq_true k1]
                      clear k1 k2 k3
                      go_wp2_with fail
                      go_meet
                      exact ⟨by rw [HK.out], H.out⟩
                  · have HK := Lib.hid (show decide ((pb = 0 ∧ pc = 0) ∧ pa = 16384 ∧ pd = 16384) = false from decide_eq_false (fun h => k2 h.2.1))
                    have e2 : (pa == 16384) = false := by simp [k2]
                    obtain rfl : pl = true := by rw [HPL.out, decide_eq_true k1]
                    clear k1 k2
                    go_wp2_with fail
                    go_meet
                    exact ⟨by rw [HK.out], H.out⟩
                · have HK := Lib.hid (show decide ((pb = 0 ∧ pc = 0) ∧ pa = 16384 ∧ pd = 16384) = false from decide_eq_false (fun h => k1 h.1))
                  obtain rfl : pl = false := by rw [HPL.out, decide_eq_false k1]
                  clear k1
                  go_wp2_with fail
                  go_meet
                  exact ⟨by rw [HK.out], H.out⟩
              case rest =>
                obtain ⟨rfl, hms⟩ := hcut
                have H := Lib.hid hms
                clear hms
                go_upto_if 79 with fail
                go_cut [7, 9] from 14 to 131 (fun s7 s9 wx => s7 = .int .i64 ((f2 + nuB (pg, px, py, pa, pb, pc, pd) : Nat) : Int) ∧ s9 = .string ⟨(nuE (pg, px, py, pa, pb, pc, pd)).toArray⟩ ∧ MS w wx hb1 (pg, px, py, pa, pb, pc, pd))
                case first =>
                  by_cases k1 : pb = 0 ∧ pc = 0
                  · have g1 : ¬ (pb ≠ 0 ∨ pc ≠ 0) := fun h => h.elim (fun h => h k1.1) (fun h => h k1.2)
                    by_cases k2 : pa = pd
                    · by_cases k3 : pa = 16384
                      · have m1 : nuB (pg, px, py, pa, pb, pc, pd) = 0 := by unfold nuB; rw [if_neg g1, if_neg (fun h => h k2), if_neg (fun h => h k3)]
                        have m2 : nuE (pg, px, py, pa, pb, pc, pd) = [] := by unfold nuE; rw [if_neg g1, if_neg (fun h => h k2), if_neg (fun h => h k3)]
                        have HM := Lib.hid (And.intro m1 m2)
                        rw [decide_eq_true (show (pb = 0 ∧ pc = 0) ∧ pa = 16384 ∧ pd = 16384 from ⟨k1, k3, by rw [← k2]; exact k3⟩)]
                        obtain rfl : pl = true := by rw [HPL.out, decide_eq_true k1]
                        clear k1 k2 k3 g1 m1 m2
                        go_wp2_with fail
                        go_meet
                        exact ⟨by rw [HM.out.1]; rfl, by rw [HM.out.2], H.out⟩
                      · have m1 : nuB (pg, px, py, pa, pb, pc, pd) = 8 := by unfold nuB; rw [if_neg g1, if_neg (fun h => h k2), if_pos k3]
                        have m2 : nuE (pg, px, py, pa, pb, pc, pd) = u2 pa := by unfold nuE; rw [if_neg g1, if_neg (fun h => h k2), if_pos k3]
                        have HM := Lib.hid (And.intro m1 m2)
                        have e1 : (pa == pd) = true := by simp [k2]
                        have C0 := Lib.hid (fun W => rp16_any pa W)
                        rw [decide_eq_false (show ¬ ((pb = 0 ∧ pc = 0) ∧ pa = 16384 ∧ pd = 16384) from fun h => k3 h.2.1)]
                        obtain rfl : pl = true := by rw [HPL.out, decide_eq_true k1]
                        obtain ⟨c0, c1, c2, c3, c4, c5, c6⟩ := H.out.cells
                        clear k1 k2 k3 g1 m1 m2
                        go_wp2_with (go_at_call 22; (with_reducible refine (C0.out _).mono ?_); rintro e wx ⟨rfl, hb⟩; have H := Lib.hid (H.out.next hb); clear hb)
                        go_meet
                        exact ⟨by rw [HM.out.1]; rfl, by rw [HM.out.2], H.out⟩
                    · have m1 : nuB (pg, px, py, pa, pb, pc, pd) = 64 := by unfold nuB; rw [if_neg g1, if_pos k2]
                      have m2 : nuE (pg, px, py, pa, pb, pc, pd) = u2 pa ++ u2 pd := by unfold nuE; rw [if_neg g1, if_pos k2]
                      have HM := Lib.hid (And.intro m1 m2)
                      have e1 : (pa == pd) = false := by simp [k2]
                      rw [decide_eq_false (show ¬ ((pb = 0 ∧ pc = 0) ∧ pa = 16384 ∧ pd = 16384) from fun h => k2 (by rw [h.2.1, h.2.2]))]
                      obtain rfl : pl = true := by rw [HPL.out, decide_eq_true k1]
                      obtain ⟨D0, hD0⟩ : ∃ D : ByteArray, D = ⟨(u2 pa).toArray⟩ := ⟨_, rfl⟩
                      have C0 := Lib.hid (show ∀ W, Calls Try.prog 22 #[.int .i64 pa] W fun e w' => e = .returned (.string D0) ∧ Below W.heap.size W w' from fun W => by rw [hD0]; exact rp16_any pa W)
                      have s0 : D0.size = 2 := by rw [hD0]; exact u2_len pa
                      obtain ⟨D1, hD1⟩ : ∃ D : ByteArray, D = ⟨(u2 pd).toArray⟩ := ⟨_, rfl⟩
                      have C1 := Lib.hid (show ∀ W, Calls Try.prog 22 #[.int .i64 pd] W fun e w' => e = .returned (.string D1) ∧ Below W.heap.size W w' from fun W => by rw [hD1]; exact rp16_any pd W)
                      have s1 : D1.size = 2 := by rw [hD1]; exact u2_len pd
                      have y1 : ¬ 9223372036854775807 < D0.size + D1.size := by omega
                      have HR := Lib.hid (show D0 ++ D1 = (⟨(u2 pa ++ u2 pd).toArray⟩ : ByteArray) from by rw [hD0, hD1, app_txt])
                      clear hD0 hD1 s0 s1
                      obtain ⟨c0, c1, c2, c3, c4, c5, c6⟩ := H.out.cells
                      clear k1 k2 g1 m1 m2
                      go_upto_region 24 with fail
                      clear c0 c1 c2 c3 c4 c5 c6
                      obtain ⟨c3, c6⟩ := H.out.ad
                      go_region_held3 (fun w' => w'.cell? ⟨hb1, 3, none⟩ = some (.int .i64 pa) ∧ w'.cell? ⟨hb1, 6, none⟩ = some (.int .i64 pd))
                        (first | with_reducible exact H.out.ad | go_keep)
                        (first
                          | (go_at_call 22; (with_reducible refine (C0.out _).mono ?_); rintro e wx ⟨rfl, hb⟩; (first | have H := Lib.hid (H.out.next hb) | have H := Lib.hid (H.out.drew.next hb)); clear hb)
                                    | (go_at_call 22; (with_reducible refine (C1.out _).mono ?_); rintro e wx ⟨rfl, hb⟩; (first | have H := Lib.hid (H.out.next hb) | have H := Lib.hid (H.out.drew.next hb)); clear hb))
                      go_wp2_with fail
                      go_meet
                      exact ⟨by rw [HM.out.1]; rfl, by rw [HM.out.2, ← HR.out], H.out⟩
                  · have g1 : pb ≠ 0 ∨ pc ≠ 0 := by
                      by_cases h : pb = 0
                      · exact .inr fun h2 => k1 ⟨h, h2⟩
                      · exact .inl h
                    have m1 : nuB (pg, px, py, pa, pb, pc, pd) = 128 := by unfold nuB; rw [if_pos g1]
                    have m2 : nuE (pg, px, py, pa, pb, pc, pd) = u2 pa ++ u2 pb ++ u2 pc ++ u2 pd := by unfold nuE; rw [if_pos g1]
                    have HM := Lib.hid (And.intro m1 m2)
                    rw [decide_eq_false (show ¬ ((pb = 0 ∧ pc = 0) ∧ pa = 16384 ∧ pd = 16384) from fun h => k1 h.1)]
                    obtain rfl : pl = false := by rw [HPL.out, decide_eq_false k1]
                    obtain ⟨D0, hD0⟩ : ∃ D : ByteArray, D = ⟨(u2 pa).toArray⟩ := ⟨_, rfl⟩
                    have C0 := Lib.hid (show ∀ W, Calls Try.prog 22 #[.int .i64 pa] W fun e w' => e = .returned (.string D0) ∧ Below W.heap.size W w' from fun W => by rw [hD0]; exact rp16_any pa W)
                    have s0 : D0.size = 2 := by rw [hD0]; exact u2_len pa
                    obtain ⟨D1, hD1⟩ : ∃ D : ByteArray, D = ⟨(u2 pb).toArray⟩ := ⟨_, rfl⟩
                    have C1 := Lib.hid (show ∀ W, Calls Try.prog 22 #[.int .i64 pb] W fun e w' => e = .returned (.string D1) ∧ Below W.heap.size W w' from fun W => by rw [hD1]; exact rp16_any pb W)
                    have s1 : D1.size = 2 := by rw [hD1]; exact u2_len pb
                    obtain ⟨D2, hD2⟩ : ∃ D : ByteArray, D = ⟨(u2 pc).toArray⟩ := ⟨_, rfl⟩
                    have C2 := Lib.hid (show ∀ W, Calls Try.prog 22 #[.int .i64 pc] W fun e w' => e = .returned (.string D2) ∧ Below W.heap.size W w' from fun W => by rw [hD2]; exact rp16_any pc W)
                    have s2 : D2.size = 2 := by rw [hD2]; exact u2_len pc
                    obtain ⟨D3, hD3⟩ : ∃ D : ByteArray, D = ⟨(u2 pd).toArray⟩ := ⟨_, rfl⟩
                    have C3 := Lib.hid (show ∀ W, Calls Try.prog 22 #[.int .i64 pd] W fun e w' => e = .returned (.string D3) ∧ Below W.heap.size W w' from fun W => by rw [hD3]; exact rp16_any pd W)
                    have s3 : D3.size = 2 := by rw [hD3]; exact u2_len pd
                    have y1 : ¬ 9223372036854775807 < D0.size + D1.size := by omega
                    have y2 : ¬ 9223372036854775807 < D0.size + D1.size + D2.size := by omega
                    have y3 : ¬ 9223372036854775807 < D0.size + D1.size + D2.size + D3.size := by omega
                    have HR := Lib.hid (show D0 ++ D1 ++ D2 ++ D3 = (⟨(u2 pa ++ u2 pb ++ u2 pc ++ u2 pd).toArray⟩ : ByteArray) from by rw [hD0, hD1, hD2, hD3, app_txt, app_txt, app_txt])
                    clear hD0 hD1 hD2 hD3 s0 s1 s2 s3
                    clear k1 g1 m1 m2
                    go_upto_region 26 with fail
                    obtain ⟨c3, c4, c5, c6⟩ := H.out.four
                    go_region_held3 (fun w' => w'.cell? ⟨hb1, 3, none⟩ = some (.int .i64 pa) ∧ w'.cell? ⟨hb1, 4, none⟩ = some (.int .i64 pb) ∧ w'.cell? ⟨hb1, 5, none⟩ = some (.int .i64 pc) ∧ w'.cell? ⟨hb1, 6, none⟩ = some (.int .i64 pd))
                      (first | with_reducible exact H.out.four | go_keep)
                      (first
                        | (go_at_call 22; (with_reducible refine (C0.out _).mono ?_); rintro e wx ⟨rfl, hb⟩; (first | have H := Lib.hid (H.out.next hb) | have H := Lib.hid (H.out.drew.next hb)); clear hb)
                                    | (go_at_call 22; (with_reducible refine (C1.out _).mono ?_); rintro e wx ⟨rfl, hb⟩; (first | have H := Lib.hid (H.out.next hb) | have H := Lib.hid (H.out.drew.next hb)); clear hb)
                                    | (go_at_call 22; (with_reducible refine (C2.out _).mono ?_); rintro e wx ⟨rfl, hb⟩; (first | have H := Lib.hid (H.out.next hb) | have H := Lib.hid (H.out.drew.next hb)); clear hb)
                                    | (go_at_call 22; (with_reducible refine (C3.out _).mono ?_); rintro e wx ⟨rfl, hb⟩; (first | have H := Lib.hid (H.out.next hb) | have H := Lib.hid (H.out.drew.next hb)); clear hb))
                    go_wp2_with fail
                    go_meet
                    exact ⟨by rw [HM.out.1]; rfl, by rw [HM.out.2, ← HR.out], H.out⟩
                case rest =>
                  obtain ⟨rfl, rfl, hms⟩ := hcut
                  have H := Lib.hid hms
                  clear hms
                  obtain ⟨f, hf⟩ : ∃ f, f = f2 + nuB (pg, px, py, pa, pb, pc, pd) := ⟨_, rfl⟩
                  rw [← hf]
                  have hfb : f ≤ 200 := by omega
                  have hff : f = flg (pg, px, py, pa, pb, pc, pd) (decide (k + 1 = m)) := by rw [nuB_flg, hf, HF2.out, HF1.out, HLZ.out]
                  obtain ⟨D9, hD9⟩ : ∃ D : ByteArray, D = ⟨(nuE (pg, px, py, pa, pb, pc, pd)).toArray⟩ := ⟨_, rfl⟩
                  rw [← hD9]
                  have z9 : D9.size ≤ 8 := by rw [hD9, txt_size]; exact q9b
                  obtain ⟨Df, hDf⟩ : ∃ D : ByteArray, D = ⟨(byt 2 f).toArray⟩ := ⟨_, rfl⟩
                  obtain ⟨Dg, hDg⟩ : ∃ D : ByteArray, D = ⟨(u2 pg).toArray⟩ := ⟨_, rfl⟩
                  have zf : Df.size = 2 := by rw [hDf, txt_size, byt_len]
                  have zg : Dg.size = 2 := by rw [hDg, txt_size, u2_len]
                  have Cf := Lib.hid (show ∀ W, Calls Try.prog 22 #[.int .i64 (f : Int)] W fun e w' => e = .returned (.string Df) ∧ Below W.heap.size W w' from fun W => by
                    rw [hDf, show byt 2 f = u2 (f : Int) from by unfold u2; rw [show ((f : Int) % 65536).toNat = f by omega]]; exact rp16_any _ W)
                  have Cg := Lib.hid (show ∀ W, Calls Try.prog 22 #[.int .i64 pg] W fun e w' => e = .returned (.string Dg) ∧ Below W.heap.size W w' from fun W => by rw [hDg]; exact rp16_any pg W)
                  have y1 : ¬ 9223372036854775807 < S0.size + Df.size := by omega
                  have y2 : ¬ 9223372036854775807 < S0.size + Df.size + Dg.size := by omega
                  have y3 : ¬ 9223372036854775807 < S0.size + Df.size + Dg.size + D8.size := by omega
                  have y4 : ¬ 9223372036854775807 < S0.size + Df.size + Dg.size + D8.size + D9.size := by omega
                  have HR := Lib.hid (show S0 ++ Df ++ Dg ++ D8 ++ D9 = (⟨(hdE ++ pkE L (k + 1)).toArray⟩ : ByteArray) from by
                    rw [HS0.out, hDf, hDg, HD8.out, hD9, app_txt, app_txt, app_txt, app_txt, hff]
                    show _ = (⟨(hdE ++ (pkE L k ++ prE (qp L k) (decide (k + 1 = L.length)))).toArray⟩ : ByteArray)
                    rw [← HQq.out, HLen.out]
                    unfold prE
                    simp only [List.append_assoc])
                  clear hf hff hD9 hDf hDg zf zg z9 z8 hnu q9b
                  go_upto_region 27 with fail
                  have c0 := H.out.zero
                  go_region_held3 (fun w' => w'.cell? ⟨hb1, 0, none⟩ = some (.int .i64 pg))
                    (first | with_reducible exact H.out.zero | go_keep)
                    (first
                      | (go_at_call 22; (with_reducible refine (Cf.out _).mono ?_); rintro e wx ⟨rfl, hb⟩; (first | have H := Lib.hid (H.out.next hb) | have H := Lib.hid (H.out.drew.next hb)); clear hb)
                      | (go_at_call 22; (with_reducible refine (Cg.out _).mono ?_); rintro e wx ⟨rfl, hb⟩; (first | have H := Lib.hid (H.out.next hb) | have H := Lib.hid (H.out.drew.next hb)); clear hb))
                  go_wp2_with fail
                  exact ⟨⟨k + 1, by simp, by omega, by rw [← HR.out], H.out.bel⟩, by simp [intOf]; omega⟩
    · obtain rfl : k = m := by omega
      clear hb
      go_wp2_with fail
      go_ret2
      exact ⟨rfl, HB.out⟩
end Go.Proofs.Ytbmeamhpmahlgaa
