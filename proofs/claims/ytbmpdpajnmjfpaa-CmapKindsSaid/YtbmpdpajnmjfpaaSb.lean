/- Proved here: what Make answers, in the document. Condition: a list that lies in memory. -/
import Derived.Test.YtbmpdpajnmjfpaaSa
import Derived.Test.YtbmpdpajnmjfpaaQc
namespace Go.Proofs.Ytbmpdpajnmjfpaa
open Go.RowKit

theorem rp16_any (n : Nat) (w : World) (h : n < 4294967296) : Calls Try.prog 19 #[.int .i64 (n : Int)] w fun e w' => e = .returned (.string ⟨(byt 2 (n % 65536)).toArray⟩) ∧ Below w.heap.size w w' := by
  have e1 : IntKind.u32.wrap (n : Int) = (n : Int) := wrap_u32n n h
  obtain ⟨q, hq⟩ : ∃ q, q = n % 65536 := ⟨_, rfl⟩
  have e2 : (n : Int).tmod 65536 = (q : Int) := by rw [Int.tmod_eq_emod_of_nonneg (by omega)]; omega
  have C := Lib.hid (show ∀ W, Calls Try.prog 35 #[.int .u32 (q : Int), .int .i64 2] W fun e w' => e = .returned (.string ⟨(byt 2 q).toArray⟩) ∧ Below W.heap.size W w' from fun W => put_any q 2 W (by omega) (by decide))
  rw [← hq]
  clear hq h
  go_enter Try.func19, Try.ntmps19
  go_wp2_with (go_at_call 35; (with_reducible refine (C.out _).mono ?_); rintro e w1 ⟨rfl, hb⟩; have HB := Lib.hid hb; clear hb)
  go_ret
  exact ⟨rfl, HB.out⟩
theorem rp32_any (n : Nat) (w : World) (h : n < 4294967296) : Calls Try.prog 20 #[.int .i64 (n : Int)] w fun e w' => e = .returned (.string ⟨(byt 4 n).toArray⟩) ∧ Below w.heap.size w w' := by
  have e1 : IntKind.u32.wrap (n : Int) = (n : Int) := wrap_u32n n h
  have C := Lib.hid (show ∀ W, Calls Try.prog 35 #[.int .u32 (n : Int), .int .i64 4] W fun e w' => e = .returned (.string ⟨(byt 4 n).toArray⟩) ∧ Below W.heap.size W w' from fun W => put_any n 4 W h (by decide))
  clear h
  go_enter Try.func20, Try.ntmps20
  go_wp2_with (go_at_call 35; (with_reducible refine (C.out _).mono ?_); rintro e w1 ⟨rfl, hb⟩; have HB := Lib.hid hb; clear hb)
  go_ret
  exact ⟨rfl, HB.out⟩
theorem rp16_txt (n : Nat) (h : n < 65536) : ∃ D : ByteArray, D.size = 2 ∧ D.data.toList = byt 2 n ∧ ∀ W, Calls Try.prog 19 #[.int .i64 (n : Int)] W fun ee w' => ee = .returned (.string D) ∧ Below W.heap.size W w' :=
  ⟨⟨(byt 2 n).toArray⟩, by show (byt 2 n).toArray.size = 2; rw [List.size_toArray, byt_len], rfl, fun W => by have := rp16_any n W (by omega); rw [Nat.mod_eq_of_lt h] at this; exact this⟩
theorem rp16_mod (n : Nat) (h : n < 4294967296) : ∃ D : ByteArray, D.size = 2 ∧ D.data.toList = byt 2 (n % 65536) ∧ ∀ W, Calls Try.prog 19 #[.int .i64 (n : Int)] W fun ee w' => ee = .returned (.string D) ∧ Below W.heap.size W w' :=
  ⟨⟨(byt 2 (n % 65536)).toArray⟩, by show (byt 2 (n % 65536)).toArray.size = 2; rw [List.size_toArray, byt_len], rfl, fun W => rp16_any n W h⟩
theorem rp32_txt (n : Nat) (h : n < 4294967296) : ∃ D : ByteArray, D.size = 4 ∧ D.data.toList = byt 4 n ∧ ∀ W, Calls Try.prog 20 #[.int .i64 (n : Int)] W fun ee w' => ee = .returned (.string D) ∧ Below W.heap.size W w' :=
  ⟨⟨(byt 4 n).toArray⟩, by show (byt 4 n).toArray.size = 4; rw [List.size_toArray, byt_len], rfl, fun W => rp32_any n W h⟩
/-- While the runs are read. -/
structure GrS (w W : World) (A : Option Addr) (m : Nat) (R : List (Int × Int × Int)) : Prop where
  bel : Below w.heap.size w W
  il : Rl W A m R
theorem GrS.next {w W W' : World} {A : Option Addr} {m : Nat} {R : List (Int × Int × Int)} (h : GrS w W A m R) (hb : Below W.heap.size W W') : GrS w W' A m R := ⟨h.bel.trans (hb.mono h.bel.size), h.il.bel hb⟩
theorem GrS.drew {w W : World} {A : Option Addr} {m : Nat} {R : List (Int × Int × Int)} (h : GrS w W A m R) : GrS w W.drew A m R := h.next ((Below.refl _ _).drew)
theorem GrS.three {w W : World} {a : Addr} {m : Nat} {R : List (Int × Int × Int)} (h : GrS w W (some a) m R) {k : Nat} (hk : k < m) {x y z : Int} (hx : rF R k = x) (hy : rT R k = y) (hz : rG R k = z) :
    W.cell? (a.add (k * 3)) = some (.int .i64 x) ∧ W.cell? { block := (a.add (k * 3)).block, off := (a.add (k * 3)).off + 1 } = some (.int .i64 y) ∧ W.cell? { block := (a.add (k * 3)).block, off := (a.add (k * 3)).off + 2 } = some (.int .i64 z) := by
  obtain ⟨a', ha, h1, h2, h3⟩ := h.il.at_ (Below.refl _ _) hk
  injection ha with ha
  subst ha hx hy hz
  exact ⟨h1, h2, h3⟩
theorem hdB_two (n : Nat) : hdB n = byt 2 12 ++ byt 2 0 ++ byt 4 (16 + 12 * n) ++ byt 4 0 ++ byt 4 n := by
  unfold hdB
  rw [show byt 4 786432 = byt 2 12 ++ byt 2 0 from by decide]
set_option maxHeartbeats 8000000 in
set_option maxRecDepth 100000 in
theorem rmake_long (A : Option Addr) (c : Nat) (L : List (Int × Int)) (w : World) (hP : Pl w A L.length L) (hM : MayP L 1024) : Calls Try.prog 7 #[.slice A L.length c, .bool true] w (StE (mkE L true) (mkS L true) w) := by
  have hok : okMk L true := ⟨hM, .inl rfl⟩
  have hRl := runs_len_le L L.length
  have hmm := hM.2.1
  obtain ⟨h1, h2⟩ := mk_yes hok
  obtain ⟨mL, hmL⟩ : ∃ m, m = L.length := ⟨_, rfl⟩
  obtain ⟨R, hR⟩ : ∃ R, R = runs L L.length := ⟨_, rfl⟩
  obtain ⟨m, hm⟩ : ∃ m, m = R.length := ⟨_, rfl⟩
  have hm4 : m ≤ 4096 := by rw [hm, hR]; omega
  have HF := Lib.hid (fun (D : ByteArray) w' (hD : D.data.toList = rowB 3 10 ++ hdB m ++ grsB (R.take m)) (hb : Below w.heap.size w w') => stE_ok h1 (D := D) (show D = ⟨(mkS L true).toArray⟩ by rw [of_list hD, h2, hm, List.take_length, hR]; unfold mkB lnB; simp) hb)
  have hf := runs_fits32 hM
  rw [← hR] at hf
  have HX := Lib.hid (show ∀ k, k < m → ∃ x y z : Nat, rF R k = (x : Int) ∧ rT R k = (y : Int) ∧ rG R k = (z : Int) ∧ x < 4294967296 ∧ y < 4294967296 ∧ z < 4294967296 ∧ grB (rF R k, rT R k, rG R k) = byt 4 x ++ byt 4 y ++ byt 4 z from fun k hk => by
    obtain ⟨h1, h2, h3⟩ := hf k (by omega)
    exact ⟨(rF R k).toNat, (rT R k).toNat, (rG R k).toNat, by omega, by omega, by omega, by omega, by omega, by omega, rfl⟩)
  have HT := Lib.hid (fun k (hk : k < m) => grsB_take (R := R) (k := k) (by omega))
  have HL := Lib.hid (fun k (hk : k ≤ m) => show (rowB 3 10 ++ hdB m ++ grsB (R.take k)).length = 28 + 12 * k by rw [List.length_append, List.length_append, rowB_len, hdB_len, grsB_len, List.length_take]; omega)
  have H0 := Lib.hid (show grsB (R.take 0) = [] from rfl)
  have CM := Lib.hid (fun W (h : Pl W A mL L) => rmay_any A mL c L 1024 W h)
  rw [decide_eq_true hM] at CM
  have CG := Lib.hid (fun W (h : Pl W A mL L) => rgroups_any A mL c L W h hM)
  rw [← hmL] at hP hR ⊢
  rw [← hR] at CG
  have HP := Lib.hid hP
  obtain ⟨N, hN⟩ : ∃ N, N = 16 + 12 * m := ⟨_, rfl⟩
  obtain ⟨Da0, sa0, ha0, ca0⟩ := rp16_txt 0 (by decide)
  obtain ⟨Da1, sa1, ha1, ca1⟩ := rp16_txt 1 (by decide)
  obtain ⟨Da3, sa3, ha3, ca3⟩ := rp16_txt 3 (by decide)
  obtain ⟨Da10, sa10, ha10, ca10⟩ := rp16_txt 10 (by decide)
  obtain ⟨Db12, sb12, hb12, cb12⟩ := rp32_txt 12 (by decide)
  obtain ⟨Da12, sa12, ha12, ca12⟩ := rp16_txt 12 (by decide)
  obtain ⟨Db0, sb0, hb0, cb0⟩ := rp32_txt 0 (by decide)
  have Ca0 := Lib.hid (show ∀ W, Calls Try.prog 19 #[.int .i64 0] W fun ee w' => ee = .returned (.string Da0) ∧ Below W.heap.size W w' from ca0)
  have Ca1 := Lib.hid (show ∀ W, Calls Try.prog 19 #[.int .i64 1] W fun ee w' => ee = .returned (.string Da1) ∧ Below W.heap.size W w' from ca1)
  have Ca3 := Lib.hid (show ∀ W, Calls Try.prog 19 #[.int .i64 3] W fun ee w' => ee = .returned (.string Da3) ∧ Below W.heap.size W w' from ca3)
  have Ca10 := Lib.hid (show ∀ W, Calls Try.prog 19 #[.int .i64 10] W fun ee w' => ee = .returned (.string Da10) ∧ Below W.heap.size W w' from ca10)
  have Cb12 := Lib.hid (show ∀ W, Calls Try.prog 20 #[.int .i64 12] W fun ee w' => ee = .returned (.string Db12) ∧ Below W.heap.size W w' from cb12)
  have Ca12 := Lib.hid (show ∀ W, Calls Try.prog 19 #[.int .i64 12] W fun ee w' => ee = .returned (.string Da12) ∧ Below W.heap.size W w' from ca12)
  have Cb0 := Lib.hid (show ∀ W, Calls Try.prog 20 #[.int .i64 0] W fun ee w' => ee = .returned (.string Db0) ∧ Below W.heap.size W w' from cb0)
  obtain ⟨DN, sN, hNt, cN⟩ := rp32_txt N (by omega)
  obtain ⟨Dm, sm, hmt, cm⟩ := rp32_txt m (by omega)
  have CN := Lib.hid (show ∀ W, Calls Try.prog 20 #[.int .i64 (16 + 12 * (m : Int))] W fun ee w' => ee = .returned (.string DN) ∧ Below W.heap.size W w' by rw [show 16 + 12 * (m : Int) = (N : Int) by omega]; exact cN)
  have Cm := Lib.hid cm
  have e1 : IntKind.i64.wrap (12 * (m : Int)) = 12 * (m : Int) := i64_in _ (by omega)
  have e2 : IntKind.i64.wrap (16 + 12 * (m : Int)) = 16 + 12 * (m : Int) := i64_in _ (by omega)
  have g0 : ¬ 9223372036854775807 < Da0.size + Da1.size := by omega
  have g1 : ¬ 9223372036854775807 < Da0.size + Da1.size + Da3.size := by omega
  have g2 : ¬ 9223372036854775807 < Da0.size + Da1.size + Da3.size + Da10.size := by omega
  have g3 : ¬ 9223372036854775807 < Da0.size + Da1.size + Da3.size + Da10.size + Db12.size := by omega
  have g4 : ¬ 9223372036854775807 < Da0.size + Da1.size + Da3.size + Da10.size + Db12.size + Da12.size := by omega
  have g5 : ¬ 9223372036854775807 < Da0.size + Da1.size + Da3.size + Da10.size + Db12.size + Da12.size + Da0.size := by omega
  have g6 : ¬ 9223372036854775807 < Da0.size + Da1.size + Da3.size + Da10.size + Db12.size + Da12.size + Da0.size + DN.size := by omega
  have g7 : ¬ 9223372036854775807 < Da0.size + Da1.size + Da3.size + Da10.size + Db12.size + Da12.size + Da0.size + DN.size + Db0.size := by omega
  have g8 : ¬ 9223372036854775807 < Da0.size + Da1.size + Da3.size + Da10.size + Db12.size + Da12.size + Da0.size + DN.size + Db0.size + Dm.size := by omega
  obtain ⟨DH, hDH⟩ : ∃ D : ByteArray, D = Da0 ++ Da1 ++ Da3 ++ Da10 ++ Db12 ++ Da12 ++ Da0 ++ DN ++ Db0 ++ Dm := ⟨_, rfl⟩
  have HDH := Lib.hid (show Da0 ++ Da1 ++ Da3 ++ Da10 ++ Db12 ++ Da12 ++ Da0 ++ DN ++ Db0 ++ Dm = DH from hDH.symm)
  have HHd := Lib.hid (show DH.data.toList = rowB 3 10 ++ hdB m ++ grsB (R.take 0) by rw [hDH]; simp only [app_list, ha0, ha1, ha3, ha10, hb12, ha12, hb0, hNt, hmt, hN, hdB_two, rowB, H0.out, List.append_assoc, List.append_nil])
  have HB0 := Lib.hid (Below.refl w.heap.size w)
  clear hP hM hok hRl hmm h1 h2 hmL hR hf hDH sa0 ha0 ca0 sa1 ha1 ca1 sa3 ha3 ca3 sa10 ha10 ca10 sb12 hb12 cb12 sa12 ha12 ca12 sb0 hb0 cb0 sN hNt cN sm hmt cm
  go_enter Try.func7, Try.ntmps7
  go_upto_region 5 with (first
    | (go_at_call 9; (with_reducible refine (CM.out _ HP.out).mono ?_); rintro e w1 ⟨rfl, hb⟩; have HB1 := Lib.hid hb; clear hb)
    | (go_at_call 18; (with_reducible refine (CG.out _ (HP.out.bel HB1.out)).mono ?_); rintro e w2 ⟨A', c', rfl, ho, hb⟩; have HG := Lib.hid (show GrS w w2 A' m R from ⟨HB1.out.trans (hb.mono HB1.out.size), by rw [hm]; exact own_rl ho rfl⟩); clear hb ho))
  rw [← hm]
  have HMR := Lib.hid hm
  clear hm
  go_upto_region 6 with (first
    | (go_at_call 19; (with_reducible refine (Ca0.out _).mono ?_); rintro e w6 ⟨rfl, hb⟩; have HG := Lib.hid (HG.out.next hb); clear hb)
    | (go_at_call 19; (with_reducible refine (Ca1.out _).mono ?_); rintro e w6 ⟨rfl, hb⟩; have HG := Lib.hid (HG.out.next hb); clear hb)
    | (go_at_call 19; (with_reducible refine (Ca3.out _).mono ?_); rintro e w6 ⟨rfl, hb⟩; have HG := Lib.hid (HG.out.next hb); clear hb)
    | (go_at_call 19; (with_reducible refine (Ca10.out _).mono ?_); rintro e w6 ⟨rfl, hb⟩; have HG := Lib.hid (HG.out.next hb); clear hb)
    | (go_at_call 20; (with_reducible refine (Cb12.out _).mono ?_); rintro e w6 ⟨rfl, hb⟩; have HG := Lib.hid (HG.out.next hb); clear hb)
    | (go_at_call 19; (with_reducible refine (Ca12.out _).mono ?_); rintro e w6 ⟨rfl, hb⟩; have HG := Lib.hid (HG.out.next hb); clear hb)
    | (go_at_call 20; (with_reducible refine (CN.out _).mono ?_); rintro e w6 ⟨rfl, hb⟩; have HG := Lib.hid (HG.out.next hb); clear hb)
    | (go_at_call 20; (with_reducible refine (Cb0.out _).mono ?_); rintro e w6 ⟨rfl, hb⟩; have HG := Lib.hid (HG.out.next hb); clear hb)
    | (go_at_call 20; (with_reducible refine (Cm.out _).mono ?_); rintro e w6 ⟨rfl, hb⟩; have HG := Lib.hid (HG.out.next hb); clear hb))
  rw [HDH.out]
  clear g0 g1 g2 g3 g4 g5 g6 g7 g8 e1 e2
  go_wp2_with fail
  go_loopw [7, 8] (fun v i wr => ∃ (k : Nat) (D : ByteArray), i = .int .i64 (k : Int) ∧ k ≤ m ∧ v = .string D ∧ D.data.toList = rowB 3 10 ++ hdB m ++ grsB (R.take k) ∧ GrS w wr A' m R) (fun _ i _ => m - (intOf i).toNat)
  case atStart => exact ⟨0, DH, rfl, Nat.zero_le _, rfl, HHd.out, HG.out⟩
  case round =>
    obtain ⟨k, D, rfl, hk, rfl, hD, hS⟩ := hrel
    have HS := Lib.hid hS
    have HD := Lib.hid hD
    by_cases hgo : k < m
    · obtain ⟨a, rfl, c0, c1, c2⟩ := hS.il.at_ (Below.refl _ _) hgo
      obtain ⟨x, y, z, hx, hy, hz, bx, by', bz, hg⟩ := HX.out k hgo
      rw [hx] at c0
      rw [hy] at c1
      rw [hz] at c2
      have HC3 := Lib.hid (fun W (h : GrS w W (some a) m R) => h.three hgo hx hy hz)
      obtain ⟨E1, s1, hE1, hc1⟩ := rp32_txt x bx
      obtain ⟨E2, s2, hE2, hc2⟩ := rp32_txt y by'
      obtain ⟨E3, s3, hE3, hc3⟩ := rp32_txt z bz
      have C1 := Lib.hid hc1
      have C2 := Lib.hid hc2
      have C3 := Lib.hid hc3
      have hDs : D.size = 28 + 12 * k := by have := HL.out k hk; rw [← hD] at this; rw [← this]; simp
      have l0 : ¬ 9223372036854775807 < D.size + E1.size := by omega
      have l1 : ¬ 9223372036854775807 < D.size + E1.size + E2.size := by omega
      have l2 : ¬ 9223372036854775807 < D.size + E1.size + E2.size + E3.size := by omega
      have HN2 := Lib.hid (show (D ++ E1 ++ E2 ++ E3).data.toList = rowB 3 10 ++ hdB m ++ grsB (R.take (k + 1)) by rw [HT.out k hgo, hg]; simp only [app_list, hD, hE1, hE2, hE3, List.append_assoc])
      clear hS hD hx hy hz hg hE1 hE2 hE3 hc1 hc2 hc3 s1 s2 s3 bx by' bz hDs
      go_upto_region 9 with fail
      go_region_held3 (fun w' => w'.cell? (a.add (k * 3)) = some (.int .i64 (x : Int)) ∧ w'.cell? { block := (a.add (k * 3)).block, off := (a.add (k * 3)).off + 1 } = some (.int .i64 (y : Int)) ∧ w'.cell? { block := (a.add (k * 3)).block, off := (a.add (k * 3)).off + 2 } = some (.int .i64 (z : Int)))
        (first | with_reducible exact HC3.out _ HS.out | go_keep)
        (first
          | (go_at_call 20; (with_reducible refine (C1.out _).mono ?_); rintro e w6 ⟨rfl, hb⟩; (first | have HS := Lib.hid (HS.out.next hb) | have HS := Lib.hid (HS.out.drew.next hb)); clear hb)
          | (go_at_call 20; (with_reducible refine (C2.out _).mono ?_); rintro e w6 ⟨rfl, hb⟩; (first | have HS := Lib.hid (HS.out.next hb) | have HS := Lib.hid (HS.out.drew.next hb)); clear hb)
          | (go_at_call 20; (with_reducible refine (C3.out _).mono ?_); rintro e w6 ⟨rfl, hb⟩; (first | have HS := Lib.hid (HS.out.next hb) | have HS := Lib.hid (HS.out.drew.next hb)); clear hb))
      go_wp2_with fail
      exact ⟨⟨k + 1, _, by simp, by omega, rfl, HN2.out, HS.out⟩, by simp [intOf]; omega⟩
    · obtain rfl : k = m := by omega
      have HQ := Lib.hid (HF.out D _ hD hS.bel)
      clear hD hS
      go_wp2_with fail
      go_ret2
      exact HQ.out
end Go.Proofs.Ytbmpdpajnmjfpaa
