/- Proved here: the law SturmProducts. No condition. -/
import Derived.Test.YtpobhegllhhdgaaGreatZf
import Derived.Test.YtpobhegllhhdgaaGreatZh
namespace Go.Proofs.YtpobhegllhhdgaaGreat
open Go.RowKit Go.Maps

theorem one_ia (w : World) : Ia (w.alloc (.cells #[.int .i64 1] 2)) (.slice (some ⟨w.heap.size, 0, none⟩) 1 1) [1] := by
  have h : (w.alloc (.cells #[.int .i64 1] 2)).heap[w.heap.size]? = some (.cells #[.int .i64 1] 2 (0, 0)) := heap_alloc_new w _
  refine ⟨_, 1, rfl, by simp, by unfold maxLen; omega, fun i => ?_, fun j hj => ⟨_, rfl, heap_lt h, ?_⟩⟩
  · rcases i with _ | i
    · show Fit 1; unfold Fit; omega
    · rw [co_beyond (by show 1 ≤ _; omega)]; unfold Fit; omega
  · rw [add_at, cell_of_row _ _ j _ 2 (0, 0) h]
    have hj : j < 1 := hj
    obtain rfl : j = 0 := by omega
    rfl
theorem one_trz : trz [1] = [1] := trz_cf (Or.inr (by decide))
theorem two2_ia (w : World) (a b : Int) (ha : Fit a) (hb : Fit b) : Ia (w.alloc (.cells #[.int .i64 a, .int .i64 b] 2)) (.slice (some ⟨w.heap.size, 0, none⟩) 2 2) [a, b] := by
  have h : (w.alloc (.cells #[.int .i64 a, .int .i64 b] 2)).heap[w.heap.size]? = some (.cells #[.int .i64 a, .int .i64 b] 2 (0, 0)) := heap_alloc_new w _
  refine ⟨_, _, rfl, Nat.le_refl _, by unfold maxLen; show 2 ≤ _; omega, fun i => ?_, fun j hj => ⟨_, rfl, heap_lt h, ?_⟩⟩
  · rcases i with _ | _ | i
    · exact ha
    · exact hb
    · rw [co_beyond (by show 2 ≤ _; omega)]; unfold Fit; omega
  · rw [add_at, cell_of_row _ _ j _ 2 (0, 0) h]
    have hj : j < 2 := hj
    rcases j with _ | _ | j
    · rfl
    · rfl
    · omega
theorem two2_of (a b : Int) (ha : Fit a) (hb : Fit b) (h0 : b ≠ 0) (w : World) : Calls Tryz.prog 21 #[.slice (some ⟨w.heap.size, 0, none⟩) 2 2] (w.alloc (.cells #[.int .i64 a, .int .i64 b] 2)) (PolE .c [a, b] 2 (w.alloc (.cells #[.int .i64 a, .int .i64 b] 2))) := by
  have := pof_any _ 2 2 _ _ (two2_ia w a b ha hb) (by omega)
  rwa [trz_cf (show Cf [a, b] from Or.inr h0)] at this
theorem two2_of1 (a b : Int) (ha : Fit a) (hb : Fit b) (h0 : b ≠ 0) (o : Obj) (w : World) : Calls Tryz.prog 21 #[.slice (some ⟨w.heap.size + 1, 0, none⟩) 2 2] ((w.alloc o).alloc (.cells #[.int .i64 a, .int .i64 b] 2)) (PolE .c [a, b] 2 ((w.alloc o).alloc (.cells #[.int .i64 a, .int .i64 b] 2))) := by
  have := two2_of a b ha hb h0 (w.alloc o)
  rwa [show (w.alloc o).heap.size = w.heap.size + 1 from Array.size_push ..] at this
theorem frac8_call (a0 a1 : Int) (w : World) : Calls Tryz.prog 22 #[.int .i64 (a0.tmod 21), .int .i64 (1 + a1 % 4)] w fun e w' => e = .returned (.tuple #[.agg #[.int .i64 (frac8 (a0, a1)).1, .int .i64 (frac8 (a0, a1)).2], .int .i64 0]) ∧ Below w.heap.size w w' := by
  have h1 := Int.natAbs_tmod a0 21
  have h2 : a0.natAbs % 21 < 21 := Nat.mod_lt _ (by decide)
  have h3 : (21 : Int).natAbs = 21 := rfl
  rw [h3] at h1
  have := new_any (a0.tmod 21) (1 + a1 % 4) w (by unfold Fit; omega) (by unfold Fit; omega)
  have e1 := frac8_new (a0, a1)
  rw [show newR (a0.tmod 21) (1 + a1 % 4) = _ from e1] at this
  exact this
/-- The argument: pairs of numbers of 8 bits. -/
structure Pr8 (w : World) (A : Option Addr) (m : Nat) (xs : List (Int × Int)) : Prop where
  len : xs.length = m
  get : ∀ i, i < m → ∃ ad, A = some ad ∧ ad.block < w.heap.size ∧ w.cell? (ad.add (i * 2)) = some (.int .i8 (xs.getD i (0, 0)).1) ∧ w.cell? (ad.add (i * 2 + 1)) = some (.int .i8 (xs.getD i (0, 0)).2)
  rng : ∀ i, i < m → -128 ≤ (xs.getD i (0, 0)).1 ∧ (xs.getD i (0, 0)).1 ≤ 127 ∧ -128 ≤ (xs.getD i (0, 0)).2 ∧ (xs.getD i (0, 0)).2 ≤ 127
theorem tims_bump (f e : Int × Int) : ∀ M, tims f (bump2 e M) ≤ tims f M + 1
  | [] => by simp only [bump2, tims]; split <;> omega
  | a :: l => by
    simp only [bump2]
    split
    · simp only [tims]; split <;> omega
    · simp only [tims]
      split
      · omega
      · exact tims_bump f e l
theorem tims_st (f : Int × Int) : ∀ l M, tims f (stM2 l M) ≤ tims f M + l.length
  | [], _ => Nat.le_refl _
  | e :: l, M => by
    have h1 := tims_st f l (bump2 e M)
    have h2 := tims_bump f e M
    simp only [stM2, List.length_cons]
    omega
theorem may7 (u : Int) : Maybe (7 * u + 1) 7 := by
  refine ⟨by decide, ?_⟩
  have h3 : (7 : Int).natAbs = 7 := rfl
  rw [h3, Nat.gcd_comm, Nat.gcd_rec]
  obtain ⟨r, hr⟩ : ∃ r, r = (7 * u + 1).natAbs % 7 := ⟨_, rfl⟩
  have h0 : r = 1 ∨ r = 6 := by omega
  rw [← hr]
  rcases h0 with rfl | rfl <;> decide
theorem cmp7 {xn fn fd : Int} (h1 : Maybe xn 7) (h2 : Maybe fn fd) : ∃ sv : Int, cmpR xn 7 fn fd = (sv, 0) ∧ (sv < 0 ↔ xn * fd < fn * 7) := by
  refine ⟨cmpI (xn * fd) (fn * 7), by unfold cmpR; rw [if_pos ⟨h1, h2⟩], ?_⟩
  unfold cmpI
  split <;> first | omega | (split <;> omega)
theorem ah_snoc (x : Rat) (e : Int × Int) : ∀ l, TH.ahF x (l ++ [e]) = TH.ahF x l + (if x < TH.frR e then 1 else 0)
  | [] => by simp only [List.nil_append, TH.ahF]; omega
  | a :: l => by
    simp only [List.cons_append, TH.ahF]
    rw [ah_snoc x e l]
    omega
theorem ah_le (x : Rat) : ∀ l, TH.ahF x l ≤ l.length
  | [] => Nat.le_refl _
  | a :: l => by
    have := ah_le x l
    simp only [TH.ahF, List.length_cons]
    split <;> omega
theorem neg_is {nb : Bool} {xb : List Nat} {z : Int} (h : Eg xb ∧ Can nb xb ∧ xb.length ≤ xb.length ∧ sv nb (dw xb) = z) {a : Nat} (hz : z < 0 ↔ a % 2 = 1) : (nb == ((a : Int) % 2 == 1)) = true := by
  obtain ⟨_, hc, _, hv⟩ := h
  rcases Nat.mod_two_eq_zero_or_one a with ha | ha
  · have h1 : ((a : Int) % 2 == 1) = false := by simp; omega
    rw [h1]
    cases nb
    · rfl
    · exfalso
      have hne : xb ≠ [] := fun h => by have := hc.2 h; cases this
      have h0 : dw xb ≠ 0 := fun h => hne ((top_zero32 hc.1).1 h)
      rw [sv_true] at hv
      have := hz.mp (by omega)
      omega
  · have h1 : ((a : Int) % 2 == 1) = true := by simp; omega
    rw [h1]
    cases nb
    · exfalso
      rw [sv_false] at hv
      have := hz.mpr ha
      omega
    · rfl
theorem sp_start {w w2 : World} {A1 : Option Addr} {c1 : Nat} (xn : Int) (hb : Below w.heap.size w w2) (hp : Pol .c w2 (.slice A1 1 c1) [1] 2) :
    SpS w ((((w2.alloc (.cells #[.int .i64 xn, .int .i64 7] 24)).alloc (.cells #[.int .i64 (-100), .int .i64 1] 24)).alloc (.cells #[.int .i64 100, .int .i64 1] 24)).alloc (.map #[] 0)) (w2.heap.size + 1 + 1 + 1) w2.heap.size (w2.heap.size + 1) (w2.heap.size + 1 + 1) xn 0 (.map []) (.slice A1 1 c1) [1] 2 := by
  have e1 : ∀ (W : World) (o : Obj), (W.alloc o).heap.size = W.heap.size + 1 := fun W o => Array.size_push ..
  have b1 := bel_tr (bel_tr (bel_a w2 (.cells #[.int .i64 xn, .int .i64 7] 24)) (bel_a _ (.cells #[.int .i64 (-100), .int .i64 1] 24))) (bel_a _ (.cells #[.int .i64 100, .int .i64 1] 24))
  refine ⟨bel_tr hb (bel_tr b1 (bel_a _ _)), by have := hb.size; omega, ?_, hp.bel (bel_tr b1 (bel_a _ _)), ?_, ?_, ?_⟩
  · have := World.ownsMap_made (((w2.alloc (.cells #[.int .i64 xn, .int .i64 7] 24)).alloc (.cells #[.int .i64 (-100), .int .i64 1] 24)).alloc (.cells #[.int .i64 100, .int .i64 1] 24)) Tryz.prog 24 (plainElem (H := Unit) Tryz.prog 3)
    rwa [e1, e1, e1] at this
  · exact (((Rt.new w2 xn 7).alloc _).alloc _).alloc _
  · exact ((Rt.newg (by rw [e1])).alloc _).alloc _
  · exact (Rt.newg (by rw [e1, e1])).alloc _
set_option maxRecDepth 100000 in
set_option maxHeartbeats 1000000 in
theorem products_main (A : Option Addr) (m c : Nat) (xs : List (Int × Int)) (x : Int) (w : World) (h : Pr8 w A m xs) (h6 : m ≤ 6) :
    Calls Tryz.prog 5 #[.slice A m c, .int .i8 x] w fun e w' => e = .returned (.bool true) ∧ Below w.heap.size w w' := by
  have HAW := Lib.hid awake_any
  have hmm := @run_makeMap Tryz.prog
  have h6n : ¬ 6 < m := by omega
  obtain ⟨u, hu⟩ : ∃ u, u = x.tmod 21 := ⟨_, rfl⟩
  have q0 : -21 < u ∧ u < 21 := by
    have h1 := Int.natAbs_tmod x 21
    rw [← hu] at h1
    have h2 : x.natAbs % 21 < 21 := Nat.mod_lt _ (by decide)
    have h3 : (21 : Int).natAbs = 21 := rfl
    rw [h3] at h1
    omega
  have HO := Lib.hid (fun A W (h : Ia W (.slice A 1 1) [1]) => pof_any A 1 1 [1] W h (by omega))
  have HB := Lib.hid (Below.refl w.heap.size w)
  go_enter Tryz.func5, Tryz.ntmps5
  go_upto_region 5 with (first
    | (go_at_call 6; (with_reducible refine (HAW.out _).mono ?_); rintro e w1 ⟨rfl, hb⟩; have HB := Lib.hid (bel_tr HB.out hb); clear hb))
  have HI := Lib.hid (And.intro (one_ia w1) (bel_tr HB.out (bel_a w1 (.cells #[.int .i64 1] 2))))
  go_upto_region 6 with (go_at_call 21; (with_reducible refine (HO.out _ _ HI.out.1).mono ?_); rintro e w2 he; rw [one_trz] at he; obtain ⟨A1, c1, rfl, hP, hb⟩ := he; have HP := Lib.hid (show Pol .c w2 (.slice A1 1 c1) [1] 2 from hP); have HB := Lib.hid (bel_tr HI.out.2 hb); clear hP hb)
  clear HI HO
  go_upto_region 11 with fail
  obtain ⟨xn, hxn⟩ : ∃ z, z = 7 * x.tmod 21 + 1 := ⟨_, rfl⟩
  rw [← hxn]
  have HS := Lib.hid (sp_start xn HB.out HP.out)
  obtain ⟨B, hB⟩ : ∃ g, g = w2.heap.size + 1 + 1 + 1 := ⟨_, rfl⟩
  obtain ⟨gh, hgh⟩ : ∃ g, g = w2.heap.size + 1 + 1 := ⟨_, rfl⟩
  obtain ⟨gl, hgl⟩ : ∃ g, g = w2.heap.size + 1 := ⟨_, rfl⟩
  obtain ⟨gx, hgx⟩ : ∃ g, g = w2.heap.size := ⟨_, rfl⟩
  obtain ⟨W0, hW0⟩ : ∃ W, W = ((((w2.alloc (.cells #[.int .i64 xn, .int .i64 7] 24)).alloc (.cells #[.int .i64 (-100), .int .i64 1] 24)).alloc (.cells #[.int .i64 100, .int .i64 1] 24)).alloc (.map #[] 0)) := ⟨_, rfl⟩
  rw [← hW0, ← hB, ← hgh, ← hgl, ← hgx] at HS ⊢
  obtain ⟨fs, hfs⟩ : ∃ fs, fs = xs.map frac8 := ⟨_, rfl⟩
  have HF := Lib.hid hfs
  have HX := Lib.hid (And.intro hxn h)
  clear hW0 hB hgh hgl hgx hfs hxn HB HP h hu q0
  go_loopw [5, 10, 44] (fun p a i wr => ∃ (j : Nat) (A2 : Option Addr) (c2 : Nat) (D : DataW Unit), i = .int .i64 (j : Int) ∧ j ≤ m ∧ a = .int .i64 (TH.ahF (TH.frR (xn, 7)) (fs.take j) : Int) ∧ p = .slice A2 (j + 1) c2 ∧ SpS w wr B gx gl gh xn j D (.slice A2 (j + 1) c2) (TH.stP (fs.take j) [1]) 2 ∧ Link D (stM2 (fs.take j) [])) (fun _ _ i _ => m - (intOf i).toNat)
  case atStart => exact ⟨0, A1, c1, _, rfl, Nat.zero_le _, rfl, rfl, HS.out, Link.start⟩
  case round =>
    obtain ⟨j, A2, c2, D, rfl, hj, rfl, rfl, hS, hL⟩ := hrel
    have HS := Lib.hid hS
    have HL := Lib.hid hL
    clear hS hL
    by_cases hgo : j < m
    · obtain ⟨ad, rfl, had, c0, c1⟩ := HX.out.2.get j hgo
      obtain ⟨a0, a1, hae⟩ : ∃ a0 a1, xs.getD j (0, 0) = (a0, a1) := ⟨_, _, rfl⟩
      have hrg := HX.out.2.rng j hgo
      rw [hae] at c0 c1 hrg
      have g0 : wr.cell? (ad.add (j * 2)) = some (.int .i8 a0) := by rw [HS.out.bel.cell (by rw [block_of_add]; exact had)]; exact c0
      have g1 : wr.cell? { block := (ad.add (j * 2)).block, off := (ad.add (j * 2)).off + 1 } = some (.int .i8 a1) := by rw [add_next, HS.out.bel.cell (by rw [block_of_add]; exact had)]; exact c1
      clear c0 c1
      have ht : -20 ≤ a0.tmod 21 ∧ a0.tmod 21 ≤ 20 := by
        have h1 := Int.natAbs_tmod a0 21
        have h2 : a0.natAbs % 21 < 21 := Nat.mod_lt _ (by decide)
        have h3 : (21 : Int).natAbs = 21 := rfl
        rw [h3] at h1
        omega
      have HN := Lib.hid (frac8_call a0 a1)
      have hsm := frac8_sm (a0, a1)
      obtain ⟨fn, fd, hfr⟩ : ∃ fn fd, frac8 (a0, a1) = (fn, fd) := ⟨_, _, rfl⟩
      rw [hfr] at HN hsm
      obtain ⟨hmb, s1, s2, s3, s4⟩ := hsm
      have s1 : -20 ≤ fn := s1
      have s2 : fn ≤ 20 := s2
      have s3 : 1 ≤ fd := s3
      have s4 : fd ≤ 4 := s4
      have HO := Lib.hid (two2_of1 (-fn) fd (by unfold Fit; omega) (by unfold Fit; omega) (by omega) (.cells #[.int .i64 fn, .int .i64 fd] 24))
      have HFR := Lib.hid (And.intro hfr hmb)
      have HAE := Lib.hid hae
      clear hfr hmb hae
      go_upto_region 15 with (first
        | (go_at_call 22; (with_reducible refine (HN.out _).mono ?_); rintro e w3 ⟨rfl, hb⟩; have HS := Lib.hid ((HS.out.alloc _).step hb); clear hb)
        | (go_at_call 21; (with_reducible refine (HO.out _).mono ?_); rintro e w4 ⟨A3, c3, rfl, hp, hb⟩; have HQ := Lib.hid (show Pol .c w4 (.slice A3 2 c3) [-fn, fd] 2 from hp); have HR := Lib.hid (((Rt.new w3 fn fd).alloc _).bel hb); have HS := Lib.hid (((HS.out.alloc _).alloc _).step hb); clear hp hb)
        | (go_at_call 23; (with_reducible refine (pmul_small _ _ _ _ _ _ _ _ _ _ _ HS.out.pol.any HQ.out.any (by omega) (by omega) (by omega) (by omega)).mono ?_); rintro e w5 ⟨A4, c4, rfl, hp, hb⟩; have HP := Lib.hid hp; have HR := Lib.hid (HR.out.bel hb); have HS := Lib.hid (HS.out.step hb); clear hp hb))
      have hfs : fs.take (j + 1) = fs.take j ++ [(fn, fd)] := by
        have hl : fs.length = m := by rw [HF.out, List.length_map, HX.out.2.len]
        rw [List.take_succ_eq_append_getElem (by omega)]
        congr 2
        have : fs[j]'(by omega) = frac8 (xs.getD j (0, 0)) := by
          have hx : j < xs.length := by rw [HX.out.2.len]; exact hgo
          simp only [HF.out, List.getElem_map]
          rw [List.getD_eq_getElem?_getD, List.getElem?_eq_getElem hx]; rfl
        rw [this, HAE.out, HFR.out.1]
      have hall : ∀ e ∈ fs, TH.SmF e := by rw [HF.out]; intro e he; obtain ⟨y, _, rfl⟩ := List.mem_map.mp he; exact frac8_sm y
      have hl : fs.length = m := by rw [HF.out, List.length_map, HX.out.2.len]
      obtain ⟨K, hK⟩ := TH.prd_all fs (j + 1) (by omega) hall
      have hPP : mulP (trz (TH.stP (fs.take j) [1])) (trz [-fn, fd]) = TH.stP (fs.take (j + 1)) [1] := by rw [mulP_trz, hfs, TH.stP_snoc]
      rw [hPP] at HP ⊢
      have hlen : (TH.stP (fs.take (j + 1)) [1]).length = j + 1 + 1 := by rw [hK.len, List.length_take, hl]; omega
      have hlen2 : (fs.take j).length ≤ 6 := by rw [List.length_take]; omega
      rw [hlen] at HP ⊢
      have HP := Lib.hid (HP.out.tight fun i => by
        have h1 := hK.top i
        have h2 : (24 : Int) ^ (fs.take (j + 1)).length ≤ 24 ^ 6 := by
          have : (24 : Nat) ^ (fs.take (j + 1)).length ≤ 24 ^ 6 := Nat.pow_le_pow_right (by omega) (by rw [List.length_take]; omega)
          exact_mod_cast this
        have h3 : (24 : Int) ^ 6 = 191102976 := by decide
        omega)
      have hkey := kf_is (e := (fn, fd)) (show Fit fn by unfold Fit; omega) (show Fit fd by unfold Fit; omega)
      have hat := (HL.out.at (f := (fn, fd)) (show Fit fn by unfold Fit; omega) (show Fit fd by unfold Fit; omega)).1
      have htm := tims_st (fn, fd) (fs.take j) []
      have hbm := HL.out.bump (f := (fn, fd)) (show Fit fn by unfold Fit; omega) (show Fit fd by unfold Fit; omega)
      obtain ⟨cN, hcN⟩ : ∃ cN, cN = tims (fn, fd) (stM2 (fs.take j) []) := ⟨_, rfl⟩
      rw [← hcN] at hat htm hbm
      have HCN := Lib.hid hcN
      clear hcN
      have hc6 : cN ≤ 6 := by simp only [tims] at htm; omega
      obtain ⟨cc, st, w6, hl0, hcc, hwc, hE, hl1, hg6, hst⟩ := entry_own keyK Tryz.underlying51 Tryz.underlying3 zeroK HS.out.drew.own (by unfold maxLen; omega) hkey
      have hcc2 : cc = (cN : Int) := by
        have := hcc.symm.trans hat
        unfold num64 at this
        injection this with this
        injection this
      subst hcc2
      obtain ⟨w7, hS7, ho7, hg7⟩ := hst ((cN : Int) + 1) (WalkArith.wf_i64 (by omega))
      have c0 := HR.out.drew.c0
      have c1 := HR.out.drew.c1
      unfold fv at hl0 hE hl1
      unfold goInt at hE hS7
      go_region
      have hmx : Maybe xn 7 := by rw [HX.out.1]; exact may7 _
      obtain ⟨sv, hsv, hsl⟩ := cmp7 hmx HFR.out.2
      have hrl := TH.rat_lt (n := xn) (d := 7) (m := fn) (c := fd) (by decide) (by omega) (TH.frR_mul (e := (xn, 7)) hmx) (TH.frR_mul (e := (fn, fd)) HFR.out.2)
      have hxb : -1000 ≤ xn ∧ xn ≤ 1000 := by
        have h0 := HX.out.1
        have h1 := Int.natAbs_tmod x 21
        have h2 : x.natAbs % 21 < 21 := Nat.mod_lt _ (by decide)
        have h3 : (21 : Int).natAbs = 21 := rfl
        rw [h3] at h1
        omega
      have HC := Lib.hid (fun W => cmpn_any xn 7 fn fd W (by unfold Fit; omega) (by unfold Fit; omega) (by unfold Fit; omega) (by unfold Fit; omega))
      rw [hsv] at HC
      have hah := ah_snoc (TH.frR (xn, 7)) (fn, fd) (fs.take j)
      have hal := ah_le (TH.frR (xn, 7)) (fs.take j)
      rw [← hfs] at hah
      have hS2 := stM2_snoc (fn, fd) (fs.take j) []
      rw [← hfs] at hS2
      rw [← hS2] at hbm
      have HL := Lib.hid hbm
      have HR7 := Lib.hid (HR.out.drew.turn HS.out.drew.own hg7)
      have HS := Lib.hid ((HS.out.prod (HP.out.le (show 1 ≤ 2 by omega))).drew.turn hg7 ho7)
      clear hl0 hE hl1 hS7 hst ho7 hg7 hg6 c0 c1 hbm hS2 hfs hK hPP hlen hlen2 hkey hat htm hcc hwc hsv
      have f0 := HS.out.rx.c0
      have f1 := HS.out.rx.c1
      have f2 := HR7.out.c0
      have f3 := HR7.out.c1
      obtain ⟨ah, haa⟩ : ∃ ah, ah = TH.ahF (TH.frR (xn, 7)) (fs.take j) := ⟨_, rfl⟩
      rw [← haa] at hah hal ⊢
      have hah6 : ah ≤ 6 := by rw [List.length_take] at hal; omega
      clear haa hal
      by_cases hv : sv < 0
      · rw [if_pos (hrl.mpr (hsl.mp hv))] at hah
        have HAH := Lib.hid hah
        clear hah hrl hsl
        go_wp2_with (go_at_call 24; (with_reducible refine (HC.out _).mono ?_); rintro e w8 ⟨rfl, hb⟩; have HS := Lib.hid (HS.out.step hb); clear hb f0 f1 f2 f3)
        exact ⟨⟨j + 1, A4, c4, _, by simp, by omega, by rw [HAH.out]; simp, rfl, HS.out, HL.out⟩, by simp [intOf]; omega⟩
      · rw [if_neg (fun h => hv (hsl.mpr (hrl.mp h)))] at hah
        have HAH := Lib.hid hah
        clear hah hrl hsl
        go_wp2_with (go_at_call 24; (with_reducible refine (HC.out _).mono ?_); rintro e w8 ⟨rfl, hb⟩; have HS := Lib.hid (HS.out.step hb); clear hb f0 f1 f2 f3)
        exact ⟨⟨j + 1, A4, c4, _, by simp, by omega, by rw [HAH.out]; simp, rfl, HS.out, HL.out⟩, by simp [intOf]; omega⟩
    · have hjm : j = m := by omega
      subst hjm
      have hall : ∀ e ∈ fs, TH.SmF e := by rw [HF.out]; intro e he; obtain ⟨y, _, rfl⟩ := List.mem_map.mp he; exact frac8_sm y
      have hl : fs.length = j := by rw [HF.out, List.length_map, HX.out.2.len]
      have htk : fs.take j = fs := List.take_of_length_le (by omega)
      rw [htk] at HS HL ⊢
      have hmx : Maybe xn 7 := by rw [HX.out.1]; exact may7 _
      obtain ⟨z1, z2, z3, z4, z5⟩ := law_answers fs hall (by omega)
      have hsg := law_sign fs hall HX.out.1 hmx
      obtain ⟨P, hP⟩ : ∃ P, P = TH.stP fs [1] := ⟨_, rfl⟩
      rw [← hP] at HS z1 z2 z3 z4 z5 hsg
      obtain ⟨M, hM⟩ : ∃ M, M = stM2 fs [] := ⟨_, rfl⟩
      rw [← hM] at HL z4 z5
      have hris : risB (-100) 1 100 1 = true := by decide
      have hp3 : 3 ^ (j + 1) ≤ 2187 := Nat.le_trans (Nat.pow_le_pow_right (by omega) (show j + 1 ≤ 7 by omega)) (by decide)
      have HC := Lib.hid (fun W (hp : Pol .a W (.slice A2 (j + 1) c2) P 2) => Count_any A2 (j + 1) c2 P 2 6000 (-100) 1 100 1 W hp (by omega) (by decide) (by decide) (by decide) (by decide) (.inl (by rw [z1, hl]; omega)) (by omega))
      have HN := Lib.hid (fun W (hp : Pol .a W (.slice A2 (j + 1) c2) P 2) => Negative_any A2 (j + 1) c2 P 2 6000 (-100) 1 100 1 W hp (by omega) (by decide) (by decide) (by decide) (by decide) (.inl ⟨by rw [z1, hl]; omega, by omega⟩) (by omega))
      rw [hris, z3, z4, if_pos rfl, if_pos rfl, if_pos rfl] at HC
      rw [hris, z3, z5, if_pos rfl, if_pos rfl, if_pos rfl] at HN
      have f0 := HS.out.rl.c0
      have f1 := HS.out.rl.c1
      have f2 := HS.out.rh.c0
      have f3 := HS.out.rh.c1
      clear hP hM z1 z2 z3 z4 z5 htk hl
      go_wp2_with (first
        | (go_at_call 16; (with_reducible refine (HC.out _ HS.out.pol.any).mono ?_); rintro e w3 ⟨rfl, hb⟩; have HS := Lib.hid (HS.out.step hb); clear hb f0 f1 f2 f3; have f0 := HS.out.rl.c0; have f1 := HS.out.rl.c1; have f2 := HS.out.rh.c0; have f3 := HS.out.rh.c1)
        | (go_at_call 17; (with_reducible refine (HN.out _ HS.out.pol.any).mono ?_); rintro e w4 ⟨rfl, hb⟩; have HS := Lib.hid (HS.out.step hb); clear hb f0 f1 f2 f3)
        | (at_range; refine wpList_range_own _ rfl _ 51 rfl 24 3 lawK Tryz.underlying51 _ B _ _ rfl HS.out.own ?_; intro w0 hrg0 hg0 hs0))
      go_frame
      have hB4 : Below w4.heap.size w4 w0 := ⟨hg0.os, hg0.tape, hg0.output, hg0.size, fun k hk => hg0.block k hk (by simp)⟩
      obtain ⟨r, hr⟩ : ∃ r, r = w4.heap.size := ⟨_, rfl⟩
      rw [← hr] at hrg0 hB4 ⊢
      have HRR := Lib.hid hr
      have hM6 : M.length ≤ 6 := by
        have h1 := HL.out.size
        have h2 : Maps.size D ≤ j := by
          obtain ⟨es, clock, _, _, hs, hD⟩ := HS.out.own
          rw [hD, Maps.size_eq, length_sorted]
          simpa using hs
        omega
      have hst : oddL (Maps.has D) M = oddL (fun _ => true) M := oddL_congr fun e he => (HL.out.val e he).1
      clear hg0 hs0 hr
      go_loopw [21] (fun s wr => ∃ (left : Lit → Bool) (cnt od : Nat), s = .int .i64 (od : Int) ∧ od + oddL left M = oddL (fun _ => true) M ∧ wr.ranges Tryz.prog 24 (plainElem Tryz.prog 3) B r j D left cnt ∧ Below r w4 wr)
        (fun _ wr => wr.rangeLeft B r)
      case atStart => exact ⟨_, _, 0, rfl, by rw [hst]; omega, hrg0, hB4⟩
      case round =>
        obtain ⟨left, cnt, od, rfl, hod, hrg, hB⟩ := hrel
        go_wp2_with (at_next; refine wpList_next_ranges _ rfl _ rfl 24 lawK (plainElem Tryz.prog 3) (fun v => v) (Value.int .i64) (fun key _ _ => ⟨key, rfl⟩) (fun v y hv => by obtain ⟨c, rfl, _⟩ := plainElem_int_inv Tryz.underlying3 hv; exact ⟨c, rfl⟩) B r j D left cnt rfl hrg ?_ ?_)
        · intro _ hl0
          have hoe : od = oddL (fun _ => true) M := by rw [oddL_none hl0] at hod; omega
          subst hoe
          have HS := Lib.hid (HS.out.step (by have h1 := HRR.out; subst h1; exact hB))
          have HA := Lib.hid (fun W (hp : Pol .a W (.slice A2 (j + 1) c2) P 2) => pat_yes A2 (j + 1) c2 P 2 xn 7 W hp (by omega) (by omega) (by have := HX.out.1; have h1 := Int.natAbs_tmod x 21; have h2 : x.natAbs % 21 < 21 := Nat.mod_lt _ (by decide); have h3 : (21 : Int).natAbs = 21 := rfl; rw [h3] at h1; unfold Fit; omega) (by decide) hmx)
          have hsz := HL.out.size
          have f0 := HS.out.rx.c0
          have f1 := HS.out.rx.c1
          go_wp2_with (first
            | (go_at_call 25; (with_reducible refine (HA.out _ HS.out.pol.any).mono ?_); rintro e w6 ⟨Z, rfl, ⟨nb, vb, xb, rfl, hz⟩, hb⟩; have HZ := Lib.hid hz.2; obtain ⟨Ab, cb, rfl⟩ := hz.1.slice; have HS := Lib.hid (HS.out.step hb); clear hz hb f0 f1)
            | (at_len; refine wpList_len_own _ rfl _ 51 rfl 24 3 Tryz.underlying51 _ B _ _ rfl (HS.out.alloc _).own ?_; rw [hsz]))
          have hnb := neg_is ⟨HZ.out.1, HZ.out.2.1, Nat.le_refl _, HZ.out.2.2.2⟩ hsg
          rw [hnb]
          go_ret
          exact ⟨rfl, bel_tr HS.out.bel (bel_a _ _)⟩
        · intro xk ck kl y1 y2 w5 cnt1 hkey hlk hRy hat hrg1 hlt hg1 hs1 hen
          obtain ⟨ck2, hck, hyy, hwc⟩ := plainElem_int_inv Tryz.underlying3 hRy
          injection hck with _ hck
          subst hck
          injection hyy with hyy _
          obtain ⟨e, he, hke⟩ := HL.out.has kl (has_true_of_atKey hat)
          have hv := (HL.out.val e he).2 (num64 0)
          rw [← hke, hat, hyy] at hv
          have hce : ck = (e.2 : Int) := by
            unfold num64 at hv
            injection hv with hv
            injection hv
          subst hce
          have hB1 : Below r w4 w5 := hB.grown hg1 (by have h1 := HRR.out; have h2 := hB.size; omega) (fun i hi => by cases hi; exact Nat.le_refl _)
          have hsk := oddL_strike (left := left) HL.out.fit HL.out.apart e he (by rw [← hke]; exact hlk)
          rw [← hke] at hsk
          have hb64 := bounds_i64 hwc
          have hol := oddL_le (fun _ => true) M
          have HSK := Lib.hid hsk
          have HOD := Lib.hid hod
          have hodm : od ≤ 6 := by omega
          clear hsk hod hol hv hke hRy hyy
          go_wp2_with fail
          exact ⟨⟨_, cnt1, od + e.2 % 2, by simp, by have h1 := HSK.out; have h2 := HOD.out; omega, hrg1, hB1⟩, by rw [hrg1.left_eq, hrg.left_eq]; exact hlt⟩
end Go.Proofs.YtpobhegllhhdgaaGreat
