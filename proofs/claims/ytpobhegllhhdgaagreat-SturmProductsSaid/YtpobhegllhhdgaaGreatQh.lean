/- Proved here: what package poly's divide answers and leaves in memory. Condition: a polynomial of at most 100 numbers of at most 50000 digits, not the empty list, that lies in memory, and a fraction that may be. -/
import Derived.Test.YtpobhegllhhdgaaGreatQg
namespace Go.Proofs.YtpobhegllhhdgaaGreat
open Go.RowKit

set_option maxRecDepth 100000 in
set_option maxHeartbeats 4000000 in
theorem pdivide_any (A : Option Addr) (m M c : Nat) (L : List Int) (l : Nat) (n d : Int) (w : World) (h : Pol .c w (.slice A m c) L l) (hM : m = M + 1) (hm : m ≤ 100) (hl : l ≤ 50000) (hn : Fit n) (hd : Fit d) (hmb : Maybe n d) :
    Calls Tryz.prog 106 #[.slice A m c, .agg #[.int .i64 n, .int .i64 d]] w (DiE n d L (l + 3 * m) w) := by
  have hmL := h.cap.1
  have H := Lib.hid h
  have HM := Lib.hid hmL
  have HMB := Lib.hid hmb
  have e0 : (m : Int) - 1 = (M : Int) := by omega
  have hmk := fun W => mkBig M (by omega) W (M : Int) rfl
  have HN := Lib.hid (fun W => of_any n W hn.1 hn.2)
  have HB := Lib.hid (show Rt (w.alloc (.cells #[.int .i64 n, .int .i64 d] 24)) w.heap.size n d ∧ Below w.heap.size w (w.alloc (.cells #[.int .i64 n, .int .i64 d] 24)) from ⟨Rt.new w n d, bel_a _ _⟩)
  obtain ⟨f0, f1⟩ := rt_facts HB.out.1
  have HMM := Lib.hid hM
  obtain ⟨lo, hlo⟩ : ∃ lo, lo = l + 3 * m := ⟨_, rfl⟩
  rw [← hlo]
  clear h hmL hmb hM
  go_enter Tryz.func106, Tryz.ntmps106
  go_upto_region 4 with (go_at_call 53; (with_reducible refine (HN.out _).mono ?_); rintro e w1 he; obtain ⟨n1, B1, p1, q1, rfl, he1, hb⟩ := he.open1; have HB := Lib.hid (And.intro (HB.out.1.below hb HB.out.1.lt) (bel_tr HB.out.2 hb)); have HE1 := Lib.hid he1; clear f0 f1 he he1 hb; obtain ⟨f0, f1⟩ := rt_facts HB.out.1)
  have HS := Lib.hid (DvH.start (M := M) (lo := lo) (lc := 2) HB.out.1 HB.out.2 HE1.out)
  obtain ⟨gn, hgn⟩ : ∃ gn, gn = w1.heap.size := ⟨_, rfl⟩
  obtain ⟨go, hgo⟩ : ∃ go, go = gn + 1 := ⟨_, rfl⟩
  obtain ⟨gc, hgc⟩ : ∃ gc, gc = go + 1 := ⟨_, rfl⟩
  obtain ⟨W4, hW4⟩ : ∃ W4, W4 = ((w1.alloc (.cells #[.bool n1, .slice B1 p1 q1] 60)).alloc (.cells (List.flatten (List.replicate M [.bool false, .slice none 0 0])).toArray 60)).alloc (.cells #[.bool false, .slice none 0 0] 60) := ⟨_, rfl⟩
  rw [← hW4] at HS ⊢
  rw [← hgn] at HS ⊢
  rw [← hgo] at HS ⊢
  rw [← hgc] at HS ⊢
  clear hgn hgo hgc hW4 HB HE1 f0 f1 HN hmk
  go_wp2_with fail
  go_loopw [9] (fun s wr => ∃ (i : Nat) (cy : Int) (bc : Bool) (vc : Value), s = .int .i64 (i : Int) ∧ i < m ∧ exq n d (L.drop (i + 1)) ∧ cy = hd0 (syn n d (L.drop (i + 1))) * n ∧
    DvH w wr n d gn go gc (List.replicate i 0 ++ syn n d (L.drop (i + 1))) cy lo (l + 3 * (m - i)) n1 (.slice B1 p1 q1) bc vc) (fun s _ => (intOf s).toNat)
  case atStart =>
    refine ⟨M, 0, false, .slice none 0 0, rfl, by omega, ?_, ?_, ?_⟩
    · rw [List.drop_eq_nil_of_le (by rw [← HM.out, HMM.out]; exact Nat.le_refl _)]; trivial
    · rw [List.drop_eq_nil_of_le (by rw [← HM.out, HMM.out]; exact Nat.le_refl _)]; simp [syn, hd0_nil]
    · rw [List.drop_eq_nil_of_le (by rw [← HM.out, HMM.out]; exact Nat.le_refl _)]
      rw [show List.replicate M 0 ++ syn n d [] = List.replicate M (0 : Int) by simp [syn]]
      exact HS.out.le (Nat.le_refl _) (by omega)
  case round =>
    obtain ⟨i, cy, bc, vc, rfl, hi, hex, hcy, hS⟩ := hrel
    obtain ⟨Bc, ic, jc, rfl⟩ := hS.ec.ne_int
    have HX := Lib.hid (And.intro hex hcy)
    have HD := Lib.hid hS
    clear hex hcy hS HS
    obtain ⟨f0, f1, f2, f3, f4, f5, f6, f7⟩ := HD.out.facts
    rcases i with _ | k
    · obtain ⟨ad, na, Ba, pa, qa, rfl, had, c0, c1, he⟩ := H.out.get 0 (by rw [← HM.out]; exact hi)
      have g0 : wr.cell? ad = some (.bool na) := by rw [HD.out.bel.cell had]; simpa [add_zero_] using c0
      have g1 : wr.cell? { block := ad.block, off := ad.off + 1 } = some (.slice Ba pa qa) := by
        have e1 : (⟨ad.block, ad.off + 1, none⟩ : Addr) = ad.add 1 := by have := add_next ad 0; simpa [add_zero_] using this
        rw [e1, HD.out.bel.cell (by rw [block_of_add]; exact had)]; simpa using c1
      have HE := Lib.hid (he.bel HD.out.bel)
      have HC := Lib.hid (And.intro c0 c1)
      clear he c0 c1
      go_wp2_with fail
      have HG := Lib.hid (fun (W : World) (hW : Below w.heap.size w W) => (show W.cell? ad = some (.bool na) ∧ W.cell? { block := ad.block, off := ad.off + 1 } = some (.slice Ba pa qa) from by
        have e1 : (⟨ad.block, ad.off + 1, none⟩ : Addr) = ad.add 1 := by have := add_next ad 0; simpa [add_zero_] using this
        refine ⟨by rw [hW.cell had]; simpa [add_zero_] using HC.out.1, ?_⟩
        rw [e1, hW.cell (by rw [block_of_add]; exact had)]; simpa using HC.out.2))
      go_region_held3 (fun w' => w'.cell? ad = some (.bool na) ∧ w'.cell? { block := ad.block, off := ad.off + 1 } = some (.slice Ba pa qa) ∧ w'.cell? ⟨gc, 0, none⟩ = some (.bool bc) ∧ w'.cell? ⟨gc, 1, none⟩ = some (.slice Bc ic jc))
        (exact ⟨g0, g1, f2, f3⟩)
        (first
        | (go_at_call 58; (with_reducible refine (add_any (.agg #[.bool na, .slice Ba pa qa]) (.agg #[.bool bc, .slice Bc ic jc]) (co L 0) cy l (l + 3 * (m - 0)) _ HE.out.drew.one_ HD.out.drew.ec.one_ (by omega) (by omega)).mono ?_); rintro e w6 he; obtain ⟨n6, B6, p6, q6, rfl, he1, hb⟩ := he.open1; have HE6 := Lib.hid he1; have HD := Lib.hid (HD.out.drew.next hb); clear he he1 hb g0 g1 f0 f1 f2 f3 f4 f5 f6 f7; obtain ⟨g0, g1⟩ := HG.out _ HD.out.bel; obtain ⟨f0, f1, f2, f3, f4, f5, f6, f7⟩ := HD.out.facts)
        | (go_at_call 78; (with_reducible refine (sign_any (.agg #[.bool n6, .slice B6 p6 q6]) (co L 0 + cy) (max l (l + 3 * (m - 0)) + 1) _ HE6.out.one_).mono ?_); rintro e w7 ⟨rfl, hb⟩; have HD := Lib.hid (HD.out.next hb); clear hb g0 g1 f0 f1 f2 f3 f4 f5 f6 f7; obtain ⟨g0, g1⟩ := HG.out _ HD.out.bel; obtain ⟨f0, f1, f2, f3, f4, f5, f6, f7⟩ := HD.out.facts))
      all_goals
        go_wp2_with fail
        go_ret2
        refine ⟨some ⟨go, 0, none⟩, M, M, by rw [pdiv_true HMB.out (by rw [← HM.out]; exact hi) HX.out]; rfl, HD.out.bel, fun _ => ?_⟩
        have hP := HD.out.O.pol (by simp [syn_len]; rw [← HM.out]; omega)
        rw [show List.replicate 0 (0 : Int) ++ syn n d (L.drop (0 + 1)) = syn n d (L.drop 1) from rfl] at hP
        rw [show (syn n d (L.drop 1)).length = M by rw [syn_len, List.length_drop, ← HM.out, HMM.out]; rfl] at hP
        exact hP
    · obtain ⟨i, hi2⟩ : ∃ i, i = k + 1 := ⟨_, rfl⟩
      rw [← hi2] at hi HX HD
      rw [← hi2]
      obtain ⟨ad, na, Ba, pa, qa, rfl, had, c0, c1, he⟩ := H.out.get i (by rw [← HM.out]; exact hi)
      have HG := Lib.hid (fun (W : World) (hW : Below w.heap.size w W) => (show (W.cell? (ad.add (i * 2)) = some (.bool na) ∧ W.cell? { block := (ad.add (i * 2)).block, off := (ad.add (i * 2)).off + 1 } = some (.slice Ba pa qa)) ∧ El .c W (.agg #[.bool na, .slice Ba pa qa]) (co L i) l from
        ⟨⟨by rw [hW.cell (by rw [block_of_add]; exact had)]; exact c0, by rw [add_next, hW.cell (by rw [block_of_add]; exact had)]; exact c1⟩, he.bel hW⟩))
      have HK := Lib.hid hi2
      have hik : (i : Int) - 1 = (k : Int) := by omega
      have hi0 : 0 < i := by omega
      have hki : (i : Int) < (m : Int) := by omega
      have hkM : (k : Int) < (M : Int) := by have := HMM.out; omega
      clear he c0 c1 hi2
      go_upto_region 7 with fail
      obtain ⟨S, hS⟩ : ∃ S, S = co L i + cy := ⟨_, rfl⟩
      obtain ⟨lc, hlc⟩ : ∃ lc, lc = l + 3 * (m - i) := ⟨_, rfl⟩
      obtain ⟨cur, hcur⟩ : ∃ cur, cur = List.replicate i 0 ++ syn n d (L.drop (i + 1)) := ⟨_, rfl⟩
      have HLC := Lib.hid hlc
      have hlc2 : lc ≤ 60000 ∧ l ≤ lc := by omega
      have HQ := Lib.hid (And.intro hS hcur)
      rw [← hlc, ← hcur] at HD
      have h33 := Lib.hid (fun (W : World) (Lx : List Nat) (h : DvL w W n d gn go gc cur cy lo lc n1 (.slice B1 p1 q1) bc (.slice Bc ic jc) Lx []) =>
        (show Calls Tryz.prog 58 #[.agg #[.bool na, .slice Ba pa qa], .agg #[.bool bc, .slice Bc ic jc]] W (fun e W' => ∃ b B p q, e = .returned (.agg #[.bool b, .slice B p q]) ∧ DvL w W' n d gn go gc cur cy lo lc n1 (.slice B1 p1 q1) bc (.slice Bc ic jc) Lx [(.agg #[.bool b, .slice B p q], S, lc + 1)]) from
          (add_any _ _ _ _ l lc _ (HG.out W h.h.bel).2.one_ h.h.ec.one_ (by omega) (by omega)).mono (fun e W' he => by
            obtain ⟨b, B, p, q, rfl, he1, hb⟩ := he.open1
            rw [← hS] at he1
            exact ⟨b, B, p, q, rfl, (h.next hb).put (he1.le (by omega))⟩)))
      obtain ⟨r, hr⟩ : ∃ r, r = S.tmod d := ⟨_, rfl⟩
      have hdne : d ≠ 0 := by have := HMB.out.1; omega
      have h68 := Lib.hid (fun (W : World) (Lx : List Nat) (b : Bool) (B : Option Addr) (p q : Nat) (h : DvL w W n d gn go gc cur cy lo lc n1 (.slice B1 p1 q1) bc (.slice Bc ic jc) Lx [(.agg #[.bool b, .slice B p q], S, lc + 1)]) =>
        (show Calls Tryz.prog 122 #[.agg #[.bool b, .slice B p q], .int .i64 d] W (fun e W' => ∃ b B p q, e = .returned (.tuple #[.agg #[.bool b, .slice B p q], .int .i64 r, .int .i64 0]) ∧ DvL w W' n d gn go gc cur cy lo lc n1 (.slice B1 p1 q1) bc (.slice Bc ic jc) Lx [(.agg #[.bool b, .slice B p q], S.tdiv d, lc + 1)]) from
          (bdiv_any _ S d (lc + 1) W (El.one_ (h.es _ (List.mem_cons_self))) (by omega) hdne hd.1 hd.2).mono (fun e W' he => by
            obtain ⟨b, B, p, q, rfl, he1, hb⟩ := he.open1
            rw [← hr]
            exact ⟨b, B, p, q, rfl, DvL.put ⟨(h.next hb).h, (h.next hb).bx, fun e he => by cases he⟩ he1⟩)))
      have hSF := Lib.hid (fun (W : World) (Lx : List Nat) (Ex : List (Value × Int × Nat)) (h : DvL w W n d gn go gc cur cy lo lc n1 (.slice B1 p1 q1) bc (.slice Bc ic jc) Lx Ex) =>
        (show W.cell? (ad.add (i * 2)) = some (.bool na) ∧ W.cell? { block := (ad.add (i * 2)).block, off := (ad.add (i * 2)).off + 1 } = some (.slice Ba pa qa) ∧ W.cell? ⟨gc, 0, none⟩ = some (.bool bc) ∧ W.cell? ⟨gc, 1, none⟩ = some (.slice Bc ic jc) ∧ W.cell? ⟨w.heap.size, 1, none⟩ = some (.int .i64 d) from
          ⟨(HG.out W h.h.bel).1.1, (HG.out W h.h.bel).1.2, h.h.C.c0, h.h.C.c1, h.h.x.c1⟩))
      have hSR := Lib.hid (fun (W : World) (g : Nat) (z : Int) (lz : Nat) (h : DvR w W n d gn go gc cur cy lo lc n1 (.slice B1 p1 q1) bc (.slice Bc ic jc) g z lz) =>
        (show W.cell? (ad.add (i * 2)) = some (.bool na) ∧ W.cell? { block := (ad.add (i * 2)).block, off := (ad.add (i * 2)).off + 1 } = some (.slice Ba pa qa) ∧ W.cell? ⟨gc, 0, none⟩ = some (.bool bc) ∧ W.cell? ⟨gc, 1, none⟩ = some (.slice Bc ic jc) ∧ W.cell? ⟨w.heap.size, 1, none⟩ = some (.int .i64 d) from
          ⟨(HG.out W h.1.bel).1.1, (HG.out W h.1.bel).1.2, h.1.C.c0, h.1.C.c1, h.1.x.c1⟩))
      have HL := Lib.hid (show DvL w wr n d gn go gc cur cy lo lc n1 (.slice B1 p1 q1) bc (.slice Bc ic jc) [] [] from ⟨HD.out, fun g hg => (by cases hg), fun e he => (by cases he)⟩)
      obtain ⟨t, ht⟩ : ∃ t, t = S.tdiv d := ⟨_, rfl⟩
      have HTR := Lib.hid (And.intro hr ht)
      rw [← ht] at h68
      clear hr hS hlc hcur ht HD f0 f1 f2 f3 f4 f5 f6 f7
      go_cut [10, 11, 12] from 27 to 39 (fun s x y wx => ∃ g, s = .pointer (some ⟨g, 0, none⟩) ∧ x = .int .i64 r ∧ y = .int .i64 0 ∧ DvR w wx n d gn go gc cur cy lo lc n1 (.slice B1 p1 q1) bc (.slice Bc ic jc) g t (lc + 1))
      case first =>
        go_region_held3 (fun w' => w'.cell? (ad.add (i * 2)) = some (.bool na) ∧ w'.cell? { block := (ad.add (i * 2)).block, off := (ad.add (i * 2)).off + 1 } = some (.slice Ba pa qa) ∧ w'.cell? ⟨gc, 0, none⟩ = some (.bool bc) ∧ w'.cell? ⟨gc, 1, none⟩ = some (.slice Bc ic jc) ∧ w'.cell? ⟨w.heap.size, 1, none⟩ = some (.int .i64 d))
          (first
            | with_reducible exact hSF.out _ _ _ HL.out
            | with_reducible exact hSF.out _ _ _ HL.out.drew
            | with_reducible exact hSF.out _ _ _ HL.out.alloc
            | with_reducible exact hSF.out _ _ _ HL.out.alloc.drew
            | with_reducible exact hSF.out _ _ _ HL.out.drew.alloc
            | (exact hSR.out _ _ t (lc + 1) (HL.out.fin1 (by simp) (by simp)))
            | (exact hSR.out _ _ t (lc + 1) (HL.out.fin2 (by simp))))
          (first
            | (go_at_call 58; (first | (with_reducible refine (h33.out _ _ HL.out).mono ?_) | (with_reducible refine (h33.out _ _ HL.out.drew).mono ?_) | (with_reducible refine (h33.out _ _ HL.out.alloc).mono ?_) | (with_reducible refine (h33.out _ _ HL.out.alloc.drew).mono ?_) | (with_reducible refine (h33.out _ _ HL.out.drew.alloc).mono ?_)); rintro e w6 ⟨n6, B6, p6, q6, rfl, hL⟩; have HL := Lib.hid hL; clear hL)
            | (go_at_call 122; (first | (with_reducible refine (h68.out _ _ _ _ _ _ HL.out).mono ?_) | (with_reducible refine (h68.out _ _ _ _ _ _ HL.out.alloc).mono ?_)); rintro e w7 ⟨n7, B7, p7, q7, rfl, hL⟩; have HL := Lib.hid hL; have hbx := HL.out.bxs; (try simp only [List.forall_mem_cons, List.not_mem_nil, false_implies, implies_true, and_true] at hbx); clear hL))
        all_goals go_wp2_with fail
        all_goals go_meet
        all_goals refine ⟨_, rfl, rfl, rfl, ?_⟩
        all_goals first
          | (exact HL.out.fin2 (by simp))
          | (exact HL.out.fin1 (by simp) (by simp))
      case rest =>
        obtain ⟨g, rfl, rfl, rfl, hR⟩ := hcut
        obtain ⟨hD, q1', q2', q3', q4', n8, B8, p8, q8, hx8, he8⟩ := hR
        have HD := Lib.hid hD
        have HE := Lib.hid (And.intro hx8 he8)
        clear hD hx8 he8 HL hSR hSF h33 h68
        obtain ⟨g0, g1⟩ := And.intro HE.out.1.c0 HE.out.1.c1
        by_cases hr0 : r = 0
        · have HR := Lib.hid (show d ∣ co L i + hd0 (syn n d (L.drop (i + 1))) * n ∧ t = (co L i + hd0 (syn n d (L.drop (i + 1))) * n).tdiv d by
            have e1 : S = co L i + hd0 (syn n d (L.drop (i + 1))) * n := by rw [HQ.out.1, HX.out.2]
            rw [← e1]
            exact ⟨Int.dvd_of_tmod_eq_zero (by rw [← HTR.out.1, hr0]), HTR.out.2⟩)
          subst hr0
          have fr := HD.out.O.fr
          obtain ⟨_, _, _, _, g2, g3, _⟩ := HD.out.O.get k (by rw [HQ.out.2, List.length_append, List.length_replicate, HK.out]; omega)
          go_upto_region 11 with fail
          have HV := Lib.hid (HD.out.puto (HE.out.2.le (show lc + 1 ≤ lo by have := HLC.out; have := HK.out; omega)) k)
          have HE2 := Lib.hid (show Bx 60 ((wc.setCell ⟨go, k * 2, none⟩ (.bool n8)).setCell ⟨go, k * 2 + 1, none⟩ (.slice B8 p8 q8)) g n8 (.slice B8 p8 q8) ∧ El .c ((wc.setCell ⟨go, k * 2, none⟩ (.bool n8)).setCell ⟨go, k * 2 + 1, none⟩ (.slice B8 p8 q8)) (.agg #[.bool n8, .slice B8 p8 q8]) t (lc + 1) from
            ⟨HE.out.1.two q3' _ _ _ _, HE.out.2.two HD.out.O _ _ _ _ _ _⟩)
          obtain ⟨W5, hW5⟩ : ∃ W5, W5 = (wc.setCell ⟨go, k * 2, none⟩ (.bool n8)).setCell ⟨go, k * 2 + 1, none⟩ (.slice B8 p8 q8) := ⟨_, rfl⟩
          rw [← hW5] at HV HE2 ⊢
          clear hW5 g0 g1 g2 g3 fr HD HE
          obtain ⟨g0, g1⟩ := And.intro HE2.out.1.c0 HE2.out.1.c1
          obtain ⟨f0, f1, f2, f3, f4, f5, f6, f7⟩ := HV.out.facts
          go_wp2_with (go_at_call 59; (with_reducible refine (mul_any (.agg #[.bool n8, .slice B8 p8 q8]) (.agg #[.bool n1, .slice B1 p1 q1]) t n (lc + 1) 2 _ HE2.out.2.one_ HV.out.en.one_ (by omega) (by omega)).mono ?_); rintro e w9 he; obtain ⟨n9, B9, p9, q9, rfl, he1, hb⟩ := he.open1; have HV := Lib.hid (HV.out.next hb); have HE9 := Lib.hid he1; clear f0 f1 f2 f3 f4 f5 f6 f7 g0 g1 he he1; obtain ⟨f0, f1, f2, f3, f4, f5, f6, f7⟩ := HV.out.facts; clear hb)
          go_roundw
          case rel =>
            have hiL : i < L.length := by rw [← HM.out]; exact hi
            have hV := HV.out.putc HE9.out
            rw [HQ.out.2, HR.out.2, pdiv_step HK.out hiL] at hV
            exact ⟨k, t * n, _, _, rfl, by have := HK.out; omega, pdiv_exact HK.out hiL HX.out.1 HR.out.1, by rw [pdiv_head HK.out hiL, HR.out.2], by rw [HR.out.2]; exact hV.le (Nat.le_refl _) (by have := HLC.out; have := HK.out; omega)⟩
          case measure => simp [intOf]; have := HK.out; omega
        · have h1 : (r == 0) = false := by simpa using hr0
          have h2 : (r != 0) = true := by simpa using hr0
          have HNR := Lib.hid (show hor n d L ≠ 0 by
            have e1 : S = co L i + hd0 (syn n d (L.drop (i + 1))) * n := by rw [HQ.out.1, HX.out.2]
            have hk := HK.out
            rw [hk] at e1
            refine not_root HMB.out.1 HMB.out.2 (i := k) (by rw [← hk, ← HM.out]; exact hi) ?_
            rw [← e1]
            intro hdv
            exact hr0 (by rw [HTR.out.1]; exact Int.tmod_eq_zero_of_dvd hdv))
          go_wp2_with fail
          go_ret2
          exact ⟨none, 0, 0, by rw [decide_eq_false HNR.out]; rfl, HD.out.bel, fun h => absurd h HNR.out⟩
end Go.Proofs.YtpobhegllhhdgaaGreat
