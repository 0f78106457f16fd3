/- Proved here: what the document's Parse answers. Condition: a text of at most a billion bytes. -/
import Derived.Test.YtlfnagfcggmeaaaUA
namespace Go.Proofs.Ytlfnagfcggmeaaa
open Go.RowKit

theorem cutAt_take {l : List UInt8} {fl xs ys : List Int} {N i j : Nat} (h1 : j < frm l (i + 1) - frm l i) (h2 : frm l i + j < N) : (cutAt l (pnts fl xs ys N) i).take (j + 1) = (cutAt l (pnts fl xs ys N) i).take j ++ [pnt fl xs ys (frm l i + j)] := by
  have e : (cutAt l (pnts fl xs ys N) i)[j]? = some (pnt fl xs ys (frm l i + j)) := by
    unfold cutAt
    rw [List.getElem?_take_of_lt h1, List.getElem?_drop]
    simp [pnts, h2]
  rw [List.take_add_one, e]
  rfl
theorem odd_bit (f : Nat) : ((f : Int) % 2 == 1) = decide ((f : Int) % 2 = 1) := by
  rcases Nat.mod_two_eq_zero_or_one f with h | h
  · have e : (f : Int) % 2 = 0 := by omega
    rw [e]; rfl
  · have e : (f : Int) % 2 = 1 := by omega
    rw [e]; rfl
/-- Contours in rows of their own. -/
def CtO (W : World) (A : Option Addr) (k c : Nat) (LL : List (List Pt)) : Prop := LL.length = k ∧ ∃ base cs, W.ownsRow base 47 1 (.slice A k c) k cs ∧ Fo W k (ct LL) cs
theorem CtO.nil (W : World) : CtO W none 0 0 [] := ⟨rfl, 0, [], World.ownsRow_nil _ _ _ _, ⟨rfl, fun i hi => by omega⟩⟩
theorem CtO.ctl {W : World} {A : Option Addr} {k c : Nat} {LL : List (List Pt)} (h : CtO W A k c LL) : Ctl W A k LL := by
  obtain ⟨hl, base, cs, ho, hf⟩ := h
  refine ⟨hl, fun j hj => ?_⟩
  obtain ⟨ad, h1, h2, h3⟩ := own_cell ho (by omega)
  obtain ⟨B, c', h4, h5, _⟩ := hf.get j hj
  exact ⟨ad, B, c', h1, h2, h3 _ _ h4, h5⟩
theorem OuS.cto {w W : World} {i c : Nat} {A : Option Addr} {C : Nat → List Pt} {cs : List Value} (h : OuS w W (.slice A i c) i C cs) : CtO W A i c ((List.range i).map C) :=
  ⟨by simp, _, cs, h.own, ⟨h.fo.len, fun j hj => by rw [ct_gen hj]; exact h.fo.get j hj⟩⟩
/-- What Parse answers. -/
def PaT (R : Int × List (List Pt)) (w : World) (e : Ending) (w' : World) : Prop :=
  ∃ A k c, e = .returned (.tuple #[.slice A k c, .int .i64 R.1]) ∧ CtO w' A k c R.2 ∧ Below w.heap.size w w'
theorem paT_err {R : Int × List (List Pt)} {w w' : World} {x : Int} (h : R = (x, [])) (ho : Below w.heap.size w w') : PaT R w (.returned (.tuple #[.slice none 0 0, .int .i64 x])) w' := by
  subst h
  exact ⟨none, 0, 0, rfl, CtO.nil _, ho⟩
theorem PaT.pap {R : Int × List (List Pt)} {w : World} {e : Ending} {w' : World} (h : PaT R w e w') : PaP R w e w' := by
  obtain ⟨A, k, c, h1, h2, h3⟩ := h
  exact ⟨A, k, c, h1, h2.ctl, h3⟩
set_option maxHeartbeats 8000000 in
set_option maxRecDepth 100000 in
theorem rparse_own (s : ByteArray) (w : World) (hs : s.size ≤ 1000000000) : Calls Try.prog 29 #[.string s] w (PaT (prs s.data.toList) w) := by
  have HE := Lib.hid (show ∀ x w', prs s.data.toList = (x, []) → Below w.heap.size w w' → PaT (prs s.data.toList) w (.returned (.tuple #[.slice none 0 0, .int .i64 x])) w' from fun x w' h1 h2 => paT_err h1 h2)
  have HS := Lib.hid hs
  by_cases h0 : s.size = 0
  · have hX : prs s.data.toList = (0, []) := by unfold prs; rw [size_list, if_pos h0]
    have hse : s = ⟨#[]⟩ := by
      apply ByteArray.ext
      apply Array.eq_empty_of_size_eq_zero
      exact h0
    have HX := Lib.hid (HE.out 0 w hX (Below.refl _ _))
    subst hse
    clear hX h0 hs
    go_enter Try.func29, Try.ntmps29
    go_wp2_with fail
    go_ret2
    exact HX.out
  · have hne : s.toList.isEmpty = false := by
      rw [Go.ByteArray.toList_eq]
      cases hl : s.data.toList with
      | nil => rw [← size_list, hl] at h0; exact absurd rfl h0
      | cons c r => rfl
    have hP : prs s.data.toList = if s.size < 10 then (3, []) else if sg16 (n2 s.data.toList 0) < 0 then (4, []) else if 256 < sg16 (n2 s.data.toList 0) then (6, []) else if sg16 (n2 s.data.toList 0) = 0 then (0, []) else prC s.data.toList (sg16 (n2 s.data.toList 0)).toNat := by unfold prs; rw [size_list, if_neg h0]
    have HP := Lib.hid hP
    clear hP
    go_enter Try.func29, Try.ntmps29
    go_upto_region 4 with fail
    have HR0 := Lib.hid (Rd.new 90 w s)
    have HB0 := Lib.hid ((Below.refl w.heap.size w).alloc (Nat.le_refl _) (.cells #[.string s, .int .i64 0, .bool false] 90))
    obtain ⟨g, hg⟩ : ∃ b, b = w.heap.size := ⟨_, rfl⟩
    obtain ⟨w1, hw1⟩ : ∃ W, W = w.alloc (.cells #[.string s, .int .i64 0, .bool false] 90) := ⟨_, rfl⟩
    rw [← hw1] at HR0 HB0 ⊢
    rw [← hg] at HR0 ⊢
    have HG := Lib.hid hg
    have HRo := Lib.hid (RoS.start HR0.out (Nat.zero_le s.size))
    have CU := Lib.hid (rri16_any g s 0 false w1 HR0.out HS.out (Nat.zero_le _))
    clear hw1 hg hs
    go_upto_region 6 with (first
      | (go_at_call 46; (with_reducible refine CU.out.mono ?_); rintro e w3 ⟨v, a2, f2, rfl, ⟨hv1, hv2⟩, hnx, hq, hr, ho⟩; have H2 := Lib.hid (And.intro hnx (And.intro hq (And.intro hr ho))); have CK := Lib.hid (show Calls Try.prog 47 #[.pointer (some ⟨g, 0, none⟩), .int .i64 8] w3 _ from rtake_any g s _ _ 8 w3 hr HS.out hnx.le); clear hnx hq hr ho)
      | (go_at_call 47; (with_reducible refine CK.out.mono ?_); rintro e w4 ⟨D, a3, f3, rfl, hnx, hr, ho⟩; have H3 := Lib.hid (And.intro hnx (And.intro hr ho)); clear hnx hr ho))
    have HR4 := Lib.hid ((HRo.out.read H2.out.2.2.1 H2.out.2.2.2 H2.out.1.le).read H3.out.2.1 H3.out.2.2 H3.out.1.le)
    have HW := Lib.hid (show ∀ W, Onl g w1 W → Below w.heap.size w W from fun W h => HB0.out.trans (h.below (by rw [HG.out]; exact Nat.le_refl _) HB0.out.size))
    obtain ⟨_, bA, bF, _, _⟩ := HR4.out.rd.facts
    cases f3
    · obtain ⟨hf2, h5, ha3⟩ := H3.out.1.yes rfl
      obtain ⟨_, h4, ha2⟩ := H2.out.1.yes hf2
      have hvv := H2.out.2.1 hf2
      have haa : a3 = 10 := by omega
      have hP := HP.out
      rw [← hvv, if_neg (by omega)] at hP
      have H10 := Lib.hid (show 10 ≤ s.size by omega)
      rw [haa] at HR4 bA
      have bA : w4.cell? ⟨g, 1, none⟩ = some (.int .i64 10) := bA
      clear hf2 h5 ha3 h4 ha2 hvv haa
      by_cases c1 : v < 0
      · rw [if_pos c1] at hP
        have HX := Lib.hid (HE.out 4 w4 hP (HW.out _ HR4.out.onl))
        clear hP
        go_wp2_with fail
        go_ret2
        exact HX.out
      · rw [if_neg c1] at hP
        by_cases c2 : 256 < v
        · rw [if_pos c2] at hP
          have HX := Lib.hid (HE.out 6 w4 hP (HW.out _ HR4.out.onl))
          clear hP
          go_wp2_with fail
          go_ret2
          exact HX.out
        · rw [if_neg c2] at hP
          by_cases c3 : v = 0
          · rw [if_pos c3] at hP
            have HX := Lib.hid (HE.out 0 w4 hP (HW.out _ HR4.out.onl))
            have e1 : (v == 0) = true := by simp [c3]
            clear hP c3
            go_wp2_with fail
            go_ret2
            exact HX.out
          · rw [if_neg c3] at hP
            obtain ⟨n, hn⟩ : ∃ n : Nat, v = (n : Int) := ⟨v.toNat, by omega⟩
            subst hn
            have e1 : ((n : Int) == 0) = false := by simp; omega
            rw [Int.toNat_natCast] at hP
            have hn2 : n ≤ 256 := by omega
            have hn1 : 1 ≤ n := by omega
            have hss := HS.out
            have HP2 := Lib.hid hP
            clear hP hv1 hv2 c1 c2 c3
            by_cases c4 : s.size < 10 + 2 * n
            · have hX : prs s.data.toList = (3, []) := by rw [HP2.out]; unfold prC; rw [size_list, if_pos c4]
              have HX := Lib.hid (HE.out 3 w4 hX (HW.out _ HR4.out.onl))
              have e2 : (s.size : Int) - 10 < 2 * (n : Int) := by omega
              clear hX c4
              go_wp2_with fail
              go_ret2
              exact HX.out
            · have e2 : ¬ (s.size : Int) - 10 < 2 * (n : Int) := by omega
              have HC4 := Lib.hid (show 10 + 2 * n ≤ s.size by omega)
              have HS4 := Lib.hid (show RwS 90 3 .i64 w1 w4 g s 10 false (.slice none 0 0) [] from ⟨HR4.out, World.ownsRow_nil _ _ _ _⟩)
              obtain ⟨i3, h3a, h3b, h3c, h3d⟩ := info_parts Try.info3
              have HI3 := Lib.hid (And.intro h3a (And.intro h3b (And.intro h3c h3d)))
              clear c4 h3a h3b h3c h3d
              go_wp2_with fail
              clear bA bF e2
              go_loopw [6, 7, 8] (fun v x u wr => ∃ (i : Nat) (A : Option Addr) (c : Nat), u = .int .i64 (i : Int) ∧ i ≤ n ∧ v = .slice A i c ∧ x = .int .i64 ((frm s.data.toList i : Int) - 1) ∧ rise s.data.toList i ∧ RwS 90 3 .i64 w1 wr g s (10 + 2 * i) false (.slice A i c) (plL s.data.toList i)) (fun _ _ u _ => n - (intOf u).toNat)
              case atStart => exact ⟨0, none, 0, rfl, Nat.zero_le _, rfl, rfl, fun k hk => by omega, HS4.out⟩
              case round =>
                obtain ⟨i, A, c, rfl, hi, rfl, rfl, hris, hS⟩ := hrel
                have HS1 := Lib.hid hS
                have HRi := Lib.hid hris
                by_cases hgo : i < n
                · have CN := Lib.hid (show Calls Try.prog 48 #[.pointer (some ⟨g, 0, none⟩), .int .i64 2] wr fun e w' => e = .returned (.int .u32 (pl s.data.toList i : Int)) ∧ Rd 90 w' g s (10 + 2 * i + 2) false ∧ Onl g wr w' from num2_in g s (10 + 2 * i) wr hS.r.rd HS.out (by have := HC4.out; omega))
                  have HL2 := Lib.hid (show 10 + 2 * i + 2 ≤ s.size by have := HC4.out; omega)
                  have hv := pl_lt s.data.toList i
                  have hfr := frm_lt s.data.toList i
                  have HN := Lib.hid (show frm s.data.toList (i + 1) = pl s.data.toList i + 1 from rfl)
                  have HPs := Lib.hid (show plL s.data.toList (i + 1) = plL s.data.toList i ++ [(pl s.data.toList i : Int)] from gen_snoc _ _)
                  have HG2 := Lib.hid (show (plL s.data.toList i).length = i from gen_len _ _)
                  have HSU := Lib.hid (show frm s.data.toList i ≤ pl s.data.toList i → rise s.data.toList (i + 1) from fun h => all_succ (P := fun i => frm s.data.toList i ≤ pl s.data.toList i) hris h)
                  have HNo := Lib.hid (show ¬ frm s.data.toList i ≤ pl s.data.toList i → ¬ rise s.data.toList n from fun h h2 => h (h2 i hgo))
                  obtain ⟨p, hp⟩ : ∃ p, p = pl s.data.toList i := ⟨_, rfl⟩
                  obtain ⟨fr, hf⟩ : ∃ p, p = frm s.data.toList i := ⟨_, rfl⟩
                  rw [← hp] at CN hv HN HPs HSU HNo
                  rw [← hf] at hfr HSU HNo ⊢
                  clear hS hris hp hf
                  by_cases hle : fr ≤ p
                  · have HX2 := Lib.hid (HSU.out hle)
                    have e3 : ¬ (p : Int) ≤ (fr : Int) - 1 := by omega
                    clear hle
                    go_upto_region 24 with (go_at_call 48; (with_reducible refine CN.out.mono ?_); rintro e w6 ⟨rfl, hr, ho⟩; have H6 := Lib.hid (HS1.out.read hr ho HL2.out); clear hr ho)
                    have HB3 := Lib.hid (H6.out.next ((Below.refl _ w6).alloc (Nat.le_refl _) (.cells #[.int .i64 (p : Int)] 3)))
                    have HR3 := Lib.hid (show (w6.alloc (.cells #[.int .i64 (p : Int)] 3)).ownsRow w1.heap.size 3 1 (.slice A i c) i (ci .i64 (plL s.data.toList i)) by have h := HB3.out.row; rw [HG2.out] at h; exact h)
                    have HBs := Lib.hid HB3.out.r.onl.size
                    go_wp2_with (at_builtin; go_must (refine wpList_append_own _ rfl (.tmp 60) (.tmp 62) 37 rfl w1.heap.size 3 i3 _ 1 8 Try.underlying37 HI3.out.1 HI3.out.2.1 HI3.out.2.2.1 HI3.out.2.2.2 rfl (by decide) (.slice A i c) i (ci .i64 (plL s.data.toList i)) rfl HR3.out ⟨w6.heap.size, 0, none⟩ 1 1 [.int .i64 (p : Int)] rfl rfl (cells_new _ _ _) (by intro u hu; simp at hu; subst hu; rfl) (by unfold maxLen; omega) (by omega) HBs.out ?_); intro v' w7 hown' hg' _; obtain ⟨A7, c7, rfl⟩ := own_form hown'; have H7 := Lib.hid (HB3.out.push (by decide) (x := (p : Int)) (by rw [HG2.out]; exact hown') hg'); clear hown' hg')
                    exact ⟨⟨i + 1, A7, c7, by simp, by omega, rfl, by rw [HN.out]; simp, HX2.out, by rw [HPs.out]; exact H7.out⟩, by simp [intOf]; omega⟩
                  · have hX : prs s.data.toList = (4, []) := by
                      rw [HP2.out]; unfold prC; rw [size_list, if_neg (by have := HC4.out; omega), if_pos (HNo.out hle)]
                    have e3 : (p : Int) ≤ (fr : Int) - 1 := by omega
                    clear hle
                    have HX := Lib.hid (fun w' h => HE.out 4 w' hX h)
                    clear hX
                    go_wp2_with (go_at_call 48; (with_reducible refine CN.out.mono ?_); rintro e w6 ⟨rfl, hr, ho⟩; have H6 := Lib.hid (HS1.out.read hr ho HL2.out); clear hr ho)
                    go_ret2
                    exact HX.out _ (HW.out _ H6.out.r.onl)
                · obtain rfl : i = n := by omega
                  have hfr := frm_lt s.data.toList i
                  have HHi := Lib.hid hi
                  have hPC : prs s.data.toList = if 4096 < frm s.data.toList i then (6, []) else if s.size < 10 + 2 * i + 2 then (3, []) else if s.size < 10 + 2 * i + 2 + n2 s.data.toList (10 + 2 * i) then (3, []) else prF s.data.toList i (10 + 2 * i + 2 + n2 s.data.toList (10 + 2 * i)) := by
                    rw [HP2.out]; unfold prC; rw [size_list, if_neg (by have := HC4.out; omega), if_neg (fun h => h hris)]
                  obtain ⟨fr, hf⟩ : ∃ p, p = frm s.data.toList i := ⟨_, rfl⟩
                  have HFr := Lib.hid hf
                  rw [← hf] at hfr hPC ⊢
                  clear hS hf
                  by_cases c5 : 4096 < fr
                  · rw [if_pos c5] at hPC
                    have HX := Lib.hid (fun w' h => HE.out 6 w' hPC h)
                    have e3 : 4096 < (fr : Int) - 1 + 1 := by omega
                    clear hPC c5
                    go_wp2_with fail
                    go_ret2
                    exact HX.out _ (HW.out _ HS1.out.r.onl)
                  · rw [if_neg c5] at hPC
                    have e3 : ¬ 4096 < (fr : Int) - 1 + 1 := by omega
                    have HPC := Lib.hid hPC
                    have HIe := Lib.hid (show Il .i64 wr A i (plL s.data.toList i) ∧ Nb A g from ⟨own_il (by have h := HS1.out.row; rw [show (plL s.data.toList i).length = i from gen_len _ _] at h; exact h) (gen_len _ _), own_nb (by have h := HS1.out.row; rw [show (plL s.data.toList i).length = i from gen_len _ _] at h; exact h) HS1.out.r.lg⟩)
                    have CU2 := Lib.hid (rr16_any g s (10 + 2 * i) false wr HS1.out.r.rd HS.out HS1.out.r.le)
                    have HF4 := Lib.hid (show fr ≤ 4096 by omega)
                    clear hPC c5
                    go_upto_region 29 with (first
                      | (go_at_call 48; (with_reducible refine CU2.out.mono ?_); rintro e w6 ⟨v, a6, f6, rfl, hv, hnx, hq, hr, ho⟩; have H6 := Lib.hid (And.intro hnx (And.intro hq (And.intro hr ho))); have CK2 := Lib.hid (rtake_any g s _ _ v w6 hr HS.out hnx.le); clear hnx hq hr ho)
                      | (go_at_call 47; (with_reducible refine CK2.out.mono ?_); rintro e w7 ⟨D2, a7, f7, rfl, hnx, hr, ho⟩; have H7 := Lib.hid (And.intro hnx (And.intro hr ho)); clear hnx hr ho))
                    have HR7 := Lib.hid ((HS1.out.r.read H6.out.2.2.1 H6.out.2.2.2 H6.out.1.le).read H7.out.2.1 H7.out.2.2 H7.out.1.le)
                    have HIe7 := Lib.hid (show Il .i64 w7 A i (plL s.data.toList i) from (HIe.out.1.onl HIe.out.2 H6.out.2.2.2).onl HIe.out.2 H7.out.2.2)
                    obtain ⟨_, _, bF, _, _⟩ := HR7.out.rd.facts
                    cases f7
                    · obtain ⟨hf2, h5, ha3⟩ := H7.out.1.yes rfl
                      obtain ⟨_, h4, ha2⟩ := H6.out.1.yes hf2
                      have hvv := H6.out.2.1 hf2
                      have haa : a7 = 10 + 2 * i + 2 + v := by omega
                      have hP := HPC.out
                      rw [← hvv, if_neg (by omega), if_neg (by omega)] at hP
                      obtain ⟨a0, ha0⟩ : ∃ a, a = 10 + 2 * i + 2 + v := ⟨_, rfl⟩
                      have haL : a0 ≤ s.size := by omega
                      rw [haa, ← ha0] at HR7
                      rw [← ha0] at hP
                      unfold prF ptR at hP
                      rw [← HFr.out] at hP
                      have HA0 := Lib.hid haL
                      clear hf2 h5 ha3 h4 ha2 hvv haa ha0
                      have CF := Lib.hid (show Calls Try.prog 49 #[.pointer (some ⟨g, 0, none⟩), .int .i64 (fr : Int)] w7 (FgP 90 .u32 (flgs s.data.toList fr [] a0) g s w7) from rflags_any g fr s a0 w7 HR7.out.rd HS.out haL (by have := HF4.out; omega))
                      have hok := flgs_ok s.data.toList fr [] a0 (by simp) (fun i hi => by simp at hi) (by rw [size_list]; exact haL)
                      obtain ⟨F, hF⟩ : ∃ F, F = flgs s.data.toList fr [] a0 := ⟨_, rfl⟩
                      rw [← hF] at CF hok hP
                      by_cases hF0 : F.1 = 0
                      · simp only [if_neg (show ¬ (F.1 ≠ 0) from fun h => h hF0)] at hP
                        obtain ⟨k1, k2, k3⟩ := hok hF0
                        rw [size_list] at k3
                        have CF2 := Lib.hid (CF.out.mono fun e w' hh => hh.ok hF0 k1)
                        obtain ⟨E1, fl, a1⟩ := F
                        simp only at k1 k2 k3 hF0 hP CF2
                        have CX := Lib.hid (fun A c W (hI : Il .u32 W A fr fl) (hA : Nb A g) (hr : Rd 90 W g s a1 false) => along_any g A fr c fl 2 16 s a1 W (.inl ⟨rfl, rfl⟩) hI hA k2 hr HS.out k3 (by have := HF4.out; omega))
                        have hokx := unts_ok s.data.toList 2 16 fl [] a1 0 (by rw [size_list]; exact k3)
                        obtain ⟨X, hX⟩ : ∃ X, X = unts s.data.toList 2 16 fl [] a1 0 := ⟨_, rfl⟩
                        rw [← hX] at CX hP hokx
                        have CX : Hid (∀ A c W, Il .u32 W A fr fl → Nb A g → Rd 90 W g s a1 false → Calls Try.prog 50 #[.pointer (some ⟨g, 0, none⟩), .slice A fr c, .int .u32 2, .int .u32 16] W (FgP 90 .i64 X g s W)) := CX
                        by_cases hX0 : X.1 = 0
                        · simp only [if_neg (show ¬ (X.1 ≠ 0) from fun h => h hX0)] at hP
                          obtain ⟨x1, x2⟩ := hokx hX0
                          rw [size_list] at x2
                          have CX2 := Lib.hid (fun A c W hI hA hr => (CX.out A c W hI hA hr).mono fun e w' hh => hh.ok hX0 (n := fr) (by rw [x1, k1]; simp))
                          obtain ⟨E2, xs, a2'⟩ := X
                          simp only at x1 x2 hX0 hP CX2
                          have CY := Lib.hid (fun A c W (hI : Il .u32 W A fr fl) (hA : Nb A g) (hr : Rd 90 W g s a2' false) => along_any g A fr c fl 4 32 s a2' W (.inr ⟨rfl, rfl⟩) hI hA k2 hr HS.out x2 (by have := HF4.out; omega))
                          have hoky := unts_ok s.data.toList 4 32 fl [] a2' 0 (by rw [size_list]; exact x2)
                          obtain ⟨Y, hY⟩ : ∃ Y, Y = unts s.data.toList 4 32 fl [] a2' 0 := ⟨_, rfl⟩
                          rw [← hY] at CY hP hoky
                          have CY : Hid (∀ A c W, Il .u32 W A fr fl → Nb A g → Rd 90 W g s a2' false → Calls Try.prog 50 #[.pointer (some ⟨g, 0, none⟩), .slice A fr c, .int .u32 4, .int .u32 32] W (FgP 90 .i64 Y g s W)) := CY
                          by_cases hY0 : Y.1 = 0
                          · simp only [if_neg (show ¬ (Y.1 ≠ 0) from fun h => h hY0)] at hP
                            obtain ⟨y1, y2⟩ := hoky hY0
                            have CY2 := Lib.hid (fun A c W hI hA hr => (CY.out A c W hI hA hr).mono fun e w' hh => hh.ok hY0 (n := fr) (by rw [y1, k1]; simp))
                            obtain ⟨E3, ys, a3'⟩ := Y
                            simp only at hY0 hP CY2
                            have HFl := Lib.hid (And.intro k1 k2)
                            have HPP := Lib.hid (show prs s.data.toList = (0, cuts s.data.toList (pnts fl xs ys fr) i) from hP)
                            clear hok k1 k2 k3 hF0 hP hokx hX hX0 x1 x2 hoky hY hY0 y1 y2 CF CX CY hF haL hris
                            go_upto_region 40 with (first
                              | (go_at_call 49; (with_reducible refine CF2.out.mono ?_); rintro e z2 ⟨A1, c1, rfl, ho, hI, hr⟩; have J1 := Lib.hid (And.intro ho (And.intro hI hr)); clear ho hI hr)
                              | (go_at_call 50; (with_reducible refine (CX2.out _ _ _ J1.out.2.1.1 J1.out.2.1.2 J1.out.2.2).mono ?_); rintro e z3 ⟨A2, c2, rfl, ho, hI, hr⟩; have J2 := Lib.hid (And.intro ho (And.intro hI hr)); have L1 := Lib.hid (J1.out.2.1.1.onl J1.out.2.1.2 ho); clear ho hI hr)
                              | (go_at_call 50; (with_reducible refine (CY2.out _ _ _ L1.out J1.out.2.1.2 J2.out.2.2).mono ?_); rintro e z4 ⟨A3, c3, rfl, ho, hI, hr⟩; have J3 := Lib.hid (And.intro ho (And.intro hI hr)); have L2 := Lib.hid (L1.out.onl J1.out.2.1.2 ho); have L3 := Lib.hid (J2.out.2.1.1.onl J2.out.2.1.2 ho); clear ho hI hr))
                            have HO := Lib.hid (((HR7.out.onl.trans J1.out.1).trans J2.out.1).trans J3.out.1)
                            have L4 := Lib.hid (((HIe7.out.onl HIe.out.2 J1.out.1).onl HIe.out.2 J2.out.1).onl HIe.out.2 J3.out.1)
                            obtain ⟨C, hC⟩ : ∃ C, C = cutAt s.data.toList (pnts fl xs ys fr) := ⟨_, rfl⟩
                            have HCt := Lib.hid (fun q j (h1 : j < frm s.data.toList (q + 1) - frm s.data.toList q) (h2 : frm s.data.toList q + j < fr) => show (C q).take (j + 1) = (C q).take j ++ [pnt fl xs ys (frm s.data.toList q + j)] by rw [hC]; exact cutAt_take h1 h2)
                            have HCl := Lib.hid (fun q (hq : q < i) => show (C q).length = pl s.data.toList q + 1 - frm s.data.toList q ∧ frm s.data.toList q ≤ pl s.data.toList q ∧ pl s.data.toList q < fr from by
                              obtain ⟨l1, l2, l3⟩ := cutAt_len (P := pnts fl xs ys fr) HRi.out hq (by rw [HFr.out]; simp [pnts])
                              exact ⟨by rw [hC]; exact l1, HRi.out q hq, by rw [HFr.out]; exact l3⟩)
                            have HFin := Lib.hid (show ∀ A c W, Onl g w1 W → CtO W A i c ((List.range i).map C) → PaT (prs s.data.toList) w (.returned (.tuple #[.slice A i c, .int .i64 0])) W from fun A c W h1 h2 => by
                              rw [HPP.out]
                              exact ⟨A, i, c, rfl, by rw [hC] at h2; exact h2, HW.out W h1⟩)
                            have OS := Lib.hid (OuS.start z4 C)
                            obtain ⟨i36, h36a, h36b, h36c, h36d⟩ := info_parts Try.info47
                            have H36 := Lib.hid (And.intro h36a (And.intro h36b (And.intro h36c h36d)))
                            clear hC h36a h36b h36c h36d
                            go_wp2_with fail
                            go_loopw [16, 17, 18] (fun vo vk vi wq => ∃ (q : Nat) (A' : Option Addr) (c' : Nat) (cs : List Value), vi = .int .i64 (q : Int) ∧ q ≤ i ∧ vk = .int .i64 (frm s.data.toList q : Int) ∧ vo = .slice A' q c' ∧ OuS z4 wq (.slice A' q c') q C cs) (fun _ _ u _ => i - (intOf u).toNat)
                            case atStart => exact ⟨0, none, 0, [], rfl, Nat.zero_le _, rfl, rfl, OS.out⟩
                            case round =>
                              obtain ⟨q, A', c', cs, rfl, hq, rfl, rfl, hS⟩ := hrel
                              have HSq := Lib.hid hS
                              by_cases hgo : q < i
                              · have HX4 := Lib.hid (fun W (hW : Below z4.heap.size z4 W) => L4.out.at_ hW hgo)
                                obtain ⟨ax, rfl, hx⟩ := HX4.out _ hS.bel
                                have HC := Lib.hid (show ∀ W, Below z4.heap.size z4 W → W.cell? (ax.add q) = some (.int .i64 (pl s.data.toList q : Int)) from fun W hW => by
                                  obtain ⟨ad2, h1, h2⟩ := HX4.out W hW
                                  injection h1 with h1
                                  subst h1
                                  rw [h2, show co (plL s.data.toList i) q = (pl s.data.toList q : Int) from co_gen hgo])
                                obtain ⟨k1, k2, k3⟩ := HCl.out q hgo
                                have hfr2 := frm_lt s.data.toList q
                                have hv := pl_lt s.data.toList q
                                have HN := Lib.hid (show frm s.data.toList (q + 1) = pl s.data.toList q + 1 from rfl)
                                have HCq := Lib.hid (fun j => HCt.out q j)
                                obtain ⟨p, hp⟩ : ∃ p, p = pl s.data.toList q := ⟨_, rfl⟩
                                obtain ⟨f0, hf⟩ : ∃ p, p = frm s.data.toList q := ⟨_, rfl⟩
                                rw [← hp] at HC k1 k2 k3 hv HN
                                rw [HN.out] at HCq
                                rw [← hf] at k1 k2 hfr2 HCq ⊢
                                obtain ⟨L, hL⟩ : ∃ L, L = C q := ⟨_, rfl⟩
                                rw [← hL] at k1 HCq
                                have HLq := Lib.hid hL
                                obtain ⟨d, hd⟩ : ∃ d, d = p + 1 - f0 := ⟨_, rfl⟩
                                rw [← hd] at k1 HCq
                                have HD := Lib.hid (And.intro hd (And.intro k2 k3))
                                have HK1 := Lib.hid k1
                                have hi9 := HHi.out
                                have HF9 := HF4.out
                                obtain ⟨wo, hwo⟩ : ∃ W, W = wr := ⟨_, rfl⟩
                                rw [← hwo] at HSq ⊢
                                clear hS hx hp hf hL hd k1 k2 k3 hwo
                                go_wp2_with fail
                                go_loopw [17, 19] (fun vk vc wi => ∃ (j : Nat) (A7 : Option Addr) (c7 : Nat), vk = .int .i64 ((f0 + j : Nat) : Int) ∧ j ≤ d ∧ vc = .slice A7 j c7 ∧ RpS wo wi (.slice A7 j c7) j (L.take j)) (fun vk _ _ => p + 1 - (intOf vk).toNat)
                                case atStart => exact ⟨0, none, 0, by simp, Nat.zero_le _, rfl, RpS.start wo⟩
                                case round =>
                                  obtain ⟨j, A7, c7, rfl, hj, rfl, hR⟩ := hrel
                                  have HRj := Lib.hid hR
                                  have hbel := HSq.out.bel.trans (hR.bel.mono HSq.out.bel.size)
                                  have hc := HC.out _ hbel
                                  have hdd := HD.out
                                  obtain ⟨k, hk⟩ : ∃ k, k = f0 + j := ⟨_, rfl⟩
                                  rw [← hk]
                                  by_cases hgj : j < d
                                  · have hkf : k < fr := by omega
                                    obtain ⟨a1', rfl, v1⟩ := L2.out.at_ hbel hkf
                                    obtain ⟨a2'', rfl, v2⟩ := L3.out.at_ hbel hkf
                                    obtain ⟨a3'', rfl, v3⟩ := J3.out.2.1.1.at_ hbel hkf
                                    have hct := HCq.out j (by omega) (by omega)
                                    rw [← hk] at hct
                                    have hpt : pnt fl xs ys k = (co xs k, co ys k, decide (co fl k % 2 = 1)) := rfl
                                    obtain ⟨hf1, hf2⟩ := HFl.out.2 k (by rw [HFl.out.1]; exact hkf)
                                    obtain ⟨f, hf⟩ : ∃ f : Nat, co fl k = (f : Int) := ⟨(co fl k).toNat, by omega⟩
                                    rw [hf] at v1 hpt
                                    rw [hpt] at hct
                                    obtain ⟨t, ht⟩ : ∃ t, t = f % 2 := ⟨_, rfl⟩
                                    have e5 : (f : Int).tmod 2 = (t : Int) := by rw [Int.tmod_eq_emod_of_nonneg (by omega)]; omega
                                    have e8 : (f : Int) % 2 = (t : Int) := by omega
                                    have e9 : IntKind.u32.wrap (t : Int) = (t : Int) := by rw [IntKind.wrap_u32]; omega
                                    have e7 : ((t : Int) == 1) = decide ((f : Int) % 2 = 1) := by rw [← e8]; exact odd_bit f
                                    obtain ⟨o, ho⟩ : ∃ o, o = decide ((f : Int) % 2 = 1) := ⟨_, rfl⟩
                                    rw [← ho] at e7 hct
                                    obtain ⟨x, hxx⟩ : ∃ x, x = co xs k := ⟨_, rfl⟩
                                    obtain ⟨y, hyy⟩ : ∃ y, y = co ys k := ⟨_, rfl⟩
                                    rw [← hxx] at v2 hct
                                    rw [← hyy] at v3 hct
                                    have HCT := Lib.hid hct
                                    have hkp : (k : Int) ≤ (p : Int) := by omega
                                    have hjm : j ≤ 100000 := by omega
                                    have HKK := Lib.hid (And.intro hk hgj)
                                    clear hR hct hpt hf1 hf2 hf ht ho hxx hyy hdd hbel hgj hk
                                    go_upto_region 48 with fail
                                    go_region_law (refine step_pt rfl (.tmp 118) (.tmp 134) rfl wo (.slice A7 j c7) j (L.take j) x y o rfl HRj.out (by omega) rfl ?_; intro A8 c8 w' hS'; have H8 := Lib.hid hS'; clear hS')
                                    all_goals
                                      go_wp2_with fail
                                      exact ⟨⟨j + 1, A8, c8, by have := HKK.out.1; simp; omega, by have := HKK.out.2; omega, rfl, by rw [HCT.out]; exact H8.out⟩, by have := HKK.out.1; simp [intOf]; omega⟩
                                  · have hjd : j = d := by omega
                                    subst hjd
                                    have hkp : ¬ (k : Int) ≤ (p : Int) := by omega
                                    have hkp1 : k = p + 1 := by omega
                                    have HKP := Lib.hid hkp1
                                    have HRL := Lib.hid (show RpS wo wr (.slice A7 j c7) j L from by have h := hR; rw [List.take_of_length_le (by rw [HK1.out]; exact Nat.le_refl _)] at h; exact h)
                                    have HOw := Lib.hid (HSq.out.next HRL.out.bel)
                                    have HOa := Lib.hid (HOw.out.next ((Below.refl _ wr).alloc (Nat.le_refl _) (.cells #[.slice A7 j c7] 47)))
                                    have HRa := Lib.hid (HRL.out.next ((Below.refl _ wr).alloc (Nat.le_refl _) (.cells #[.slice A7 j c7] 47)))
                                    have HBs := Lib.hid HOa.out.bel.size
                                    clear hR hdd hbel hk hkp1 hgj
                                    go_wp2_with (at_builtin; go_must (refine wpList_append_own _ rfl (.tmp 136) (.tmp 138) 25 rfl z4.heap.size 47 i36 _ 1 24 Try.underlying25 H36.out.1 H36.out.2.1 H36.out.2.2.1 H36.out.2.2.2 rfl (by decide) (.slice A' q c') q cs rfl HOa.out.own ⟨wr.heap.size, 0, none⟩ 1 1 [.slice A7 j c7] rfl rfl (cells_new _ _ _) (by intro u hu; simp at hu; subst hu; rfl) (by unfold maxLen; omega) (by omega) HBs.out ?_); intro v' w8 hown' hg' _; obtain ⟨A9, c9, rfl⟩ := own_form hown'; have H9 := Lib.hid (HOa.out.push (by rw [← HLq.out]; exact HK1.out) (by rw [← HLq.out]; exact own_ptl HRa.out.own HK1.out) (own_t39 HRa.out.own) hown' hg'); clear hown' hg')
                                    exact ⟨⟨q + 1, A9, c9, _, by simp, by omega, by rw [HN.out, HKP.out], rfl, H9.out⟩, by simp [intOf]; omega⟩
                              · obtain rfl : q = i := by omega
                                have HX9 := Lib.hid (HFin.out A' c' _ (HO.out.trans (Onl.of hS.bel)) hS.cto)
                                clear hS
                                go_wp2_with fail
                                go_ret2
                                exact HX9.out
                          · simp only [if_pos hY0] at hP
                            have CY2 := Lib.hid (fun A c W hI hA hr => (CY.out A c W hI hA hr).mono fun e w' hh => hh.err)
                            obtain ⟨E3, ys, a3'⟩ := Y
                            simp only at hY0 hP CY2
                            have e9 : (E3 != 0) = true := by simp [hY0]
                            have HX := Lib.hid (fun w' h => HE.out E3 w' hP h)
                            clear hok k1 k2 k3 hF0 hP hokx hX hX0 x1 x2 hoky hY hY0 CF CX CY hF haL hris
                            go_wp2_with (first
                              | (go_at_call 49; (with_reducible refine CF2.out.mono ?_); rintro e z2 ⟨A1, c1, rfl, ho, hI, hr⟩; have J1 := Lib.hid (And.intro ho (And.intro hI hr)); clear ho hI hr)
                              | (go_at_call 50; (with_reducible refine (CX2.out _ _ _ J1.out.2.1.1 J1.out.2.1.2 J1.out.2.2).mono ?_); rintro e z3 ⟨A2, c2, rfl, ho, hI, hr⟩; have J2 := Lib.hid (And.intro ho (And.intro hI hr)); have L1 := Lib.hid (J1.out.2.1.1.onl J1.out.2.1.2 ho); clear ho hI hr)
                              | (go_at_call 50; (with_reducible refine (CY2.out _ _ _ L1.out J1.out.2.1.2 J2.out.2.2).mono ?_); rintro e z4 ⟨A3, k3, c3, rfl, ho⟩; have J3 := Lib.hid ho; clear ho))
                            go_ret2
                            exact HX.out _ (HW.out _ (((HR7.out.onl.trans J1.out.1).trans J2.out.1).trans J3.out))
                        · simp only [if_pos hX0] at hP
                          have CX2 := Lib.hid (fun A c W hI hA hr => (CX.out A c W hI hA hr).mono fun e w' hh => hh.err)
                          obtain ⟨E2, xs, a2'⟩ := X
                          simp only at hX0 hP CX2
                          have e9 : (E2 != 0) = true := by simp [hX0]
                          have HX := Lib.hid (fun w' h => HE.out E2 w' hP h)
                          clear hok k1 k2 k3 hF0 hP hokx hX hX0 CF CX hF haL hris
                          go_wp2_with (first
                            | (go_at_call 49; (with_reducible refine CF2.out.mono ?_); rintro e z2 ⟨A1, c1, rfl, ho, hI, hr⟩; have J1 := Lib.hid (And.intro ho (And.intro hI hr)); clear ho hI hr)
                            | (go_at_call 50; (with_reducible refine (CX2.out _ _ _ J1.out.2.1.1 J1.out.2.1.2 J1.out.2.2).mono ?_); rintro e z3 ⟨A2, k2, c2, rfl, ho⟩; have J2 := Lib.hid ho; clear ho))
                          go_ret2
                          exact HX.out _ (HW.out _ ((HR7.out.onl.trans J1.out.1).trans J2.out))
                      · simp only [if_pos hF0] at hP
                        have CF2 := Lib.hid (CF.out.mono fun e w' hh => hh.err)
                        obtain ⟨E1, fl, a1⟩ := F
                        simp only at hF0 hP CF2
                        have e9 : (E1 != 0) = true := by simp [hF0]
                        have HX := Lib.hid (fun w' h => HE.out E1 w' hP h)
                        clear hok hF0 hP CF hF haL hris
                        go_wp2_with (go_at_call 49; (with_reducible refine CF2.out.mono ?_); rintro e z2 ⟨A1, k1, c1, rfl, ho⟩; have J1 := Lib.hid ho; clear ho)
                        go_ret2
                        exact HX.out _ (HW.out _ (HR7.out.onl.trans J1.out))
                    · have hX : prs s.data.toList = (3, []) := by
                        rw [HPC.out]
                        rcases H7.out.1.no rfl with h | h
                        · rcases H6.out.1.no h with h2 | h2
                          · cases h2
                          · rw [if_pos (by omega)]
                        · cases f6
                          · obtain ⟨_, h4, ha2⟩ := H6.out.1.yes rfl
                            have hvv := H6.out.2.1 rfl
                            rw [← hvv, if_neg (by omega), if_pos (by omega)]
                          · rcases H6.out.1.no rfl with h2 | h2
                            · cases h2
                            · rw [if_pos (by omega)]
                      have HX := Lib.hid (fun w' h => HE.out 3 w' hX h)
                      clear hX
                      go_wp2_with fail
                      go_ret2
                      exact HX.out _ (HW.out _ HR7.out.onl)
    · have hX : prs s.data.toList = (3, []) := by
        rw [HP.out]
        rcases H3.out.1.no rfl with h | h
        · rcases H2.out.1.no h with h2 | h2
          · cases h2
          · rw [if_pos (by omega)]
        · cases f2
          · obtain ⟨_, h4, ha2⟩ := H2.out.1.yes rfl
            rw [if_pos (by omega)]
          · rcases H2.out.1.no rfl with h2 | h2
            · cases h2
            · rw [if_pos (by omega)]
      have HX := Lib.hid (HE.out 3 w4 hX (HW.out _ HR4.out.onl))
      clear hX
      go_wp2_with fail
      go_ret2
      exact HX.out
theorem rparse_any (s : ByteArray) (w : World) (hs : s.size ≤ 1000000000) : Calls Try.prog 29 #[.string s] w (PaP (prs s.data.toList) w) := (rparse_own s w hs).mono fun _ _ h => h.pap
end Go.Proofs.Ytlfnagfcggmeaaa
