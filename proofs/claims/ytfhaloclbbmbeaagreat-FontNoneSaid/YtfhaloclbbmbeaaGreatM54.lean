/- Proved here: what the program's Edges answers. Condition: contours that lie in memory, within limits · what the statements' first font is, in plain numbers. No condition · what a font tells of itself, of a glyph's width and edges, and of a code point's glyph. Condition: a font as it lies in memory · that Make makes the statements' first font, and New reads it. Condition: what it is made of, as it lies in memory · what a font that is none answers. No condition. -/
import Derived.Test.YtfhaloclbbmbeaaGreatM53
import Derived.Test.YtfhaloclbbmbeaaGreatM49
import Derived.Test.YtfhaloclbbmbeaaGreatM50
import Derived.Test.YtfhaloclbbmbeaaGreatM25
import Derived.Test.YtfhaloclbbmbeaaGreatM47
namespace Go.Proofs.YtfhaloclbbmbeaaGreat
open Go.RowKit
namespace N16
theorem cE_ring (px k : Int) (L : List Pt) (h : 1 ≤ L.length) : (alR k (ring (way px L))).filter (fun e => decide (¬ smE e)) = cE px L k := by
  rw [ring_eds px k L h]
  rfl
theorem own_le {W : World} {base e size n c : Nat} {A : Option Addr} {xs : List Value} (h : W.ownsRow base e size (.slice A n c) n xs) : n ≤ c := by
  rcases Nat.eq_zero_or_pos n with h0 | h0
  · omega
  · obtain ⟨_, _, h1⟩ := own_some h h0; exact h1
end N16
def EdK (R : Int × List Edg) (w : World) (e : Ending) (w' : World) : Prop := ∃ A k c, e = .returned (.tuple #[.slice A k c, .int .i64 R.1]) ∧ Edl w' A k R.2 ∧ k ≤ c ∧ Below w.heap.size w w'
theorem edK_err {R : Int × List Edg} {w w' : World} {x : Int} (h : R = (x, [])) (hb : Below w.heap.size w w') : EdK R w (.returned (.tuple #[.slice none 0 0, .int .i64 x])) w' := by
  subst h
  exact ⟨none, 0, 0, rfl, Edl.nil _, Nat.le_refl _, hb⟩
namespace N16
set_option maxHeartbeats 8000000 in
set_option maxRecDepth 100000 in
theorem edgesK_any (A : Option Addr) (m c : Nat) (LL : List (List Pt)) (px : Int) (w : World) (hP : Ctl w A m LL) (hm : m ≤ 1000) (hl : ∀ i, i < m → (ct LL i).length ≤ 5000) :
    Calls Tryz.prog 61 #[.slice A m c, .int .i64 px] w (EdK (EdP LL px) w) := by
  have hlen := hP.len
  have CM := Lib.hid (may_any A m c LL w hP hm hl)
  by_cases hM : MayG LL
  rotate_left
  · rw [decide_eq_false hM] at CM
    have HX := Lib.hid (show EdP LL px = (1, []) from by unfold EdP; rw [if_neg (fun h => hM h.1)])
    clear hP hl hM hlen
    go_enter Tryz.func61, Tryz.ntmps61
    go_wp2_with (go_at_call 124; (with_reducible refine CM.out.mono ?_); rintro e w1 ⟨rfl, hb⟩; have HB := Lib.hid hb; clear hb)
    go_ret2
    exact edK_err HX.out HB.out
  rw [decide_eq_true hM] at CM
  by_cases h1 : px < 1
  · have HX := Lib.hid (show EdP LL px = (1, []) from by unfold EdP; rw [if_neg (fun h => by have := h.2.1; omega)])
    have e1 : decide (px < 1) = true := decide_eq_true h1
    clear hP hl hM hlen
    go_enter Tryz.func61, Tryz.ntmps61
    go_wp2_with (go_at_call 124; (with_reducible refine CM.out.mono ?_); rintro e w1 ⟨rfl, hb⟩; have HB := Lib.hid hb; clear hb)
    go_ret2
    exact edK_err HX.out HB.out
  have e1 : decide (px < 1) = false := decide_eq_false h1
  by_cases h2 : 128 < px
  · have HX := Lib.hid (show EdP LL px = (1, []) from by unfold EdP; rw [if_neg (fun h => by have := h.2.2; omega)])
    have e2 : decide (128 < px) = true := decide_eq_true h2
    clear hP hl hM hlen
    go_enter Tryz.func61, Tryz.ntmps61
    go_wp2_with (go_at_call 124; (with_reducible refine CM.out.mono ?_); rintro e w1 ⟨rfl, hb⟩; have HB := Lib.hid hb; clear hb)
    go_ret2
    exact edK_err HX.out HB.out
  have e2 : decide (128 < px) = false := decide_eq_false h2
  have HX := Lib.hid (show EdP LL px = (0, edL px 0 LL) from by unfold EdP; rw [if_pos ⟨hM, by omega, by omega⟩])
  have HM := Lib.hid hM
  have HL := Lib.hid hl
  have HLen := Lib.hid hlen
  have HI := Lib.hid hP
  obtain ⟨F, hF⟩ : ∃ F, F = edL px 0 LL := ⟨_, rfl⟩
  rw [← hF] at HX
  have HF := Lib.hid hF
  obtain ⟨i1, hi1, hy0, hy1, hy2⟩ := info_parts Tryz.info43z
  have H43 := Lib.hid (And.intro hi1 (And.intro hy0 (And.intro hy1 hy2)))
  clear hP hl hM hlen hF hi1 hy0 hy1 hy2
  go_enter Tryz.func61, Tryz.ntmps61
  go_upto_region 3 with (go_at_call 124; (with_reducible refine CM.out.mono ?_); rintro e w1 ⟨rfl, hb⟩; have HB := Lib.hid hb; clear hb)
  go_wp2_with fail
  go_loopw [6, 22] (fun v i wr => ∃ (k ke : Nat) (A' : Option Addr) (c' : Nat) (out : List Edg), i = .int .i64 (k : Int) ∧ k ≤ m ∧ v = .slice A' ke c' ∧ out.length = ke ∧ ke ≤ k * 10000 ∧ out ++ edL px (k : Int) (LL.drop k) = F ∧ wr.ownsRow w1.heap.size 129 8 (.slice A' ke c') ke (egC out) ∧ Below w1.heap.size w1 wr) (fun _ i _ => m - (intOf i).toNat)
  case atStart => exact ⟨0, 0, none, 0, [], rfl, Nat.zero_le _, rfl, rfl, Nat.le_refl _, HF.out.symm, World.ownsRow_nil _ _ _ _, Below.refl _ _⟩
  case round =>
    obtain ⟨k, ke, A', c', out, rfl, hk, rfl, hke, hk2, hfl, ho, hb⟩ := hrel
    have HBr := Lib.hid hb
    have HO := Lib.hid ho
    by_cases hgo : k < m
    · obtain ⟨ad, B, cB, hA, d0, hpt⟩ := HI.out.at_ (HB.out.trans (hb.mono HB.out.size)) hgo
      subst hA
      have hmk := HM.out.2 k (by rw [HLen.out]; exact hgo)
      have hlk := HL.out k hgo
      rw [ct_drop LL k (by rw [HLen.out]; exact hgo)] at hfl
      have hcl := cE_len px (k : Int) (ct LL k)
      have hwl := way_len px (ct LL k)
      have CC := Lib.hid (wayOf_any B (ct LL k).length cB px (ct LL k) wr hpt hmk.1.1 hlk ⟨by omega, by omega⟩ (fun i hi => hmk.2 i hi))
      have hw1 : 0 < (way px (ct LL k)).length := by
        obtain ⟨z, R, hz, _⟩ := way_head px (ct LL k) hmk.1.1
        rw [hz]; simp
      have hE := cE_ring px (k : Int) (ct LL k) hmk.1.1
      obtain ⟨n, hn⟩ : ∃ n, n = (ct LL k).length := ⟨_, rfl⟩
      rw [← hn] at d0 CC hcl hlk hwl
      obtain ⟨E, hE2⟩ : ∃ E, E = cE px (ct LL k) (k : Int) := ⟨_, rfl⟩
      have HFl := Lib.hid (show (out ++ E) ++ edL px ((k + 1 : Nat) : Int) (LL.drop (k + 1)) = F from by rw [List.append_assoc, hE2]; exact hfl)
      rw [← hE2] at hcl hE
      obtain ⟨lw, hlw⟩ : ∃ l, l = way px (ct LL k) := ⟨_, rfl⟩
      rw [← hlw] at CC hwl hw1 hE
      obtain ⟨kw, hkw⟩ : ∃ k, k = lw.length := ⟨_, rfl⟩
      have CA := Lib.hid (fun A1 c1 b (W : World) (h : W.ownsRow b 269 3 (.slice A1 kw c1) kw (ndC lw)) => show Calls Tryz.prog 125 #[.slice A1 kw c1, .int .i64 (k : Int)] W fun e w' => ∃ A' c', e = .returned (.slice A' E.length c') ∧ AlS W w' (.slice A' E.length c') E.length E from by
        have h2 := along_any A1 kw c1 b lw (k : Int) W h hkw.symm (by rw [hkw]; exact hw1) (by rw [hkw]; omega)
        rw [hE] at h2
        exact h2.mono fun e w' ⟨A', k', c', h3, h4, h5⟩ => by subst h4; exact ⟨A', c', h3, h5⟩)
      rw [← hkw] at CC
      have HKe := Lib.hid (And.intro hke hk2)
      obtain ⟨kE, hkE⟩ : ∃ n, n = E.length := ⟨_, rfl⟩
      rw [← hkE] at CA hcl
      have HkE := Lib.hid hkE
      clear hfl ho hb hpt hmk hn hE hE2 hke hkE hlw hkw hw1 hwl
      go_wp2_with (first
        | (go_at_call 126; (with_reducible refine CC.out.mono ?_); rintro e w3 ⟨A5, c5, rfl, ho, hb⟩; have HO5 := Lib.hid ho; have HB5 := Lib.hid hb; have HOw := Lib.hid (own_bel HO.out hb); have HBw := Lib.hid (HBr.out.trans (hb.mono HBr.out.size)); clear ho hb)
        | (go_at_call 125; (with_reducible refine (CA.out _ _ _ _ HO5.out).mono ?_); rintro e w4 ⟨A6, c6, rfl, hs6⟩; have HS6 := Lib.hid hs6; have HOx := Lib.hid (own_bel HOw.out hs6.bel); have HBx := Lib.hid (HBw.out.trans (hs6.bel.mono HBw.out.size)); clear hs6)
        | (at_builtin; go_must (refine wpList_append_src _ rfl (.tmp 27) (.tmp 32) 52 rfl w1.heap.size 129 i1 _ 8 64 Tryz.underlying52 H43.out.1 H43.out.2.1 H43.out.2.2.1 H43.out.2.2.2 rfl (by decide) (.slice A' ke c') ke (egC out) rfl HOx.out A6 kE c6 (egC E) rfl (by rw [egC_len, ← HkE.out]) (own_src HS6.out.own) (egC_one E) (by unfold maxLen; omega) (by omega) HBx.out.size ?_); intro v' w7 hown' hg'; obtain ⟨A7, c7, rfl⟩ := own_form hown'; have HO7 := Lib.hid hown'; have HB7 := Lib.hid (below_grown HBx.out HOx.out hg'); clear hown' hg'))
      exact ⟨⟨k + 1, ke + kE, A7, c7, out ++ E, by simp, by omega, rfl, by rw [List.length_append, HKe.out.1, ← HkE.out], by have := HKe.out.2; omega, HFl.out, by rw [egC_app]; exact HO7.out, HB7.out⟩, by simp [intOf]; omega⟩
    · obtain rfl : k = m := by omega
      have HR := Lib.hid (show out = F from by
        rw [List.drop_of_length_le (by rw [HLen.out]; exact Nat.le_refl _)] at hfl
        rw [← hfl]; exact (List.append_nil _).symm)
      have HKe := Lib.hid hke
      clear hfl ho hb
      go_wp2_with fail
      go_ret2
      have h := HO.out
      have h2 := HKe.out
      rw [HR.out] at h h2
      rw [HX.out]
      exact ⟨A', ke, c', rfl, own_edl h h2, own_le h, HB.out.trans (HBr.out.mono HB.out.size)⟩
end N16
end Go.Proofs.YtfhaloclbbmbeaaGreat
namespace Go.Proofs.YtfhaloclbbmbeaaGreat
open Go.RowKit
namespace Ft
def h0 : Hd := ⟨16, false, 2, 1, 0, 0, 0⟩
def tri : List Pt := [(0, 0, true), (4, 0, true), (0, 4, true)]
def S0 : List N15.Shp := [([], []), ([tri], [])]
def P0 : List (Int × Int) := [(65, 1)]
def d0 : List UInt8 := N15.dB S0 2
def p0 : List Int := N15.pB S0 2
def x0 : List UInt8 := HmS h0 [7, 7]
def l0 : List UInt8 := LoS h0 p0
def c0 : List UInt8 := N12.mkS P0 false
def L0 : List (List UInt8 × List UInt8) := sorT h0 c0 d0 x0 l0
def F0 : List UInt8 := mkF L0
theorem h0_may : MayP h0 := by decide
theorem S0_may : N15.MayS S0 := by decide +kernel
theorem S0_lim : N15.LimS S0 := by intro i hi; match i, hi with | 0, _ => exact ⟨by decide, by decide, by decide⟩ | 1, _ => exact ⟨by decide, by decide, by decide⟩
theorem S0_leaf : N15.Leaf S0 := by intro i hi; match i, hi with | 0, _ => rfl | 1, _ => rfl
theorem S0_E : ∀ i, i < S0.length → N13.mkE (N15.sh S0 i).1 = 0 := by decide +kernel
theorem S0_even : ∀ i, i < S0.length → (N13.mkB (N15.sh S0 i).1).length % 2 = 0 := by decide +kernel
theorem d0_len : d0.length ≤ 1000000 := by decide +kernel
theorem x0_E : HmE h0 [7, 7] = 0 := by decide +kernel
theorem l0_E : LoE h0 p0 = 0 := by decide +kernel
theorem c0_E : N12.mkE P0 false = 0 := by decide +kernel
theorem P0_may : N12.MayP P0 2 := by decide +kernel
theorem L0_E : mkE L0 = 0 := by decide +kernel
theorem F0_len : F0.length ≤ 1000000 := by decide +kernel
theorem L0_head : N10.PE L0 = 0 := by decide +kernel
theorem L0_is : N10.PH L0 = h0 := by kernel_rfl
theorem L0_wE : rwE L0 h0 = 0 := by decide +kernel
theorem L0_wL : rwL L0 h0 = [7, 7] := by kernel_rfl
theorem L0_glyf : findL L0 tGlyf = (d0, true) := by kernel_rfl
theorem L0_loca : findL L0 tLoca = (l0, true) := by kernel_rfl
theorem L0_pE : PlE h0 l0 (d0.length : Int) = 0 := by decide +kernel
theorem L0_S : N15.PF d0 (PlL h0 l0 (d0.length : Int)) = (0, S0) := by kernel_rfl
theorem L0_P : rpR L0 2 = (0, P0) := by kernel_rfl
theorem tri_E : N16.EdP [tri] 1 = (0, [(0, false, (0, 0), (0, 0), (8, 0)), (0, false, (8, 0), (0, 0), (0, 8)), (0, false, (0, 8), (0, 0), (0, 0))]) := by kernel_rfl
theorem L0_sort : Sort.insertionSort (Go.Proofs.ltOf cmpT) (allT h0 c0 d0 x0 l0).toArray 0 7 = L0.toArray := by
  unfold Sort.insertionSort
  rw [Sort.insOuter, if_pos (by decide), Sort.insOuter, if_pos (by decide), Sort.insOuter, if_pos (by decide), Sort.insOuter, if_pos (by decide), Sort.insOuter, if_pos (by decide), Sort.insOuter, if_pos (by decide), Sort.insOuter, if_neg (by decide)]
  kernel_rfl
end Ft
end Go.Proofs.YtfhaloclbbmbeaaGreat
namespace Go.Proofs.YtfhaloclbbmbeaaGreat
open Go.RowKit
theorem ptl_16 {w : World} {A : Option Addr} {m : Nat} {L : List Pt} (h : N15.Ptl w A m L) : N16.Ptl w A m L := ⟨h.len, fun i hi => h.get i hi⟩
theorem ctl_16 {w : World} {A : Option Addr} {m : Nat} {LL : List (List Pt)} (h : N15.Ctl w A m LL) : N16.Ctl w A m LL := ⟨h.len, fun i hi => by
  obtain ⟨ad, B, c, h1, h2, h3, h4⟩ := h.get i hi
  exact ⟨ad, B, c, h1, h2, h3, ptl_16 h4⟩⟩
namespace Ft
theorem FnB.bel {W W' : World} {g : Nat} {h : Hd} {ws : List Int} {os : List (List (List Pt))} {ps : List (Int × Int)} (f : FnB W g h ws os ps) (hb : Below W.heap.size W W') : FnB W' g h ws os ps := by
  obtain ⟨A1, k1, c1, A2, k2, c2, A3, k3, c3, h1, h2, h3, h4⟩ := f
  exact ⟨A1, k1, c1, A2, k2, c2, A3, k3, c3, (hb.block g (heap_lt h1)).trans h1, h2.bel hb, h3.bel hb, h4.bel hb⟩
theorem has_any (g : Nat) (h : Hd) (ws : List Int) (os : List (List (List Pt))) (ps : List (Int × Int)) (w : World) (f : FnB w g h ws os ps) (n : Nat) (hn : n < os.length) :
    Calls Tryz.prog 59 #[.pointer (some ⟨g, 0, none⟩), .int .i64 (n : Int)] w fun e w' => e = .returned (.bool true) ∧ Below w.heap.size w w' := by
  obtain ⟨A1, k1, c1, A2, k2, c2, A3, k3, c3, h1, h2, h3, h4⟩ := f
  have hl := h3.len
  have q8 := cell_of_row w g 8 _ 82 (0, 0) h1
  have q8 : w.cell? ⟨g, 8, none⟩ = some (.slice A2 k2 c2) := q8
  have e0 : (0 : Int) ≤ (n : Int) := by omega
  have e1 : (n : Int) < (k2 : Int) := by omega
  clear h1 h2 h3 h4
  go_enter Tryz.func59, Tryz.ntmps59
  go_wp2_with fail
  all_goals first | (go_ret; exact ⟨rfl, Below.refl _ _⟩) | (exfalso; omega)
theorem width_any (g : Nat) (h : Hd) (ws : List Int) (os : List (List (List Pt))) (ps : List (Int × Int)) (w : World) (f : FnB w g h ws os ps) (n : Nat) (hn : n < os.length) (hw : n < ws.length) :
    Calls Tryz.prog 25 #[.pointer (some ⟨g, 0, none⟩), .int .i64 (n : Int)] w fun e w' => e = .returned (.tuple #[.int .i64 (co ws n), .int .i64 0]) ∧ Below w.heap.size w w' := by
  have HH := Lib.hid (has_any g h ws os ps w f n hn)
  have HF := Lib.hid f
  clear f
  go_enter Tryz.func25, Tryz.ntmps25
  go_upto_region 3 with (go_at_call 59; (with_reducible refine HH.out.mono ?_); rintro e w1 ⟨rfl, hb⟩; have HB := Lib.hid hb; clear hb)
  obtain ⟨A1, k1, c1, A2, k2, c2, A3, k3, c3, h1, h2, h3, h4⟩ := HF.out.bel HB.out
  have hl := h2.len
  have q7 : w1.cell? ⟨g, 7, none⟩ = some (.slice A1 k1 c1) := cell_of_row w1 g 7 _ 82 (0, 0) h1
  obtain ⟨ad, rfl, hlt, hc⟩ := h2.get n (by omega)
  have e0 : (0 : Int) ≤ (n : Int) := by omega
  have e1 : (n : Int) < (k1 : Int) := by omega
  clear h1 h2 h3 h4
  go_wp2_with fail
  go_ret2
  exact ⟨rfl, HB.out⟩
set_option maxHeartbeats 1000000 in
theorem edges_any (g : Nat) (h : Hd) (ws : List Int) (os : List (List (List Pt))) (ps : List (Int × Int)) (w : World) (f : FnB w g h ws os ps) (n : Nat) (hn : n < os.length) (px : Int) (hl1 : (N15.og os n).length ≤ 1000) (hl2 : ∀ i, i < (N15.og os n).length → (ct (N15.og os n) i).length ≤ 5000) :
    Calls Tryz.prog 16 #[.pointer (some ⟨g, 0, none⟩), .int .i64 (n : Int), .int .i64 px] w fun e w' => ∃ A c, e = .returned (.tuple #[.slice A (N16.EdP (N15.og os n) px).2.length c, .int .i64 (N16.EdP (N15.og os n) px).1]) ∧ Below w.heap.size w w' := by
  have HH := Lib.hid (has_any g h ws os ps w f n hn)
  have HF := Lib.hid f
  clear f
  go_enter Tryz.func16, Tryz.ntmps16
  go_upto_region 3 with (go_at_call 59; (with_reducible refine HH.out.mono ?_); rintro e w1 ⟨rfl, hb⟩; have HB := Lib.hid hb; clear hb)
  obtain ⟨A1, k1, c1, A2, k2, c2, A3, k3, c3, h1, h2, h3, h4⟩ := HF.out.bel HB.out
  have hl := h3.len
  have q8 : w1.cell? ⟨g, 8, none⟩ = some (.slice A2 k2 c2) := cell_of_row w1 g 8 _ 82 (0, 0) h1
  obtain ⟨ad, B, c, rfl, hlt, hc, hC⟩ := h3.get n (by omega)
  have HE := Lib.hid (N16.edgesK_any B _ c (N15.og os n) px w1 (ctl_16 hC) hl1 hl2)
  have e0 : (0 : Int) ≤ (n : Int) := by omega
  have e1 : (n : Int) < (k2 : Int) := by omega
  clear h1 h2 h3 h4 hC hl1 hl2
  go_wp2_with (go_at_call 61; (with_reducible refine HE.out.mono ?_); rintro e w2 ⟨A5, k5, c5, rfl, hE, _, hb⟩; have HE5 := Lib.hid hE; have HB2 := Lib.hid (HB.out.trans (hb.mono HB.out.size)); clear hb hE)
  go_ret2
  have hk := HE5.out.len
  subst hk
  exact ⟨A5, c5, rfl, HB2.out⟩
theorem glyph_any (g : Nat) (h : Hd) (ws : List Int) (os : List (List (List Pt))) (ps : List (Int × Int)) (w : World) (f : FnB w g h ws os ps) (t : Int) (hm : ps.length ≤ 1000000) (hr : ∀ i, i + 1 < ps.length → cd ps i < cd ps (i + 1)) :
    Calls Tryz.prog 20 #[.pointer (some ⟨g, 0, none⟩), .int .i64 t] w fun e w' => e = .returned (.int .i64 (fnd ps t)) ∧ Below w.heap.size w w' := by
  obtain ⟨A1, k1, c1, A2, k2, c2, A3, k3, c3, h1, h2, h3, h4⟩ := f
  have hl := h4.len
  have q9 : w.cell? ⟨g, 9, none⟩ = some (.slice A3 k3 c3) := cell_of_row w g 9 _ 82 (0, 0) h1
  have HE := Lib.hid (N12.find_any A3 k3 c3 ps t w h4 (by omega) hr)
  clear h1 h2 h3 h4 hr
  go_enter Tryz.func20, Tryz.ntmps20
  go_wp2_with (go_at_call 64; (with_reducible refine HE.out.mono ?_); rintro e w1 ⟨rfl, hb⟩; have HB := Lib.hid hb; clear hb)
  go_ret
  exact ⟨rfl, HB.out⟩
theorem ret_hd {fn : Func} {q : Tmp} {tmps : Array Value} {W : World} {g : Nat} {h : Hd} (hf : fn.results = #[.cell q 39]) (hq : tmps.getD q undef = .pointer (some ⟨g, 0, none⟩)) (ha : HB W g h) :
    (results fn tmps).run Tryz.prog W = .ok (.agg #[.int .i64 h.em, .bool h.lg, .int .i64 h.gl, .int .i64 h.me, .int .i64 h.a1, .int .i64 h.a2, .int .i64 h.a3]) W := by
  obtain ⟨c0, c1, c2, c3, c4, c5, c6⟩ := ha.cells
  rw [Array.getD_eq_getD_getElem?] at hq
  simp [results, hf, hq, go_sem, c0, c1, c2, c3, c4, c5, c6]
theorem head_nil (w : World) : Calls Tryz.prog 22 #[.pointer none] w fun e w' => e = .returned (.agg #[.int .i64 0, .bool false, .int .i64 0, .int .i64 0, .int .i64 0, .int .i64 0, .int .i64 0]) ∧ Below w.heap.size w w' := by
  go_enter Tryz.func22, Tryz.ntmps22
  go_wp2_with fail
  refine bodyPost_ret (ret_hd (h := Hd.zero) (q := 2) (g := w.heap.size) rfl rfl (heap_alloc_new w _)) rfl ?_
  exact ⟨rfl, (Below.refl _ _).alloc (Nat.le_refl _) _⟩
theorem head_any (g : Nat) (h : Hd) (ws : List Int) (os : List (List (List Pt))) (ps : List (Int × Int)) (w : World) (f : FnB w g h ws os ps) :
    Calls Tryz.prog 22 #[.pointer (some ⟨g, 0, none⟩)] w fun e w' => e = .returned (.agg #[.int .i64 h.em, .bool h.lg, .int .i64 h.gl, .int .i64 h.me, .int .i64 h.a1, .int .i64 h.a2, .int .i64 h.a3]) ∧ Below w.heap.size w w' := by
  obtain ⟨A1, k1, c1, A2, k2, c2, A3, k3, c3, h1, h2, h3, h4⟩ := f
  have hb : Below w.heap.size w (w.alloc (.cells #[.int .i64 0, .bool false, .int .i64 0, .int .i64 0, .int .i64 0, .int .i64 0, .int .i64 0] 39)) := (Below.refl _ _).alloc (Nat.le_refl _) _
  have h1' := (hb.block g (heap_lt h1)).trans h1
  have q0 : (w.alloc (.cells #[.int .i64 0, .bool false, .int .i64 0, .int .i64 0, .int .i64 0, .int .i64 0, .int .i64 0] 39)).cell? ⟨g, 0, none⟩ = some (.int .i64 h.em) := cell_of_row _ g 0 _ 82 (0, 0) h1'
  have q1 : (w.alloc (.cells #[.int .i64 0, .bool false, .int .i64 0, .int .i64 0, .int .i64 0, .int .i64 0, .int .i64 0] 39)).cell? ⟨g, 1, none⟩ = some (.bool h.lg) := cell_of_row _ g 1 _ 82 (0, 0) h1'
  have q2 : (w.alloc (.cells #[.int .i64 0, .bool false, .int .i64 0, .int .i64 0, .int .i64 0, .int .i64 0, .int .i64 0] 39)).cell? ⟨g, 2, none⟩ = some (.int .i64 h.gl) := cell_of_row _ g 2 _ 82 (0, 0) h1'
  have q3 : (w.alloc (.cells #[.int .i64 0, .bool false, .int .i64 0, .int .i64 0, .int .i64 0, .int .i64 0, .int .i64 0] 39)).cell? ⟨g, 3, none⟩ = some (.int .i64 h.me) := cell_of_row _ g 3 _ 82 (0, 0) h1'
  have q4 : (w.alloc (.cells #[.int .i64 0, .bool false, .int .i64 0, .int .i64 0, .int .i64 0, .int .i64 0, .int .i64 0] 39)).cell? ⟨g, 4, none⟩ = some (.int .i64 h.a1) := cell_of_row _ g 4 _ 82 (0, 0) h1'
  have q5 : (w.alloc (.cells #[.int .i64 0, .bool false, .int .i64 0, .int .i64 0, .int .i64 0, .int .i64 0, .int .i64 0] 39)).cell? ⟨g, 5, none⟩ = some (.int .i64 h.a2) := cell_of_row _ g 5 _ 82 (0, 0) h1'
  have q6 : (w.alloc (.cells #[.int .i64 0, .bool false, .int .i64 0, .int .i64 0, .int .i64 0, .int .i64 0, .int .i64 0] 39)).cell? ⟨g, 6, none⟩ = some (.int .i64 h.a3) := cell_of_row _ g 6 _ 82 (0, 0) h1'
  clear h1 h2 h3 h4 h1' hb
  go_enter Tryz.func22, Tryz.ntmps22
  go_wp2_with fail
  refine bodyPost_ret (ret_hd (h := h) (q := 2) (g := w.heap.size) rfl rfl (heap_alloc_new w _)) rfl ?_
  exact ⟨rfl, (Below.refl _ _).alloc (Nat.le_refl _) _⟩
end Ft
end Go.Proofs.YtfhaloclbbmbeaaGreat
namespace Go.Proofs.YtfhaloclbbmbeaaGreat
open Go.RowKit
namespace Ft
theorem L0_small : ∀ i, i < 7 → (tg L0 i).length ≤ 1000000 ∧ (dt L0 i).length ≤ 900000 := by decide +kernel
theorem make0 (Aw As : Option Addr) (Ap : Addr) (cw cs cp : Nat) (w : World) (hW : Il w Aw 2 [7, 7]) (hS : N15.Shl w As 2 S0) (hP : Pl w (some Ap) 1 P0) :
    Calls Tryz.prog 13 #[.agg #[.int .i64 16, .bool false, .int .i64 2, .int .i64 1, .int .i64 0, .int .i64 0, .int .i64 0], .slice Aw 2 cw, .slice As 2 cs, .slice (some Ap) 1 cp] w fun e w' => e = .returned (.tuple #[.string ⟨F0.toArray⟩, .int .i64 0]) ∧ Below w.heap.size w w' :=
  make_ok h0 h0_may Aw As Ap 2 cw 2 cs 1 cp w 3 p0 c0 d0 x0 l0 F0 rfl
    (Lib.hid (fun W hb => by
      have := N15.mayShapes_any As 2 cs S0 W (hS.bel hb) S0_lim (by omega)
      rw [decide_eq_true S0_may] at this
      exact this))
    (Lib.hid (fun W hb => by
      have := N12.may_any (some Ap) 1 cp P0 2 W (hP.bel hb)
      rw [decide_eq_true P0_may] at this
      exact this))
    (Lib.hid (fun W hb => N15.tellShapes_any As 2 cs S0 W (hS.bel hb) S0_lim (by omega) S0_leaf S0_E S0_even d0_len))
    (Lib.hid (fun W hb => by
      have := N11.hmtx_any h0 Aw 2 cw [7, 7] W (hW.bel hb)
      rw [x0_E] at this
      exact this))
    (Lib.hid (fun W A c' hI => by
      have := N11.loca_any h0 A 3 c' p0 W hI
      rw [l0_E] at this
      exact this))
    (Lib.hid (fun W hb => by
      have := tellPairs_any Ap 0 cp P0 W (hP.bel hb) (by omega) (by decide)
      rw [c0_E] at this
      exact this))
    L0_sort
    (Lib.hid (fun W A c' hT => by
      have := make_any A 7 c' L0 W hT (by omega) (fun i hi => (L0_small i hi).1) (fun i hi => (L0_small i hi).2)
      unfold mkS at this
      rw [if_pos L0_E, L0_E] at this
      exact this))
theorem new0 (w : World) : Calls Tryz.prog 8 #[.string ⟨F0.toArray⟩] w fun e w' => ∃ g, e = .returned (.tuple #[.pointer (some ⟨g, 0, none⟩), .int .i64 0]) ∧ FnB w' g h0 [7, 7] [[], [tri]] P0 ∧ Below w.heap.size w w' :=
  new_ok ⟨F0.toArray⟩ w L0 h0 [7, 7] [[], [tri]] P0 (Lib.hid (by decide))
    (Lib.hid (fun W => (parse_any ⟨F0.toArray⟩ W (by show F0.toArray.size ≤ _; rw [List.size_toArray]; exact F0_len)).mono fun e w' ⟨A, n, c, h1, h2, h3⟩ => by
      have hb : PE F0 = 0 ∧ PT F0 = L0 := back_PE L0_E
      have h1 : e = .returned (.tuple #[.slice A n c, .int .i64 (PE F0)]) := h1
      have h2 : Tl w' A n (PT F0) := h2
      rw [hb.1] at h1
      rw [hb.2] at h2
      exact ⟨A, n, c, h1, h2, h3⟩))
    (Lib.hid (fun W A n c hT => by
      have hn : n = 7 := hT.len.symm
      subst hn
      have := N10.parse_any A 7 c L0 W hT (by omega) (fun i hi => Nat.le_trans (L0_small i hi).2 (by omega))
      rw [L0_head, L0_is] at this
      exact this))
    (Lib.hid (fun W A n c hT => by
      have hn : n = 7 := hT.len.symm
      subst hn
      have := readWidths_any A 7 c L0 h0 W hT (by omega) (fun i hi => Nat.le_trans (L0_small i hi).2 (by omega))
      rw [L0_wE, L0_wL] at this
      exact this))
    (Lib.hid (fun W A n c hT => by
      have hn : n = 7 := hT.len.symm
      subst hn
      exact (N15.readOutlines_ok A 7 c L0 h0 W hT (by omega) (fun i hi => Nat.le_trans (L0_small i hi).2 (by omega)) d0 l0 L0_glyf L0_loca L0_pE S0 L0_S S0_leaf S0_may S0_lim).mono fun e w' ⟨A', c', h1, h2, h3⟩ => ⟨A', 2, c', h1, h2, h3⟩))
    (Lib.hid (fun W A n c hT => by
      have hn : n = 7 := hT.len.symm
      subst hn
      have := readPairs_any A 7 c L0 h0 W hT (by omega) (fun i hi => Nat.le_trans (L0_small i hi).2 (by omega))
      rw [show h0.gl = 2 from rfl, L0_P] at this
      exact this.mono fun e w' ⟨h1, A', k, c', h2, h3⟩ => ⟨A', k, c', h2, h3, h1⟩))
end Ft
end Go.Proofs.YtfhaloclbbmbeaaGreat
namespace Go.Proofs.YtfhaloclbbmbeaaGreat
open Go.RowKit
namespace Ft
theorem has_nil (n : Int) (w : World) : Calls Tryz.prog 59 #[.pointer none, .int .i64 n] w fun e w' => e = .returned (.bool false) ∧ Below w.heap.size w w' := by
  go_enter Tryz.func59, Tryz.ntmps59
  go_wp2_with fail
  go_ret
  exact ⟨rfl, Below.refl _ _⟩
theorem width_nil (n : Int) (w : World) : Calls Tryz.prog 25 #[.pointer none, .int .i64 n] w fun e w' => e = .returned (.tuple #[.int .i64 0, .int .i64 1]) ∧ Below w.heap.size w w' := by
  go_enter Tryz.func25, Tryz.ntmps25
  go_wp2_with (go_at_call 59; (with_reducible refine (has_nil n _).mono ?_); rintro e w1 ⟨rfl, hb⟩; have HB := Lib.hid hb; clear hb)
  go_ret2
  exact ⟨rfl, HB.out⟩
theorem outline_nil (n : Int) (w : World) : Calls Tryz.prog 15 #[.pointer none, .int .i64 n] w fun e w' => e = .returned (.tuple #[.slice none 0 0, .int .i64 1]) ∧ Below w.heap.size w w' := by
  go_enter Tryz.func15, Tryz.ntmps15
  go_wp2_with (go_at_call 59; (with_reducible refine (has_nil n _).mono ?_); rintro e w1 ⟨rfl, hb⟩; have HB := Lib.hid hb; clear hb)
  go_ret2
  exact ⟨rfl, HB.out⟩
theorem edges_nil (n px : Int) (w : World) : Calls Tryz.prog 16 #[.pointer none, .int .i64 n, .int .i64 px] w fun e w' => e = .returned (.tuple #[.slice none 0 0, .int .i64 1]) ∧ Below w.heap.size w w' := by
  go_enter Tryz.func16, Tryz.ntmps16
  go_wp2_with (go_at_call 59; (with_reducible refine (has_nil n _).mono ?_); rintro e w1 ⟨rfl, hb⟩; have HB := Lib.hid hb; clear hb)
  go_ret2
  exact ⟨rfl, HB.out⟩
theorem glyph_nil (n : Int) (w : World) : Calls Tryz.prog 20 #[.pointer none, .int .i64 n] w fun e w' => e = .returned (.int .i64 0) ∧ Below w.heap.size w w' := by
  go_enter Tryz.func20, Tryz.ntmps20
  go_wp2_with fail
  go_ret
  exact ⟨rfl, Below.refl _ _⟩
theorem pairs_nil (w : World) : Calls Tryz.prog 24 #[.pointer none] w fun e w' => e = .returned (.slice none 0 0) ∧ Below w.heap.size w w' := by
  go_enter Tryz.func24, Tryz.ntmps24
  go_wp2_with fail
  go_ret
  exact ⟨rfl, Below.refl _ _⟩
end Ft
end Go.Proofs.YtfhaloclbbmbeaaGreat
