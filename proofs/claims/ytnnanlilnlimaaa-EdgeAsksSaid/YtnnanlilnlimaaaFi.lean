/- Proved here: what the program's Edges answers. Condition: contours that lie in memory, within limits. -/
import Derived.Test.YtnnanlilnlimaaaFh
import Derived.Test.YtnnanlilnlimaaaPb
namespace Go.Proofs.Ytnnanlilnlimaaa
open Go.RowKit

theorem cE_ring (px k : Int) (L : List Pt) (h : 1 ≤ L.length) : (alR k (ring (way px L))).filter (fun e => decide (¬ smE e)) = cE px L k := by
  rw [ring_eds px k L h]
  rfl
theorem own_le {W : World} {base e size n c : Nat} {A : Option Addr} {xs : List Value} (h : W.ownsRow base e size (.slice A n c) n xs) : n ≤ c := by
  rcases Nat.eq_zero_or_pos n with h0 | h0
  · omega
  · obtain ⟨_, _, h1⟩ := own_some h h0; exact h1
/-- What Edges answers, over memory, with room as told. -/
def EdK (R : Int × List Edg) (w : World) (e : Ending) (w' : World) : Prop := ∃ A k c, e = .returned (.tuple #[.slice A k c, .int .i64 R.1]) ∧ Edl w' A k R.2 ∧ k ≤ c ∧ Below w.heap.size w w'
theorem edK_err {R : Int × List Edg} {w w' : World} {x : Int} (h : R = (x, [])) (hb : Below w.heap.size w w') : EdK R w (.returned (.tuple #[.slice none 0 0, .int .i64 x])) w' := by
  subst h
  exact ⟨none, 0, 0, rfl, Edl.nil _, Nat.le_refl _, hb⟩
set_option maxHeartbeats 8000000 in
set_option maxRecDepth 100000 in
theorem edgesK_any (A : Option Addr) (m c : Nat) (LL : List (List Pt)) (px : Int) (w : World) (hP : Ctl w A m LL) (hm : m ≤ 1000) (hl : ∀ i, i < m → (ct LL i).length ≤ 5000) :
    Calls Try.prog 8 #[.slice A m c, .int .i64 px] w (EdK (EdP LL px) w) := by
  have hlen := hP.len
  have CM := Lib.hid (may_any A m c LL w hP hm hl)
  by_cases hM : MayG LL
  rotate_left
  · rw [decide_eq_false hM] at CM
    have HX := Lib.hid (show EdP LL px = (1, []) from by unfold EdP; rw [if_neg (fun h => hM h.1)])
    clear hP hl hM hlen
    go_enter Try.func8, Try.ntmps8
    go_wp2_with (go_at_call 18; (with_reducible refine CM.out.mono ?_); rintro e w1 ⟨rfl, hb⟩; have HB := Lib.hid hb; clear hb)
    go_ret2
    exact edK_err HX.out HB.out
  rw [decide_eq_true hM] at CM
  by_cases h1 : px < 1
  · have HX := Lib.hid (show EdP LL px = (1, []) from by unfold EdP; rw [if_neg (fun h => by have := h.2.1; omega)])
    have e1 : decide (px < 1) = true := decide_eq_true h1
    clear hP hl hM hlen
    go_enter Try.func8, Try.ntmps8
    go_wp2_with (go_at_call 18; (with_reducible refine CM.out.mono ?_); rintro e w1 ⟨rfl, hb⟩; have HB := Lib.hid hb; clear hb)
    go_ret2
    exact edK_err HX.out HB.out
  have e1 : decide (px < 1) = false := decide_eq_false h1
  by_cases h2 : 128 < px
  · have HX := Lib.hid (show EdP LL px = (1, []) from by unfold EdP; rw [if_neg (fun h => by have := h.2.2; omega)])
    have e2 : decide (128 < px) = true := decide_eq_true h2
    clear hP hl hM hlen
    go_enter Try.func8, Try.ntmps8
    go_wp2_with (go_at_call 18; (with_reducible refine CM.out.mono ?_); rintro e w1 ⟨rfl, hb⟩; have HB := Lib.hid hb; clear hb)
    go_ret2
    exact edK_err HX.out HB.out
  have e2 : decide (128 < px) = false := decide_eq_false h2
  have HX := Lib.hid (show EdP LL px = (0, edL px 0 LL) from by unfold EdP; rw [if_pos ⟨hM, by omega, by omega⟩])
  have HM := Lib.hid hM
  have HL := Lib.hid hl
  have HLen := Lib.hid hlen
  have HI := Lib.hid hP
  obtain ⟨F, hF⟩ : ∃ F, F = edL px 0 LL := ⟨_, rfl⟩
  rw [← hF] at HX
  have HF := Lib.hid hF
  obtain ⟨i1, hi1, hy0, hy1, hy2⟩ := info_parts Try.info43z
  have H43 := Lib.hid (And.intro hi1 (And.intro hy0 (And.intro hy1 hy2)))
  clear hP hl hM hlen hF hi1 hy0 hy1 hy2
  go_enter Try.func8, Try.ntmps8
  go_upto_region 3 with (go_at_call 18; (with_reducible refine CM.out.mono ?_); rintro e w1 ⟨rfl, hb⟩; have HB := Lib.hid hb; clear hb)
  go_wp2_with fail
  go_loopw [6, 22] (fun v i wr => ∃ (k ke : Nat) (A' : Option Addr) (c' : Nat) (out : List Edg), i = .int .i64 (k : Int) ∧ k ≤ m ∧ v = .slice A' ke c' ∧ out.length = ke ∧ ke ≤ k * 10000 ∧ out ++ edL px (k : Int) (LL.drop k) = F ∧ wr.ownsRow w1.heap.size 43 8 (.slice A' ke c') ke (egC out) ∧ Below w1.heap.size w1 wr) (fun _ i _ => m - (intOf i).toNat)
  case atStart => exact ⟨0, 0, none, 0, [], rfl, Nat.zero_le _, rfl, rfl, Nat.le_refl _, HF.out.symm, World.ownsRow_nil _ _ _ _, Below.refl _ _⟩
  case round =>
    obtain ⟨k, ke, A', c', out, rfl, hk, rfl, hke, hk2, hfl, ho, hb⟩ := hrel
    have HBr := Lib.hid hb
    have HO := Lib.hid ho
    by_cases hgo : k < m
    · obtain ⟨ad, B, cB, hA, d0, hpt⟩ := HI.out.at_ (HB.out.trans (hb.mono HB.out.size)) hgo
      subst hA
      have hmk := HM.out.2 k (by rw [HLen.out]; exact hgo)
      have hlk := HL.out k hgo
      rw [ct_drop LL k (by rw [HLen.out]; exact hgo)] at hfl
      have hcl := cE_len px (k : Int) (ct LL k)
      have hwl := way_len px (ct LL k)
      have CC := Lib.hid (wayOf_any B (ct LL k).length cB px (ct LL k) wr hpt hmk.1.1 hlk ⟨by omega, by omega⟩ (fun i hi => hmk.2 i hi))
      have hw1 : 0 < (way px (ct LL k)).length := by
        obtain ⟨z, R, hz, _⟩ := way_head px (ct LL k) hmk.1.1
        rw [hz]; simp
      have hE := cE_ring px (k : Int) (ct LL k) hmk.1.1
      obtain ⟨n, hn⟩ : ∃ n, n = (ct LL k).length := ⟨_, rfl⟩
      rw [← hn] at d0 CC hcl hlk hwl
      obtain ⟨E, hE2⟩ : ∃ E, E = cE px (ct LL k) (k : Int) := ⟨_, rfl⟩
      have HFl := Lib.hid (show (out ++ E) ++ edL px ((k + 1 : Nat) : Int) (LL.drop (k + 1)) = F from by rw [List.append_assoc, hE2]; exact hfl)
      rw [← hE2] at hcl hE
      obtain ⟨lw, hlw⟩ : ∃ l, l = way px (ct LL k) := ⟨_, rfl⟩
      rw [← hlw] at CC hwl hw1 hE
      obtain ⟨kw, hkw⟩ : ∃ k, k = lw.length := ⟨_, rfl⟩
      have CA := Lib.hid (fun A1 c1 b (W : World) (h : W.ownsRow b 53 3 (.slice A1 kw c1) kw (ndC lw)) => show Calls Try.prog 19 #[.slice A1 kw c1, .int .i64 (k : Int)] W fun e w' => ∃ A' c', e = .returned (.slice A' E.length c') ∧ AlS W w' (.slice A' E.length c') E.length E from by
        have h2 := along_any A1 kw c1 b lw (k : Int) W h hkw.symm (by rw [hkw]; exact hw1) (by rw [hkw]; omega)
        rw [hE] at h2
        exact h2.mono fun e w' ⟨A', k', c', h3, h4, h5⟩ => by subst h4; exact ⟨A', c', h3, h5⟩)
      rw [← hkw] at CC
      have HKe := Lib.hid (And.intro hke hk2)
      obtain ⟨kE, hkE⟩ : ∃ n, n = E.length := ⟨_, rfl⟩
      rw [← hkE] at CA hcl
      have HkE := Lib.hid hkE
      clear hfl ho hb hpt hmk hn hE hE2 hke hkE hlw hkw hw1 hwl
      go_wp2_with (first
        | (go_at_call 20; (with_reducible refine CC.out.mono ?_); rintro e w3 ⟨A5, c5, rfl, ho, hb⟩; have HO5 := Lib.hid ho; have HB5 := Lib.hid hb; have HOw := Lib.hid (own_bel HO.out hb); have HBw := Lib.hid (HBr.out.trans (hb.mono HBr.out.size)); clear ho hb)
        | (go_at_call 19; (with_reducible refine (CA.out _ _ _ _ HO5.out).mono ?_); rintro e w4 ⟨A6, c6, rfl, hs6⟩; have HS6 := Lib.hid hs6; have HOx := Lib.hid (own_bel HOw.out hs6.bel); have HBx := Lib.hid (HBw.out.trans (hs6.bel.mono HBw.out.size)); clear hs6)
        | (at_builtin; go_must (refine wpList_append_src _ rfl (.tmp 27) (.tmp 32) 25 rfl w1.heap.size 43 i1 _ 8 64 Try.underlying25 H43.out.1 H43.out.2.1 H43.out.2.2.1 H43.out.2.2.2 rfl (by decide) (.slice A' ke c') ke (egC out) rfl HOx.out A6 kE c6 (egC E) rfl (by rw [egC_len, ← HkE.out]) (own_src HS6.out.own) (egC_one E) (by unfold maxLen; omega) (by omega) HBx.out.size ?_); intro v' w7 hown' hg'; obtain ⟨A7, c7, rfl⟩ := own_form hown'; have HO7 := Lib.hid hown'; have HB7 := Lib.hid (below_grown HBx.out HOx.out hg'); clear hown' hg'))
      exact ⟨⟨k + 1, ke + kE, A7, c7, out ++ E, by simp, by omega, rfl, by rw [List.length_append, HKe.out.1, ← HkE.out], by have := HKe.out.2; omega, HFl.out, by rw [egC_app]; exact HO7.out, HB7.out⟩, by simp [intOf]; omega⟩
    · obtain rfl : k = m := by omega
      have HR := Lib.hid (show out = F from by
        rw [List.drop_of_length_le (by rw [HLen.out]; exact Nat.le_refl _)] at hfl
        rw [← hfl]; exact (List.append_nil _).symm)
      have HKe := Lib.hid hke
      clear hfl ho hb
      go_wp2_with fail
      go_ret2
      have h := HO.out
      have h2 := HKe.out
      rw [HR.out] at h h2
      rw [HX.out]
      exact ⟨A', ke, c', rfl, own_edl h h2, own_le h, HB.out.trans (HBr.out.mono HB.out.size)⟩
theorem edges_any (A : Option Addr) (m c : Nat) (LL : List (List Pt)) (px : Int) (w : World) (hP : Ctl w A m LL) (hm : m ≤ 1000) (hl : ∀ i, i < m → (ct LL i).length ≤ 5000) :
    Calls Try.prog 8 #[.slice A m c, .int .i64 px] w (EdE (EdP LL px) w) :=
  (edgesK_any A m c LL px w hP hm hl).mono fun _ _ ⟨A', k', c', h1, h2, _, h4⟩ => ⟨A', k', c', h1, h2, h4⟩
end Go.Proofs.Ytnnanlilnlimaaa
