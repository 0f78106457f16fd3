/- Proved here: what the document's Edges answers. Condition: contours that lie in memory, within limits. -/
import Derived.Test.YtnnanlilnlimaaaEk
namespace Go.Proofs.Ytnnanlilnlimaaa
open Go.RowKit

theorem egC_get : ∀ (L : List Edg) (i : Nat), i < L.length → ∀ j, j < 8 → (egC L)[i * 8 + j]? = (edC (eg L i))[j]?
  | t :: L, 0, _, j, hj => by
    show (edC t ++ egC L)[0 * 8 + j]? = (edC t)[j]?
    rw [Nat.zero_mul, Nat.zero_add, List.getElem?_append_left hj]
  | t :: L, i + 1, h, j, hj => by
    show (edC t ++ egC L)[(i + 1) * 8 + j]? = (edC (eg L i))[j]?
    have e8 : (edC t).length = 8 := rfl
    rw [List.getElem?_append_right (by rw [e8]; omega), e8, show (i + 1) * 8 + j - 8 = i * 8 + j by omega]
    exact egC_get L i (by simp at h; omega) j hj
theorem own_edl {W : World} {base n c : Nat} {A : Option Addr} {L : List Edg} (h : W.ownsRow base 43 8 (.slice A n c) n (egC L)) (hl : L.length = n) : Edl W A n L := by
  refine ⟨hl, fun i hi => ?_⟩
  obtain ⟨ad, h1, h2, h3⟩ := own_cell h (by omega)
  refine ⟨ad, h1, h2, fun j u hu => ?_⟩
  have hj : j < 8 := by
    rcases Nat.lt_or_ge j 8 with h | h
    · exact h
    · rw [List.getElem?_eq_none (by show 8 ≤ j; exact h)] at hu; cases hu
  exact h3 _ _ ((egC_get L i (by omega) j hj).trans hu)
theorem ct_drop (LL : List (List Pt)) (k : Nat) (h : k < LL.length) : LL.drop k = ct LL k :: LL.drop (k + 1) := by
  rw [List.drop_eq_getElem_cons h]
  congr 1
  simp [ct, h]
/-- What Edges answers, over memory. -/
def EdE (R : Int × List Edg) (w : World) (e : Ending) (w' : World) : Prop := ∃ A k c, e = .returned (.tuple #[.slice A k c, .int .i64 R.1]) ∧ Edl w' A k R.2 ∧ Below w.heap.size w w'
theorem edE_err {R : Int × List Edg} {w w' : World} {x : Int} (h : R = (x, [])) (hb : Below w.heap.size w w') : EdE R w (.returned (.tuple #[.slice none 0 0, .int .i64 x])) w' := by
  subst h
  exact ⟨none, 0, 0, rfl, Edl.nil _, hb⟩
set_option maxHeartbeats 8000000 in
set_option maxRecDepth 100000 in
theorem redges_any (A : Option Addr) (m c : Nat) (LL : List (List Pt)) (px : Int) (w : World) (hP : Ctl w A m LL) (hm : m ≤ 1000) (hl : ∀ i, i < m → (ct LL i).length ≤ 5000) :
    Calls Try.prog 9 #[.slice A m c, .int .i64 px] w (EdE (EdP LL px) w) := by
  have hlen := hP.len
  have CM := Lib.hid (rmay_any A m c LL w hP hm hl)
  by_cases hM : MayG LL
  rotate_left
  · rw [decide_eq_false hM] at CM
    have HX := Lib.hid (show EdP LL px = (1, []) from by unfold EdP; rw [if_neg (fun h => hM h.1)])
    clear hP hl hM hlen
    go_enter Try.func9, Try.ntmps9
    go_wp2_with (go_at_call 17; (with_reducible refine CM.out.mono ?_); rintro e w1 ⟨rfl, hb⟩; have HB := Lib.hid hb; clear hb)
    go_ret2
    exact edE_err HX.out HB.out
  rw [decide_eq_true hM] at CM
  by_cases h1 : px < 1
  · have HX := Lib.hid (show EdP LL px = (1, []) from by unfold EdP; rw [if_neg (fun h => by have := h.2.1; omega)])
    have e1 : decide (px < 1) = true := decide_eq_true h1
    clear hP hl hM hlen
    go_enter Try.func9, Try.ntmps9
    go_wp2_with (go_at_call 17; (with_reducible refine CM.out.mono ?_); rintro e w1 ⟨rfl, hb⟩; have HB := Lib.hid hb; clear hb)
    go_ret2
    exact edE_err HX.out HB.out
  have e1 : decide (px < 1) = false := decide_eq_false h1
  by_cases h2 : 128 < px
  · have HX := Lib.hid (show EdP LL px = (1, []) from by unfold EdP; rw [if_neg (fun h => by have := h.2.2; omega)])
    have e2 : decide (128 < px) = true := decide_eq_true h2
    clear hP hl hM hlen
    go_enter Try.func9, Try.ntmps9
    go_wp2_with (go_at_call 17; (with_reducible refine CM.out.mono ?_); rintro e w1 ⟨rfl, hb⟩; have HB := Lib.hid hb; clear hb)
    go_ret2
    exact edE_err HX.out HB.out
  have e2 : decide (128 < px) = false := decide_eq_false h2
  have HX := Lib.hid (show EdP LL px = (0, edL px 0 LL) from by unfold EdP; rw [if_pos ⟨hM, by omega, by omega⟩])
  have HM := Lib.hid hM
  have HL := Lib.hid hl
  have HLen := Lib.hid hlen
  have HI := Lib.hid hP
  obtain ⟨F, hF⟩ : ∃ F, F = edL px 0 LL := ⟨_, rfl⟩
  rw [← hF] at HX
  have HF := Lib.hid hF
  obtain ⟨i1, hi1, hy0, hy1, hy2⟩ := info_parts Try.info43z
  have H43 := Lib.hid (And.intro hi1 (And.intro hy0 (And.intro hy1 hy2)))
  clear hP hl hM hlen hF hi1 hy0 hy1 hy2
  go_enter Try.func9, Try.ntmps9
  go_upto_region 3 with (go_at_call 17; (with_reducible refine CM.out.mono ?_); rintro e w1 ⟨rfl, hb⟩; have HB := Lib.hid hb; clear hb)
  go_wp2_with fail
  go_loopw [6, 7] (fun v i wr => ∃ (k ke : Nat) (A' : Option Addr) (c' : Nat) (out : List Edg), i = .int .i64 (k : Int) ∧ k ≤ m ∧ v = .slice A' ke c' ∧ out.length = ke ∧ ke ≤ k * 10000 ∧ out ++ edL px (k : Int) (LL.drop k) = F ∧ wr.ownsRow w1.heap.size 43 8 (.slice A' ke c') ke (egC out) ∧ Below w1.heap.size w1 wr) (fun _ i _ => m - (intOf i).toNat)
  case atStart => exact ⟨0, 0, none, 0, [], rfl, Nat.zero_le _, rfl, rfl, Nat.le_refl _, HF.out.symm, World.ownsRow_nil _ _ _ _, Below.refl _ _⟩
  case round =>
    obtain ⟨k, ke, A', c', out, rfl, hk, rfl, hke, hk2, hfl, ho, hb⟩ := hrel
    have HBr := Lib.hid hb
    have HO := Lib.hid ho
    by_cases hgo : k < m
    · obtain ⟨ad, B, cB, hA, d0, hpt⟩ := HI.out.at_ (HB.out.trans (hb.mono HB.out.size)) hgo
      subst hA
      have hmk := HM.out.2 k (by rw [HLen.out]; exact hgo)
      have hlk := HL.out k hgo
      rw [ct_drop LL k (by rw [HLen.out]; exact hgo)] at hfl
      have hcl := cE_len px (k : Int) (ct LL k)
      have CC := Lib.hid (contour_any B (ct LL k).length cB px (k : Int) (ct LL k) wr hpt hmk.1.1 hlk ⟨by omega, by omega⟩ (fun i hi => hmk.2 i hi))
      obtain ⟨n, hn⟩ : ∃ n, n = (ct LL k).length := ⟨_, rfl⟩
      rw [← hn] at d0 CC hcl hlk
      obtain ⟨E, hE⟩ : ∃ E, E = cE px (ct LL k) (k : Int) := ⟨_, rfl⟩
      have HFl := Lib.hid (show (out ++ E) ++ edL px ((k + 1 : Nat) : Int) (LL.drop (k + 1)) = F from by rw [List.append_assoc, hE]; exact hfl)
      rw [← hE] at CC hcl
      have HKe := Lib.hid (And.intro hke hk2)
      obtain ⟨kE, hkE⟩ : ∃ n, n = E.length := ⟨_, rfl⟩
      rw [← hkE] at CC hcl
      have HkE := Lib.hid hkE
      clear hfl ho hb hpt hmk hn hE hke hkE
      go_wp2_with (first
        | (go_at_call 21; (with_reducible refine CC.out.mono ?_); rintro e w3 ⟨A5, c5, rfl, ho, hb⟩; have HO5 := Lib.hid ho; have HB5 := Lib.hid hb; have HOw := Lib.hid (own_bel HO.out hb); have HBw := Lib.hid (HBr.out.trans (hb.mono HBr.out.size)); clear ho hb)
        | (at_builtin; go_must (refine wpList_append_src _ rfl (.tmp 25) (.tmp 32) 25 rfl w1.heap.size 43 i1 _ 8 64 Try.underlying25 H43.out.1 H43.out.2.1 H43.out.2.2.1 H43.out.2.2.2 rfl (by decide) (.slice A' ke c') ke (egC out) rfl HOw.out A5 kE c5 (egC E) rfl (by rw [egC_len, HkE.out]) (own_src HO5.out) (egC_one E) (by unfold maxLen; omega) (by omega) HBw.out.size ?_); intro v' w7 hown' hg'; obtain ⟨A7, c7, rfl⟩ := own_form hown'; have HO7 := Lib.hid hown'; have HB7 := Lib.hid (below_grown HBw.out HOw.out hg'); clear hown' hg'))
      exact ⟨⟨k + 1, ke + kE, A7, c7, out ++ E, by simp, by omega, rfl, by rw [List.length_append, HKe.out.1, ← HkE.out], by have := HKe.out.2; omega, HFl.out, by rw [egC_app]; exact HO7.out, HB7.out⟩, by simp [intOf]; omega⟩
    · obtain rfl : k = m := by omega
      have HR := Lib.hid (show out = F from by
        rw [List.drop_of_length_le (by rw [HLen.out]; exact Nat.le_refl _)] at hfl
        rw [← hfl]; exact (List.append_nil _).symm)
      have HKe := Lib.hid hke
      clear hfl ho hb
      go_wp2_with fail
      go_ret2
      have h := HO.out
      have h2 := HKe.out
      rw [HR.out] at h h2
      rw [HX.out]
      exact ⟨A', ke, c', rfl, own_edl h h2, HB.out.trans (HBr.out.mono HB.out.size)⟩
end Go.Proofs.Ytnnanlilnlimaaa
