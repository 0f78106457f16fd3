/- Proved here: the law's small answers whether there are at most 8 numbers of at most 4 digits. Condition: a list of numbers that lies in memory. · what the document's Chain of layer 6 answers and leaves in memory. Condition: a polynomial in its one form, not 0, of at most 13 numbers of few enough digits, that lies in memory. · what the document's Changes of layer 6 answers. Condition: a list of polynomials of few enough digits that lies in memory, and a fraction of 64 bits. · the law SturmChains returns true. Condition: a list of numbers that lies in memory, and a fraction of 64 bits. -/
import Derived.Test.YtpobhegllhhdgaaGreatRb
import Derived.Test.YtpobhegllhhdgaaGreatQk
import Derived.Test.YtpobhegllhhdgaaGreatJc
import Derived.Test.YtpobhegllhhdgaaGreatRg
import Derived.Test.YtpobhegllhhdgaaGreatJB
import Derived.Test.YtpobhegllhhdgaaGreatKB
import Derived.Test.YtpobhegllhhdgaaGreatRi
namespace Go.Proofs.YtpobhegllhhdgaaGreat
open Go.RowKit

/-- The number at t has at most 4 digits. -/
def Sm4 (w : World) (A : Option Addr) (t : Nat) : Prop := ∀ ad B p q, A = some ad → w.cell? (ad.add (t * 2 + 1)) = some (.slice B p q) → p ≤ 4
theorem Pol.small4 {w : World} {A : Option Addr} {m c : Nat} {L : List Int} {l : Nat} (h : Pol .a w (.slice A m c) L l) (hs : ∀ t, t < m → Sm4 w A t) : Pol .a w (.slice A m c) L 4 := by
  have hm := h.cap.1
  obtain ⟨A', c', h1, h2, h3, h4, h5⟩ := h
  refine ⟨A', c', h1, h2, h3, h4, fun ad ha => ⟨(h5 ad ha).1, fun i hi => ?_⟩⟩
  injection h1 with e1 e2 e3
  obtain ⟨n, B, p, q, f1, f2, f3⟩ := (h5 ad ha).2 i hi
  refine ⟨n, B, p, q, f1, f2, ?_⟩
  have hp := hs i (by omega) ad B p q (e1.trans ha) f2
  obtain ⟨b, v, xs, g1, g2, g3, g4, g5⟩ := f3
  refine ⟨b, v, xs, g1, g2, g3, ?_, g5⟩
  obtain ⟨A2, c2, k1, _⟩ := g2
  injection g1 with g1
  simp at g1
  have k4 := g1.2.trans k1
  injection k4 with k1 k2 k3
  omega
/-- At most 8 numbers of at most 4 digits. -/
def SmQ (w : World) (A : Option Addr) (m : Nat) : Prop := m ≤ 8 ∧ ∀ t, t < m → Sm4 w A t
set_option maxRecDepth 100000 in
set_option maxHeartbeats 1000000 in
theorem small6_yes (A : Option Addr) (m c : Nat) (L : List Int) (l : Nat) (w W : World) (h : Pol .a w (.slice A m c) L l) (hW : Below w.heap.size w W) (hs : SmQ w A m) :
    Calls Tryz.prog 7 #[.slice A m c] W fun e w' => e = .returned (.bool true) ∧ Below W.heap.size W w' := by
  have H := Lib.hid h
  have HM := Lib.hid h.cap.1
  have HW := Lib.hid hW
  have HS := Lib.hid hs
  have hn8_ : ¬ 8 < m := by have := hs.1; omega
  clear h hW hs
  go_enter Tryz.func7, Tryz.ntmps7
  go_wp2_with fail
  go_loopw [10] (fun i wr => ∃ j : Nat, i = .int .i64 (j : Int) ∧ j ≤ m ∧ Below W.heap.size W wr) (fun i _ => m - (intOf i).toNat)
  case atStart => exact ⟨0, rfl, Nat.zero_le _, Below.refl _ _⟩
  case round =>
    obtain ⟨j, rfl, hj, hb⟩ := hrel
    by_cases hgo : j < m
    · obtain ⟨ad, na, Ba, pa, qa, rfl, had, c0, c1, he⟩ := H.out.get j (by rw [← HM.out]; exact hgo)
      have hb0 := bel_tr HW.out hb
      have g0 : wr.cell? (ad.add (j * 2)) = some (.bool na) := by rw [hb0.cell (by rw [block_of_add]; exact had)]; exact c0
      have g1 : wr.cell? { block := (ad.add (j * 2)).block, off := (ad.add (j * 2)).off + 1 } = some (.slice Ba pa qa) := by rw [add_next, hb0.cell (by rw [block_of_add]; exact had)]; exact c1
      have hp : ¬ 4 < pa := by have := HS.out.2 j hgo ad Ba pa qa rfl c1; omega
      have HB := Lib.hid hb
      clear c0 c1 he hb hb0
      go_wp2_with fail
      exact ⟨⟨j + 1, by simp, by omega, bel_tr HB.out (bel_a _ _)⟩, by simp [intOf]; omega⟩
    · obtain rfl : j = m := by omega
      have HB := Lib.hid hb
      clear hb
      go_wp2_with fail
      go_ret
      exact ⟨rfl, HB.out⟩
set_option maxRecDepth 100000 in
set_option maxHeartbeats 1000000 in
theorem small6_no (A : Option Addr) (m c : Nat) (L : List Int) (l : Nat) (w W : World) (h : Pol .a w (.slice A m c) L l) (hW : Below w.heap.size w W) (hs : ¬ SmQ w A m) :
    Calls Tryz.prog 7 #[.slice A m c] W fun e w' => e = .returned (.bool false) ∧ Below W.heap.size W w' := by
  have H := Lib.hid h
  obtain ⟨hmL, hmc, hcm⟩ := h.cap
  unfold maxLen at hcm
  have HM := Lib.hid hmL
  have HW := Lib.hid hW
  have HS := Lib.hid hs
  clear h hmL hW hs
  by_cases h8_ : m ≤ 8
  · have hn8_ : ¬ 8 < m := by omega
    have H8_ := Lib.hid h8_
    go_enter Tryz.func7, Tryz.ntmps7
    go_wp2_with fail
    go_loopw [10] (fun i wr => ∃ j : Nat, i = .int .i64 (j : Int) ∧ j ≤ m ∧ Below W.heap.size W wr ∧ ∀ t, t < j → Sm4 w A t) (fun i _ => m - (intOf i).toNat)
    case atStart => exact ⟨0, rfl, Nat.zero_le _, Below.refl _ _, fun t ht => by omega⟩
    case round =>
      obtain ⟨j, rfl, hj, hb, hs⟩ := hrel
      by_cases hgo : j < m
      · obtain ⟨ad, na, Ba, pa, qa, rfl, had, c0, c1, he⟩ := H.out.get j (by rw [← HM.out]; exact hgo)
        have hb0 := bel_tr HW.out hb
        have g0 : wr.cell? (ad.add (j * 2)) = some (.bool na) := by rw [hb0.cell (by rw [block_of_add]; exact had)]; exact c0
        have g1 : wr.cell? { block := (ad.add (j * 2)).block, off := (ad.add (j * 2)).off + 1 } = some (.slice Ba pa qa) := by rw [add_next, hb0.cell (by rw [block_of_add]; exact had)]; exact c1
        have HC := Lib.hid c1
        have HB := Lib.hid hb
        have HSS := Lib.hid hs
        clear c0 c1 he hb hs hb0
        by_cases hp : pa ≤ 4
        · have hp2 : ¬ 4 < pa := by omega
          go_wp2_with fail
          exact ⟨⟨j + 1, by simp, by omega, bel_tr HB.out (bel_a _ _), fun t ht => by
            rcases Nat.lt_or_ge t j with h | h
            · exact HSS.out t h
            · obtain rfl : t = j := by omega
              intro ad2 B p q hA hc
              injection hA with hA
              subst hA
              rw [HC.out] at hc
              injection hc with hc
              injection hc with _ hc _
              omega⟩, by simp [intOf]; omega⟩
        · have hp2 : 4 < pa := by omega
          go_wp2_with fail
          go_ret
          exact ⟨rfl, bel_tr HB.out (bel_a _ _)⟩
      · exfalso
        obtain rfl : j = m := by omega
        exact HS.out ⟨H8_.out, hs⟩
  · have hn8_ : 8 < m := by omega
    go_enter Tryz.func7, Tryz.ntmps7
    go_wp2_with fail
    go_ret
    exact ⟨rfl, Below.refl _ _⟩
end Go.Proofs.YtpobhegllhhdgaaGreat
namespace Go.Proofs.YtpobhegllhhdgaaGreat
open Go.RowKit

/-- A list of polynomials is answered. -/
def RcE (K : Kd) (Ls : List (List Int)) (l : Nat) (w : World) (e : Ending) (w' : World) : Prop :=
  ∃ A c, e = .returned (.slice A Ls.length c) ∧ Cn K w' (.slice A Ls.length c) Ls l ∧ Below w.heap.size w w'
theorem Rc.one {K : Kd} {T : TypeId} {w : World} {B : Option Addr} {n q : Nat} {L : List Int} {l : Nat} (hn : n = L.length) (h : Pol K w (.slice B n q) L l) :
    Rc K T (w.alloc (.cells #[.slice B n q] T)) w.heap.size (.slice (some ⟨w.heap.size, 0, none⟩) 1 1) [L] l := by
  subst hn
  refine .inr ⟨w.heap.size, 1, [.slice B L.length q], [], rfl, Nat.le_refl _, heap_alloc_new w _, Nat.le_refl _, by unfold maxLen; omega, rfl, fun x hx => by simp at hx, ?_⟩
  exact (RwC.nil K _ l).snoc (h.bel (bel_a _ _))
theorem rdig_step {U x y D : Nat} (hy : y < x) (h : (U + 2) * 3 ^ x ≤ 3 * D) : (U + (U + 2) * (x + 1 - y) + 2) * 3 ^ y ≤ 3 * D := by
  obtain ⟨d, rfl⟩ : ∃ d, x = y + (d + 1) := ⟨x - y - 1, by omega⟩
  rw [show y + (d + 1) + 1 - y = d + 2 by omega]
  refine Nat.le_trans ?_ h
  rw [Nat.pow_add, Nat.mul_comm (3 ^ y), ← Nat.mul_assoc]
  refine Nat.mul_le_mul_right _ ?_
  have h1 := pow3' d
  have h2 := Nat.mul_le_mul_left (U + 2) h1
  have e1 : (U + 2) * (d + 3) = (U + 2) * (d + 2) + (U + 2) := Nat.mul_succ _ _
  omega
theorem rdig_le {U x D : Nat} (hx : 0 < x) (h : (U + 2) * 3 ^ x ≤ 3 * D) : U + 2 ≤ D := by
  obtain ⟨k, rfl⟩ : ∃ k, x = k + 1 := ⟨x - 1, by omega⟩
  rw [Nat.pow_succ, ← Nat.mul_assoc] at h
  have h1 : U + 2 ≤ (U + 2) * 3 ^ k := Nat.le_mul_of_pos_right _ (Nat.pow_pos (by omega))
  omega
set_option maxRecDepth 100000 in
set_option maxHeartbeats 2000000 in
theorem rchain_any (A : Option Addr) (n c : Nat) (T : List Int) (l D : Nat) (w : World) (h : Pol .n w (.slice A n c) T l) (hT : Cf T) (h0 : 0 < n) (h13 : n ≤ 13) (hD : (l + 7) * 3 ^ n ≤ 3 * D) (hD2 : D ≤ 39000) :
    Calls Tryz.prog 10 #[.slice A n c] w (RcE .n (chn T (derP T)) D w) := by
  have hlD := rdig_le (U := l + 5) h0 hD
  have hnT := h.cap.1
  obtain ⟨Q0, hQ0⟩ : ∃ Q0, Q0 = derP T := ⟨_, rfl⟩
  obtain ⟨n0, hn0⟩ : ∃ n0, n0 = Q0.length := ⟨_, rfl⟩
  have hq0 : n0 + 1 = n := by rw [hn0, hQ0]; unfold derP; rw [gen_len, pl_cf hT]; omega
  have HT := Lib.hid (show derP T = Q0 ∧ T.length = n ∧ Q0.length = n0 ∧ Cf T ∧ Cf Q0 from ⟨hQ0.symm, hnT.symm, hn0.symm, hT, hQ0 ▸ derP_cf _⟩)
  have HD := Lib.hid hD
  rw [← hQ0]
  have HC := Lib.hid (show (chn T Q0).length ≤ 14 by have := chn_len 13 T Q0 (by omega); omega)
  have HR := Lib.hid (Rc.one (T := 27) hnT (h.le (show l ≤ D by omega)))
  have HB := Lib.hid (bel_a w (.cells #[.slice A n c] 27))
  have HP := Lib.hid (h.bel HB.out)
  clear h hQ0 hn0 hD h0 hT hnT
  go_enter Tryz.func10, Tryz.ntmps10
  go_wp2_with (go_at_call 34; (with_reducible refine (rder5_any A n c T l _ HP.out (by omega) (by omega)).mono ?_); rintro e w3 he; rw [HT.out.1] at he; obtain ⟨A2, c2, rfl, hQ, hb⟩ := he; rw [HT.out.2.2.1] at hQ ⊢; have HQ := Lib.hid hQ; have HP := Lib.hid (HP.out.bel hb); have HR := Lib.hid (HR.out.bel hb); have HB := Lib.hid (bel_tr HB.out hb); clear hQ hb)
  go_loopw [0, 3, 4] (fun a ch b wr => ∃ (Ls : List (List Int)) (P Q : List Int) (A1 A2 : Option Addr) (c1 c2 x y U : Nat), Rc .n 27 wr w.heap.size ch (Ls ++ [P]) D ∧ a = .slice A1 x c1 ∧ x = P.length ∧ Pol .n wr (.slice A1 x c1) P U ∧ b = .slice A2 y c2 ∧ y = Q.length ∧ Pol .n wr (.slice A2 y c2) Q U ∧ Cf P ∧ Cf Q ∧ y < x ∧ x ≤ 13 ∧ (U + 2) * 3 ^ x ≤ 3 * D ∧ Ls ++ chn P Q = chn T Q0 ∧ Below w.heap.size w wr) (fun _ _ b _ => lenOf b)
  case atStart => exact ⟨[], T, Q0, A, A2, c, c2, n, n0, l + 5, HR.out, rfl, HT.out.2.1.symm, HP.out.le (by omega), rfl, HT.out.2.2.1.symm, HQ.out, HT.out.2.2.2.1, HT.out.2.2.2.2, by omega, by omega, HD.out, rfl, HB.out⟩
  case round =>
    obtain ⟨Ls, P, Q, A1, A2, c1, c2, x, y, U, hR, rfl, hx, hP, rfl, hy, hQ, hcP, hcQ, hyx, hx13, hU, hE, hb⟩ := hrel
    have hUD := rdig_le (by omega) hU
    have HL := Lib.hid (show (Ls ++ [P]).length ≤ 1000000 by have h1 := congrArg List.length hE; have := HC.out; simp at h1 ⊢; omega)
    have HX := Lib.hid (And.intro hx (And.intro hy (And.intro hcP (And.intro hcQ hE))))
    have HR := Lib.hid hR
    have HP := Lib.hid hP
    have HQ := Lib.hid hQ
    have HB := Lib.hid hb
    have HU := Lib.hid hU
    clear hx hy hcP hcQ hE hR hP hQ hb hU
    rcases Nat.eq_zero_or_pos y with hy0 | hy0
    · subst hy0
      have hE := HX.out.2.2.2.2
      rw [chn_stop HX.out.2.1.symm] at hE
      obtain ⟨A', c', hv⟩ := HR.out.form
      have hcn := HR.out.cn
      rw [hE] at hv hcn
      have HV := Lib.hid hv
      have HCN := Lib.hid hcn
      clear hE hv hcn
      go_wp2_with fail
      go_ret
      have hv := HV.out
      have hcn := HCN.out
      subst hv
      exact ⟨A', c', rfl, hcn, HB.out⟩
    · obtain ⟨y2, hy2⟩ : ∃ y2, y = y2 + 1 := ⟨y - 1, by omega⟩
      have hU2 := rdig_step hyx HU.out
      have hU3 := rdig_le hy0 hU2
      obtain ⟨R, hR⟩ : ∃ R, R = restP P Q := ⟨_, rfl⟩
      obtain ⟨z, hz⟩ : ∃ z, z = R.length := ⟨_, rfl⟩
      have hcR : Cf R := hR ▸ restP_cf HX.out.2.2.1
      have hzy : z < y := by rw [hz, hR, HX.out.2.1]; exact restP_short (by have := HX.out.2.1; omega)
      obtain ⟨U1, hU1⟩ : ∃ U1, U1 = U + (U + 2) * (x + 1 - y) := ⟨_, rfl⟩
      have HRS := Lib.hid (fun W (hp : Pol .n W (.slice A1 x c1) P U) (hq : Pol .n W (.slice A2 y c2) Q U) => rrest5_any A1 A2 x c1 y c2 y2 P Q U U W hp hq (by omega) (by omega) (by rw [show x - y2 = x + 1 - y by omega]; omega) (by omega) hy2)
      rw [show x - y2 = x + 1 - y by omega, ← hR, ← hU1] at HRS
      have HSR := Lib.hid (show (negP R).length = z ∧ R.length = z ∧ Cf (negP R) ∧ chn P Q = P :: chn Q (negP R) from ⟨by rw [negP_length, hz], hz.symm, negP_cf hcR, by rw [hR]; exact chn_step (by have := HX.out.2.1; omega)⟩)
      have HU2 := Lib.hid (show (U1 + 2) * 3 ^ y ≤ 3 * D by rw [hU1]; exact hU2)
      have hU1D : U1 + 2 ≤ D := by omega
      have hUU : U ≤ U1 := by omega
      clear hU2 hU3 hR hz hcR hU1 hy2
      go_wp2_with (first
        | (at_builtin; go_must (refine wpList_pushC Tryz.underlying33 Tryz.info27 rfl (.tmp 13) (.tmp 15) rfl w.heap.size _ (Ls ++ [P]) D A2 y c2 Q HX.out.2.1 rfl HR.out (HQ.out.le (by omega)) HB.out.size HL.out rfl ?_); intro v' w' hP'; have HR := Lib.hid hP'.R; have HP := Lib.hid (HP.out.kp hP'.kp); have HQ := Lib.hid (HQ.out.kp hP'.kp); have HB := Lib.hid (HB.out.trans (hP'.bel.mono (Nat.le_refl _))); clear hP')
        | (go_at_call 36; (with_reducible refine (HRS.out _ HP.out HQ.out).mono ?_); rintro e w3 he; obtain ⟨A3, c3, rfl, hr, hb⟩ := he; rw [HSR.out.2.1] at hr ⊢; have HQ := Lib.hid (HQ.out.bel hb); have HR := Lib.hid (HR.out.bel hb); have HR3 := Lib.hid hr; have HB := Lib.hid (bel_tr HB.out hb); clear hr hb)
        | (go_at_call 35; (with_reducible refine (rneg5_any A3 z c3 R U1 _ HR3.out (by omega)).mono ?_); rintro e w4 he; obtain ⟨A4, c4, rfl, hr, hb⟩ := he; rw [HSR.out.1] at hr ⊢; have HQ := Lib.hid (HQ.out.bel hb); have HR := Lib.hid (HR.out.bel hb); have HR4 := Lib.hid hr; have HB := Lib.hid (bel_tr HB.out hb); clear hr hb))
      exact ⟨⟨Ls ++ [P], Q, negP R, A2, A4, c2, c4, y, z, U1, HR.out, rfl, HX.out.2.1, HQ.out.le (by omega), rfl, HSR.out.1.symm, HR4.out, HX.out.2.2.2.1, HSR.out.2.2.1, hzy, by omega, HU2.out, by rw [← HX.out.2.2.2.2, HSR.out.2.2.2, List.append_assoc]; rfl, HB.out⟩, by simp [lenOf]; omega⟩
end Go.Proofs.YtpobhegllhhdgaaGreat
namespace Go.Proofs.YtpobhegllhhdgaaGreat
open Go.RowKit

/-- What the document's Changes answers. -/
def rchgP (n d : Int) (Ls : List (List Int)) : Nat := chg 0 (gen Ls.length fun i => sgn (hor n d (pg Ls i)))
theorem rchg_eq (n d : Int) {Ls : List (List Int)} (h : ∀ i, i < Ls.length → Cf (pg Ls i)) : rchgP n d Ls = chgP n d Ls := by
  unfold rchgP chgP
  congr 1
  exact gen_congr fun i hi => by unfold sgP; rw [trz_cf (h i hi)]
set_option maxRecDepth 100000 in
set_option maxHeartbeats 2000000 in
theorem rchanges_any (A : Option Addr) (m c : Nat) (Ls : List (List Int)) (l : Nat) (n d : Int) (w : World) (h : Cn .n w (.slice A m c) Ls l) (hm : m ≤ 100) (hs : ∀ i, i < m → (pg Ls i).length ≤ 100) (hl : l ≤ 60000) (hn : Fit n) (hd : Fit d) :
    Calls Tryz.prog 14 #[.slice A m c, .agg #[.int .i64 n, .int .i64 d]] w fun e w' => e = .returned (.int .i64 (rchgP n d Ls : Int)) ∧ Below w.heap.size w w' := by
  have HB := Lib.hid (show Rt (w.alloc (.cells #[.int .i64 n, .int .i64 d] 24)) w.heap.size n d ∧ Below w.heap.size w (w.alloc (.cells #[.int .i64 n, .int .i64 d] 24)) from ⟨Rt.new w n d, bel_a _ _⟩)
  have HL := Lib.hid h.cap.1
  have H := Lib.hid h
  obtain ⟨f, hf⟩ : ∃ f : Nat → Int, f = fun i => sgn (hor n d (pg Ls i)) := ⟨_, rfl⟩
  have HF := Lib.hid (show rchgP n d Ls = chg 0 (gen m f) ∧ ∀ i, -1 ≤ f i ∧ f i ≤ 1 from ⟨by unfold rchgP; rw [HL.out, hf], fun i => by rw [hf]; exact sgn_rng _⟩)
  have HFI := Lib.hid (show ∀ i, sgn (hor n d (pg Ls i)) = f i from fun i => by rw [hf])
  have HS := Lib.hid (fun i (hi : i < m) W B q (hp : Pol .n W (.slice B (pg Ls i).length q) (pg Ls i) l) => rhor_any B (pg Ls i).length q (pg Ls i) l n d W hp (by have := hs i hi; omega) hl hn hd)
  clear h hf hn hd hs
  go_enter Tryz.func14, Tryz.ntmps14
  go_wp2_with fail
  go_loopw [5, 6, 7] (fun k a i wr => ∃ j : Nat, i = .int .i64 (j : Int) ∧ j ≤ m ∧ k = .int .i64 (chg 0 (gen j f) : Int) ∧ a = .int .i64 (lastS 0 (gen j f)) ∧ Below w.heap.size w wr ∧ Rt wr w.heap.size n d) (fun _ _ i _ => m - (intOf i).toNat)
  case atStart => exact ⟨0, rfl, Nat.zero_le _, rfl, rfl, HB.out.2, HB.out.1⟩
  case round =>
    obtain ⟨j, rfl, hj, rfl, rfl, hb, hr⟩ := hrel
    by_cases hjm : j < m
    · obtain ⟨ad, B, q, rfl, had, hc, hp⟩ := H.out.get j (by rw [← HL.out]; exact hjm)
      obtain ⟨s, hsv⟩ : ∃ s, s = f j := ⟨_, rfl⟩
      obtain ⟨a, ha⟩ : ∃ a, a = lastS 0 (gen j f) := ⟨_, rfl⟩
      obtain ⟨k, hk⟩ : ∃ k, k = chg 0 (gen j f) := ⟨_, rfl⟩
      have hsr : -1 ≤ s ∧ s ≤ 1 := hsv ▸ HF.out.2 j
      have har : -1 ≤ a ∧ a ≤ 1 := ha ▸ lastS_rng 0 _ (by omega) (fun i => by rw [co_gen]; split; exact HF.out.2 i; omega)
      have hnl : k ≤ 100 := by have := chg_le 0 (gen j f); rw [gen_len] at this; omega
      have HT := Lib.hid (show chg 0 (gen (j + 1) f) = k + tw (s * a) ∧ lastS 0 (gen (j + 1) f) = if s = 0 then a else s by
        rw [gen_snoc, chg_snoc, lastS_snoc, ← hk, ← ha, ← hsv]; exact ⟨rfl, rfl⟩)
      rw [← hk, ← ha]
      obtain ⟨x, hx⟩ : ∃ x, x = (pg Ls j).length := ⟨_, rfl⟩
      have HS1 := Lib.hid (HS.out j hjm)
      have HFJ := Lib.hid (HFI.out j)
      rw [← hsv] at HFJ
      rw [← hx] at HS1 hc hp
      have HP := Lib.hid (fun W (hW : Below w.heap.size w W) => (show Pol .n W (.slice B x q) (pg Ls j) l ∧ W.cell? (ad.add j) = some (.slice B x q) from ⟨hp.bel hW, by rw [hW.cell (by rw [block_of_add]; exact had)]; exact hc⟩))
      have HB := Lib.hid (And.intro hb hr)
      have HC := Lib.hid (fun W (hW : Below w.heap.size w W ∧ Rt W w.heap.size n d) => (show W.cell? ⟨w.heap.size, 0, none⟩ = some (.int .i64 n) ∧ W.cell? ⟨w.heap.size, 1, none⟩ = some (.int .i64 d) ∧ W.cell? (ad.add j) = some (.slice B x q) from ⟨hW.2.c0, hW.2.c1, (HP.out W hW.1).2⟩))
      obtain ⟨f0, f1, f2⟩ := HC.out _ HB.out
      have hw1 : (j : Int) < m := by omega
      have hw0 : (0 : Int) ≤ j := by omega
      have hjl : j ≤ 100 := by omega
      clear hc hp hb hr hx hk ha hsv
      by_cases hs0 : s = 0
      · have HT := Lib.hid (show chg 0 (gen (j + 1) f) = k ∧ lastS 0 (gen (j + 1) f) = a by
          have h1 := HT.out
          rw [hs0, Int.zero_mul, if_pos rfl] at h1
          exact h1)
        have hz : (s == 0) = true := by simpa using hs0
        clear hs0 hsr har
        go_upto_region 7 with fail
        go_region_held3 (fun w' => w'.cell? ⟨w.heap.size, 0, none⟩ = some (.int .i64 n) ∧ w'.cell? ⟨w.heap.size, 1, none⟩ = some (.int .i64 d) ∧ w'.cell? (ad.add j) = some (.slice B x q))
          (first
            | with_reducible exact HC.out _ HB.out
            | with_reducible exact HC.out _ ⟨HB.out.1.drew, HB.out.2.drew⟩)
          (first
            | (go_at_call 44; (first | (with_reducible refine (HS1.out _ B q (HP.out _ HB.out.1).1).mono ?_) | (have HB := Lib.hid (show Below w.heap.size w _ ∧ Rt _ w.heap.size n d from ⟨HB.out.1.drew, HB.out.2.drew⟩); with_reducible refine (HS1.out _ B q (HP.out _ HB.out.1).1).mono ?_)); rintro e w3 he; obtain ⟨n3, B3, p3, q3, rfl, h3, hb⟩ := he.open_; have H3 := Lib.hid h3; have HB := Lib.hid (show Below w.heap.size w w3 ∧ Rt w3 w.heap.size n d from ⟨bel_tr HB.out.1 hb, HB.out.2.below hb HB.out.2.lt⟩); clear he h3 hb)
            | (go_at_call 43; (with_reducible refine (rsign_any (.agg #[.bool n3, .slice B3 p3 q3]) (hor n d (pg Ls j)) (l + 10 + 6 * x) _ H3.out.num_).mono ?_); rintro e w4 ⟨rfl, hb⟩; rw [HFJ.out]; have HB := Lib.hid (show Below w.heap.size w w4 ∧ Rt w4 w.heap.size n d from ⟨bel_tr HB.out.1 hb, HB.out.2.below hb HB.out.2.lt⟩); clear hb))
        all_goals go_wp2_with fail
        all_goals exact ⟨⟨j + 1, by simp, by omega, by rw [HT.out.1], by rw [HT.out.2], HB.out.1, HB.out.2⟩, by simp [intOf]; omega⟩
      · have hz : (s == 0) = false := by simpa using hs0
        have HT := Lib.hid (show chg 0 (gen (j + 1) f) = k + tw (s * a) ∧ lastS 0 (gen (j + 1) f) = s by
          have h1 := HT.out
          rw [if_neg hs0] at h1
          exact h1)
        have hz0 : s ≠ 0 := hs0
        by_cases ha0 : a = 0
        · have HT := Lib.hid (show chg 0 (gen (j + 1) f) = k ∧ lastS 0 (gen (j + 1) f) = s by
            have h1 := HT.out
            rw [ha0, Int.mul_zero] at h1
            exact h1)
          have hza : (a == 0) = true := by simpa using ha0
          have HPF := Lib.hid ha0
          clear hs0 hsr har ha0 hz0
          go_upto_region 7 with fail
          go_region_held3 (fun w' => w'.cell? ⟨w.heap.size, 0, none⟩ = some (.int .i64 n) ∧ w'.cell? ⟨w.heap.size, 1, none⟩ = some (.int .i64 d) ∧ w'.cell? (ad.add j) = some (.slice B x q))
            (first
              | with_reducible exact HC.out _ HB.out
              | with_reducible exact HC.out _ ⟨HB.out.1.drew, HB.out.2.drew⟩)
            (first
              | (go_at_call 44; (first | (with_reducible refine (HS1.out _ B q (HP.out _ HB.out.1).1).mono ?_) | (have HB := Lib.hid (show Below w.heap.size w _ ∧ Rt _ w.heap.size n d from ⟨HB.out.1.drew, HB.out.2.drew⟩); with_reducible refine (HS1.out _ B q (HP.out _ HB.out.1).1).mono ?_)); rintro e w3 he; obtain ⟨n3, B3, p3, q3, rfl, h3, hb⟩ := he.open_; have H3 := Lib.hid h3; have HB := Lib.hid (show Below w.heap.size w w3 ∧ Rt w3 w.heap.size n d from ⟨bel_tr HB.out.1 hb, HB.out.2.below hb HB.out.2.lt⟩); clear he h3 hb)
              | (go_at_call 43; (with_reducible refine (rsign_any (.agg #[.bool n3, .slice B3 p3 q3]) (hor n d (pg Ls j)) (l + 10 + 6 * x) _ H3.out.num_).mono ?_); rintro e w4 ⟨rfl, hb⟩; rw [HFJ.out]; have HB := Lib.hid (show Below w.heap.size w w4 ∧ Rt w4 w.heap.size n d from ⟨bel_tr HB.out.1 hb, HB.out.2.below hb HB.out.2.lt⟩); clear hb))
          all_goals go_wp2_with fail
          all_goals first | (exfalso; have hpf := HPF.out; clear HP HC HS1 HS H HL HF HFI HFJ HT H3 HB; simp_all; done) | exact ⟨⟨j + 1, by simp, by omega, by rw [HT.out.1], by rw [HT.out.2], HB.out.1, HB.out.2⟩, by simp [intOf]; omega⟩
        · have hza : (a == 0) = false := by simpa using ha0
          by_cases hsa : s = a
          · have HT := Lib.hid (show chg 0 (gen (j + 1) f) = k ∧ lastS 0 (gen (j + 1) f) = s by
              have h1 := HT.out
              have h2 : tw (s * a) = 0 := by
                unfold tw
                rw [if_neg]
                rw [hsa]
                rcases (show a = -1 ∨ a = 1 by omega) with h | h <;> rw [h] <;> decide
              rw [h2] at h1
              exact h1)
            have hse : (s == a) = true := by simpa using hsa
            have HPF := Lib.hid hsa
            clear hs0 hsr har ha0 hz0 hsa
            go_upto_region 7 with fail
            go_region_held3 (fun w' => w'.cell? ⟨w.heap.size, 0, none⟩ = some (.int .i64 n) ∧ w'.cell? ⟨w.heap.size, 1, none⟩ = some (.int .i64 d) ∧ w'.cell? (ad.add j) = some (.slice B x q))
              (first
                | with_reducible exact HC.out _ HB.out
                | with_reducible exact HC.out _ ⟨HB.out.1.drew, HB.out.2.drew⟩)
              (first
                | (go_at_call 44; (first | (with_reducible refine (HS1.out _ B q (HP.out _ HB.out.1).1).mono ?_) | (have HB := Lib.hid (show Below w.heap.size w _ ∧ Rt _ w.heap.size n d from ⟨HB.out.1.drew, HB.out.2.drew⟩); with_reducible refine (HS1.out _ B q (HP.out _ HB.out.1).1).mono ?_)); rintro e w3 he; obtain ⟨n3, B3, p3, q3, rfl, h3, hb⟩ := he.open_; have H3 := Lib.hid h3; have HB := Lib.hid (show Below w.heap.size w w3 ∧ Rt w3 w.heap.size n d from ⟨bel_tr HB.out.1 hb, HB.out.2.below hb HB.out.2.lt⟩); clear he h3 hb)
                | (go_at_call 43; (with_reducible refine (rsign_any (.agg #[.bool n3, .slice B3 p3 q3]) (hor n d (pg Ls j)) (l + 10 + 6 * x) _ H3.out.num_).mono ?_); rintro e w4 ⟨rfl, hb⟩; rw [HFJ.out]; have HB := Lib.hid (show Below w.heap.size w w4 ∧ Rt w4 w.heap.size n d from ⟨bel_tr HB.out.1 hb, HB.out.2.below hb HB.out.2.lt⟩); clear hb))
            all_goals go_wp2_with fail
            all_goals first | (exfalso; have hpf := HPF.out; clear HP HC HS1 HS H HL HF HFI HFJ HT H3 HB; simp_all; done) | exact ⟨⟨j + 1, by simp, by omega, by rw [HT.out.1], by rw [HT.out.2], HB.out.1, HB.out.2⟩, by simp [intOf]; omega⟩
          · have HT := Lib.hid (show chg 0 (gen (j + 1) f) = k + 1 ∧ lastS 0 (gen (j + 1) f) = s by
              have h1 := HT.out
              have h2 : tw (s * a) = 1 := by
                unfold tw
                rw [if_pos]
                rcases (show a = -1 ∧ s = 1 ∨ a = 1 ∧ s = -1 by omega) with ⟨h, h'⟩ | ⟨h, h'⟩ <;> rw [h, h'] <;> decide
              rw [h2] at h1
              exact h1)
            have hse : (s == a) = false := by simpa using hsa
            have HPF := Lib.hid (And.intro ha0 hsa)
            clear hs0 hsr har ha0 hz0 hsa
            go_upto_region 7 with fail
            go_region_held3 (fun w' => w'.cell? ⟨w.heap.size, 0, none⟩ = some (.int .i64 n) ∧ w'.cell? ⟨w.heap.size, 1, none⟩ = some (.int .i64 d) ∧ w'.cell? (ad.add j) = some (.slice B x q))
              (first
                | with_reducible exact HC.out _ HB.out
                | with_reducible exact HC.out _ ⟨HB.out.1.drew, HB.out.2.drew⟩)
              (first
                | (go_at_call 44; (first | (with_reducible refine (HS1.out _ B q (HP.out _ HB.out.1).1).mono ?_) | (have HB := Lib.hid (show Below w.heap.size w _ ∧ Rt _ w.heap.size n d from ⟨HB.out.1.drew, HB.out.2.drew⟩); with_reducible refine (HS1.out _ B q (HP.out _ HB.out.1).1).mono ?_)); rintro e w3 he; obtain ⟨n3, B3, p3, q3, rfl, h3, hb⟩ := he.open_; have H3 := Lib.hid h3; have HB := Lib.hid (show Below w.heap.size w w3 ∧ Rt w3 w.heap.size n d from ⟨bel_tr HB.out.1 hb, HB.out.2.below hb HB.out.2.lt⟩); clear he h3 hb)
                | (go_at_call 43; (with_reducible refine (rsign_any (.agg #[.bool n3, .slice B3 p3 q3]) (hor n d (pg Ls j)) (l + 10 + 6 * x) _ H3.out.num_).mono ?_); rintro e w4 ⟨rfl, hb⟩; rw [HFJ.out]; have HB := Lib.hid (show Below w.heap.size w w4 ∧ Rt w4 w.heap.size n d from ⟨bel_tr HB.out.1 hb, HB.out.2.below hb HB.out.2.lt⟩); clear hb))
            all_goals go_wp2_with fail
            all_goals first | (exfalso; have hpf := HPF.out; clear HP HC HS1 HS H HL HF HFI HFJ HT H3 HB; simp_all; done) | exact ⟨⟨j + 1, by simp, by omega, by rw [HT.out.1]; simp, by rw [HT.out.2], HB.out.1, HB.out.2⟩, by simp [intOf]; omega⟩
    · obtain rfl : j = m := by omega
      have HB := Lib.hid hb
      clear hb hr
      go_wp2_with fail
      go_ret
      exact ⟨by rw [HF.out.1]; rfl, HB.out⟩
end Go.Proofs.YtpobhegllhhdgaaGreat
namespace Go.Proofs.YtpobhegllhhdgaaGreat
open Go.RowKit

/-- What stands in memory in the law: a fraction in its box, and both chains. -/
structure ScH (w W : World) (n d : Int) (vc vw : Value) (Ls : List (List Int)) : Prop where
  bel : Below w.heap.size w W
  x : Rt W w.heap.size n d
  c : Cn .c W vc Ls 19683
  q : Cn .n W vw Ls 32805
section
variable {w W W' : World} {n d : Int} {vc vw : Value} {Ls : List (List Int)}
theorem ScH.next (h : ScH w W n d vc vw Ls) (hb : Below W.heap.size W W') : ScH w W' n d vc vw Ls := ⟨bel_tr h.bel hb, h.x.below hb h.x.lt, h.c.bel hb, h.q.bel hb⟩
theorem ScH.drew (h : ScH w W n d vc vw Ls) : ScH w W.drew n d vc vw Ls := h.next ((Below.refl _ _).drew)
end
theorem pow_le8 {n : Nat} (h : n ≤ 8) : 3 ^ n ≤ 6561 := Nat.le_trans (Nat.pow_le_pow_right (by omega) h) (by decide)
set_option maxRecDepth 100000 in
set_option maxHeartbeats 4000000 in
theorem law_chains (A : Option Addr) (m c : Nat) (L : List Int) (l : Nat) (n d : Int) (w : World) (h : Pol .a w (.slice A m c) L l) (hn : Fit n) (hd : Fit d) :
    Calls Tryz.prog 3 #[.slice A m c, .agg #[.int .i64 n, .int .i64 d]] w fun e w' => e = .returned (.bool true) ∧ Below w.heap.size w w' := by
  have HAW := Lib.hid awake_any
  have HB := Lib.hid (show Rt (w.alloc (.cells #[.int .i64 n, .int .i64 d] 24)) w.heap.size n d ∧ Below w.heap.size w (w.alloc (.cells #[.int .i64 n, .int .i64 d] 24)) from ⟨Rt.new w n d, bel_a _ _⟩)
  by_cases h1 : SmQ w A m
  · have H1 := Lib.hid (fun W hW => small6_yes A m c L l w W h hW h1)
    have HP := Lib.hid (h.small4 h1.2)
    have hm := h1.1
    have hpm : pl L ≤ m := by rw [h.cap.1]; exact pl_le L
    obtain ⟨T, hT⟩ : ∃ T, T = trz L := ⟨_, rfl⟩
    obtain ⟨x, hx⟩ : ∃ x, x = T.length := ⟨_, rfl⟩
    have hxp : x = pl L := by rw [hx, hT, trz_len]
    have HT := Lib.hid (show trz L = T ∧ T.length = x from ⟨hT.symm, hx.symm⟩)
    rcases Nat.eq_zero_or_pos x with hx0 | hx0
    · subst hx0
      have hf : fitP L = 13 := by unfold fitP; rw [if_pos hxp.symm]
      have HC := Lib.hid (fun W h => chain_no A m c L 4 W h (by rw [hf]; decide))
      rw [hf] at HC
      clear h h1 hn hd hT hx hxp hf
      go_enter Tryz.func3, Tryz.ntmps3
      go_wp2_with (first
        | (go_at_call 6; (with_reducible refine (HAW.out _).mono ?_); rintro e w1 ⟨rfl, hb⟩; have HB := Lib.hid (bel_tr HB.out.2 hb); clear hb)
        | (go_at_call 7; (with_reducible refine (H1.out _ HB.out).mono ?_); rintro e w2 ⟨rfl, hb⟩; have HB := Lib.hid (bel_tr HB.out hb); clear hb)
        | (go_at_call 8; (with_reducible refine (from5_any A m c L 4 _ (HP.out.bel HB.out) (by omega) (by omega)).mono ?_); rintro e w4 he; rw [HT.out.1] at he; obtain ⟨Ax, cx, rfl, hp, hb⟩ := he; rw [HT.out.2] at hp ⊢; have HB := Lib.hid (bel_tr HB.out hb); clear hp hb)
        | (go_at_call 9; (with_reducible refine (HC.out _ (HP.out.bel HB.out)).mono ?_); rintro e w3 ⟨rfl, hb⟩; have HB := Lib.hid (bel_tr HB.out hb); clear hb))
      go_ret
      exact ⟨rfl, HB.out⟩
    · have hp8 := pow_le8 (n := pl L) (by omega)
      have HC := Lib.hid (fun W h => chain_yes A m c L 4 19683 W h (by omega) (by omega) (by omega) (by omega) (by omega))
      have HRC := Lib.hid (fun W Ax cx (h : Pol .n W (.slice Ax x cx) T 8) => rchain_any Ax x cx T 8 32805 W h (hT ▸ cf_trz L) hx0 (by omega) (by rw [hxp]; omega) (by omega))
      rw [← hT] at HC
      rw [hT, derP_trz, ← hT] at HRC
      obtain ⟨Ls, hLs⟩ : ∃ Ls, Ls = chn T (derP L) := ⟨_, rfl⟩
      have hall := chL_all L (by omega)
      have hlen := chL_len L
      have hch : chL L = Ls := by rw [hLs, hT]; rfl
      rw [hch] at hall hlen
      rw [← hLs] at HC HRC
      obtain ⟨y, hy⟩ : ∃ y, y = Ls.length := ⟨_, rfl⟩
      rw [← hy] at hall hlen
      have HY := Lib.hid hy.symm
      have hy1 : y ≤ 9 := by omega
      have hxi : ((x : Int) == 0) = false := by simp; omega
      have HS := Lib.hid (fun i (hi : i < y) W B q B' q' (hp : Pol .c W (.slice B (pg Ls i).length q) (pg Ls i) 19683) (hp' : Pol .n W (.slice B' (pg Ls i).length q') (pg Ls i) 32805) => same5_any B B' (pg Ls i).length q q' (pg Ls i) 19683 32805 W hp hp' (by have := hall i hi; omega) (by omega) (by omega))
      have HM := Lib.hid (fun W => may5_any n d W hn hd)
      by_cases hmb : Maybe n d
      · rw [decide_eq_true hmb] at HM
        have h100 : ∀ i, i < y → (pg Ls i).length ≤ 100 := fun i hi => by have := hall i hi; omega
        obtain ⟨g, hg⟩ : ∃ g, g = chgP n d Ls := ⟨_, rfl⟩
        have HCH := Lib.hid (fun W Ac cc (hc : Cn .c W (.slice Ac y cc) Ls 19683) => Changes_yes Ac y cc Ls 19683 n d W hc (by omega) h100 (by omega) hn hd hmb)
        have HRH := Lib.hid (fun W Aw cw (hc : Cn .n W (.slice Aw y cw) Ls 32805) => rchanges_any Aw y cw Ls 32805 n d W hc (by omega) h100 (by omega) hn hd)
        rw [rchg_eq n d (fun i hi => (hall i (by rw [hy]; exact hi)).1), ← hg] at HRH
        rw [← hg] at HCH
        have hgg : ((g : Int) == (g : Int)) = true := by simp
        clear h h1 hn hd hT hx hxp hLs hall hlen hch hy hp8 hpm hmb h100 hg
        go_enter Tryz.func3, Tryz.ntmps3
        go_wp2_with (first
          | (go_at_call 6; (with_reducible refine (HAW.out _).mono ?_); rintro e w1 ⟨rfl, hb⟩; have HB := Lib.hid (And.intro (HB.out.1.below hb HB.out.1.lt) (bel_tr HB.out.2 hb)); clear hb)
          | (go_at_call 7; (with_reducible refine (H1.out _ HB.out.2).mono ?_); rintro e w2 ⟨rfl, hb⟩; have HB := Lib.hid (And.intro (HB.out.1.below hb HB.out.1.lt) (bel_tr HB.out.2 hb)); clear hb)
          | (go_at_call 8; (with_reducible refine (from5_any A m c L 4 _ (HP.out.bel HB.out.2) (by omega) (by omega)).mono ?_); rintro e w4 he; rw [HT.out.1] at he; obtain ⟨Ax, cx, rfl, hp, hb⟩ := he; rw [HT.out.2] at hp ⊢; have HX := Lib.hid hp; have HB := Lib.hid (And.intro (HB.out.1.below hb HB.out.1.lt) (bel_tr HB.out.2 hb)); clear hp hb)
          | (go_at_call 9; (with_reducible refine (HC.out _ (HP.out.bel HB.out.2)).mono ?_); rintro e w3 ⟨Ac, cc, rfl, hch, hb⟩; rw [HY.out] at hch ⊢; have HCn := Lib.hid hch; have HX := Lib.hid (HX.out.bel hb); have HB := Lib.hid (And.intro (HB.out.1.below hb HB.out.1.lt) (bel_tr HB.out.2 hb)); clear hch hb)
          | (go_at_call 10; (with_reducible refine (HRC.out _ Ax cx HX.out).mono ?_); rintro e w5 ⟨Aw, cw, rfl, hch, hb⟩; rw [HY.out] at hch ⊢; have HQ := Lib.hid (show ScH w w5 n d (.slice Ac y cc) (.slice Aw y cw) Ls from ⟨bel_tr HB.out.2 hb, HB.out.1.below hb HB.out.1.lt, HCn.out.bel hb, hch⟩); clear hch hb))
        go_loopw [47] (fun i wr => ∃ j : Nat, i = .int .i64 (j : Int) ∧ j ≤ y ∧ ScH w wr n d (.slice Ac y cc) (.slice Aw y cw) Ls) (fun i _ => y - (intOf i).toNat)
        case atStart => exact ⟨0, rfl, Nat.zero_le _, HQ.out⟩
        case round =>
          obtain ⟨j, rfl, hj, hQ⟩ := hrel
          by_cases hjy : j < y
          · obtain ⟨ad, B, q, rfl, had, hc, hp⟩ := hQ.c.get j (by rw [HY.out]; exact hjy)
            obtain ⟨bd, B', q', rfl, hbd, hc', hp'⟩ := hQ.q.get j (by rw [HY.out]; exact hjy)
            have HS1 := Lib.hid (HS.out j hjy)
            obtain ⟨z, hz⟩ : ∃ z, z = (pg Ls j).length := ⟨_, rfl⟩
            rw [← hz] at HS1 hc hc' hp hp'
            have HPP := Lib.hid (And.intro hp hp')
            have HQ := Lib.hid hQ
            have hw1 : (j : Int) < (y : Int) := by omega
            have hw0 : (0 : Int) ≤ (j : Int) := by omega
            have HCC := Lib.hid (fun W (hb : Below wr.heap.size wr W) => (show W.cell? (ad.add j) = some (.slice B z q) ∧ W.cell? (bd.add j) = some (.slice B' z q') from ⟨(hb.cell (by rw [block_of_add]; exact had)).trans hc, (hb.cell (by rw [block_of_add]; exact hbd)).trans hc'⟩))
            clear hQ hp hp' hz had hbd
            go_wp2_with fail
            go_region_held3 (fun w' => w'.cell? (ad.add j) = some (.slice B z q) ∧ w'.cell? (bd.add j) = some (.slice B' z q'))
              (first | exact ⟨hc, hc'⟩ | exact HCC.out _ HBB.out)
              (first
                | (go_at_call 11; (first | (with_reducible refine (HS1.out _ B q B' q' HPP.out.1 HPP.out.2).mono ?_) | (have HPP := Lib.hid (And.intro HPP.out.1.drew HPP.out.2.drew); have HQ := Lib.hid HQ.out.drew; with_reducible refine (HS1.out _ B q B' q' HPP.out.1 HPP.out.2).mono ?_)); rintro e w6 ⟨rfl, hb⟩; have HQ := Lib.hid (HQ.out.next hb); have HBB := Lib.hid (show Below wr.heap.size wr w6 from (by first | exact hb | exact bel_tr ((Below.refl _ wr).drew) hb)); clear hb))
            all_goals
              go_wp2_with fail
              exact ⟨⟨j + 1, by simp, by omega, HQ.out⟩, by simp [intOf]; omega⟩
          · obtain rfl : j = y := by omega
            have HQ := Lib.hid hQ
            obtain ⟨f0, f1⟩ := rt_facts hQ.x
            clear hQ
            go_wp2_with (first
              | (go_at_call 12; (with_reducible refine (HCH.out _ Ac cc HQ.out.c).mono ?_); rintro e w7 ⟨rfl, hb⟩; have HQ := Lib.hid (HQ.out.next hb); clear hb f0 f1; obtain ⟨f0, f1⟩ := rt_facts HQ.out.x)
              | (go_at_call 13; (with_reducible refine (HM.out _).mono ?_); rintro e w8 ⟨rfl, hb⟩; have HQ := Lib.hid (HQ.out.next hb); clear hb f0 f1; obtain ⟨f0, f1⟩ := rt_facts HQ.out.x)
              | (go_at_call 14; (with_reducible refine (HRH.out _ Aw cw HQ.out.q).mono ?_); rintro e w9 ⟨rfl, hb⟩; have HQ := Lib.hid (HQ.out.next hb); clear hb f0 f1))
            go_ret
            exact ⟨rfl, HQ.out.bel⟩
      · rw [decide_eq_false hmb] at HM
        have HCH := Lib.hid (fun W Ac cc (_ : Cn .c W (.slice Ac y cc) Ls 19683) => Changes_no (.slice Ac y cc) n d W hn hd hmb)
        have HRH := Lib.hid True.intro
        clear h h1 hn hd hT hx hxp hLs hall hlen hch hy hp8 hpm hmb
        go_enter Tryz.func3, Tryz.ntmps3
        go_wp2_with (first
          | (go_at_call 6; (with_reducible refine (HAW.out _).mono ?_); rintro e w1 ⟨rfl, hb⟩; have HB := Lib.hid (And.intro (HB.out.1.below hb HB.out.1.lt) (bel_tr HB.out.2 hb)); clear hb)
          | (go_at_call 7; (with_reducible refine (H1.out _ HB.out.2).mono ?_); rintro e w2 ⟨rfl, hb⟩; have HB := Lib.hid (And.intro (HB.out.1.below hb HB.out.1.lt) (bel_tr HB.out.2 hb)); clear hb)
          | (go_at_call 8; (with_reducible refine (from5_any A m c L 4 _ (HP.out.bel HB.out.2) (by omega) (by omega)).mono ?_); rintro e w4 he; rw [HT.out.1] at he; obtain ⟨Ax, cx, rfl, hp, hb⟩ := he; rw [HT.out.2] at hp ⊢; have HX := Lib.hid hp; have HB := Lib.hid (And.intro (HB.out.1.below hb HB.out.1.lt) (bel_tr HB.out.2 hb)); clear hp hb)
          | (go_at_call 9; (with_reducible refine (HC.out _ (HP.out.bel HB.out.2)).mono ?_); rintro e w3 ⟨Ac, cc, rfl, hch, hb⟩; rw [HY.out] at hch ⊢; have HCn := Lib.hid hch; have HX := Lib.hid (HX.out.bel hb); have HB := Lib.hid (And.intro (HB.out.1.below hb HB.out.1.lt) (bel_tr HB.out.2 hb)); clear hch hb)
          | (go_at_call 10; (with_reducible refine (HRC.out _ Ax cx HX.out).mono ?_); rintro e w5 ⟨Aw, cw, rfl, hch, hb⟩; rw [HY.out] at hch ⊢; have HQ := Lib.hid (show ScH w w5 n d (.slice Ac y cc) (.slice Aw y cw) Ls from ⟨bel_tr HB.out.2 hb, HB.out.1.below hb HB.out.1.lt, HCn.out.bel hb, hch⟩); clear hch hb))
        go_loopw [47] (fun i wr => ∃ j : Nat, i = .int .i64 (j : Int) ∧ j ≤ y ∧ ScH w wr n d (.slice Ac y cc) (.slice Aw y cw) Ls) (fun i _ => y - (intOf i).toNat)
        case atStart => exact ⟨0, rfl, Nat.zero_le _, HQ.out⟩
        case round =>
          obtain ⟨j, rfl, hj, hQ⟩ := hrel
          by_cases hjy : j < y
          · obtain ⟨ad, B, q, rfl, had, hc, hp⟩ := hQ.c.get j (by rw [HY.out]; exact hjy)
            obtain ⟨bd, B', q', rfl, hbd, hc', hp'⟩ := hQ.q.get j (by rw [HY.out]; exact hjy)
            have HS1 := Lib.hid (HS.out j hjy)
            obtain ⟨z, hz⟩ : ∃ z, z = (pg Ls j).length := ⟨_, rfl⟩
            rw [← hz] at HS1 hc hc' hp hp'
            have HPP := Lib.hid (And.intro hp hp')
            have HQ := Lib.hid hQ
            have hw1 : (j : Int) < (y : Int) := by omega
            have hw0 : (0 : Int) ≤ (j : Int) := by omega
            have HCC := Lib.hid (fun W (hb : Below wr.heap.size wr W) => (show W.cell? (ad.add j) = some (.slice B z q) ∧ W.cell? (bd.add j) = some (.slice B' z q') from ⟨(hb.cell (by rw [block_of_add]; exact had)).trans hc, (hb.cell (by rw [block_of_add]; exact hbd)).trans hc'⟩))
            clear hQ hp hp' hz had hbd
            go_wp2_with fail
            go_region_held3 (fun w' => w'.cell? (ad.add j) = some (.slice B z q) ∧ w'.cell? (bd.add j) = some (.slice B' z q'))
              (first | exact ⟨hc, hc'⟩ | exact HCC.out _ HBB.out)
              (first
                | (go_at_call 11; (first | (with_reducible refine (HS1.out _ B q B' q' HPP.out.1 HPP.out.2).mono ?_) | (have HPP := Lib.hid (And.intro HPP.out.1.drew HPP.out.2.drew); have HQ := Lib.hid HQ.out.drew; with_reducible refine (HS1.out _ B q B' q' HPP.out.1 HPP.out.2).mono ?_)); rintro e w6 ⟨rfl, hb⟩; have HQ := Lib.hid (HQ.out.next hb); have HBB := Lib.hid (show Below wr.heap.size wr w6 from (by first | exact hb | exact bel_tr ((Below.refl _ wr).drew) hb)); clear hb))
            all_goals
              go_wp2_with fail
              exact ⟨⟨j + 1, by simp, by omega, HQ.out⟩, by simp [intOf]; omega⟩
          · obtain rfl : j = y := by omega
            have HQ := Lib.hid hQ
            obtain ⟨f0, f1⟩ := rt_facts hQ.x
            clear hQ
            go_wp2_with (first
              | (go_at_call 12; (with_reducible refine (HCH.out _ Ac cc HQ.out.c).mono ?_); rintro e w7 ⟨rfl, hb⟩; have HQ := Lib.hid (HQ.out.next hb); clear hb f0 f1; obtain ⟨f0, f1⟩ := rt_facts HQ.out.x)
              | (go_at_call 13; (with_reducible refine (HM.out _).mono ?_); rintro e w8 ⟨rfl, hb⟩; have HQ := Lib.hid (HQ.out.next hb); clear hb f0 f1; obtain ⟨f0, f1⟩ := rt_facts HQ.out.x))
            go_ret
            exact ⟨rfl, HQ.out.bel⟩
  · have H1 := Lib.hid (fun W hW => small6_no A m c L l w W h hW h1)
    clear h h1 hn hd
    go_enter Tryz.func3, Tryz.ntmps3
    go_wp2_with (first
      | (go_at_call 6; (with_reducible refine (HAW.out _).mono ?_); rintro e w1 ⟨rfl, hb⟩; have HB := Lib.hid (bel_tr HB.out.2 hb); clear hb)
      | (go_at_call 7; (with_reducible refine (H1.out _ HB.out).mono ?_); rintro e w2 ⟨rfl, hb⟩; have HB := Lib.hid (bel_tr HB.out hb); clear hb))
    go_ret
    exact ⟨rfl, HB.out⟩
end Go.Proofs.YtpobhegllhhdgaaGreat
