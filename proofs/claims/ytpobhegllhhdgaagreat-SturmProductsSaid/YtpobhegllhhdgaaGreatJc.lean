/- Proved here: what package sturm's fits and Chain answer and leave in memory. Condition: a polynomial of at most 100 numbers that lies in memory; Chain: of at most 13, of few enough digits. -/
import Derived.Test.YtpobhegllhhdgaaGreatJb
import Derived.Test.YtpobhegllhhdgaaGreatQk
namespace Go.Proofs.YtpobhegllhhdgaaGreat
open Go.RowKit

/-- What fits answers. -/
def fitP (p : List Int) : Int := if pl p = 0 then 13 else if 13 < pl p then 6 else 0
set_option maxRecDepth 100000 in
theorem fits_any (A : Option Addr) (m c : Nat) (L : List Int) (l : Nat) (w : World) (h : Pol .a w (.slice A m c) L l) :
    Calls Tryz.prog 29 #[.slice A m c] w fun e w' => e = .returned (.int .i64 (fitP L)) ∧ Below w.heap.size w w' := by
  have H := Lib.hid h
  obtain ⟨k, hk⟩ : ∃ k, k = pl L := ⟨_, rfl⟩
  have HF := Lib.hid (show fitP L = if k = 0 then 13 else if 13 < k then 6 else 0 by rw [hk]; rfl)
  have HK := Lib.hid hk
  clear h hk
  rcases Nat.eq_zero_or_pos k with h0 | h0
  · have HF := Lib.hid (show fitP L = 13 by rw [HF.out, if_pos h0])
    have hd : ((k : Int) - 1 < 0) := by omega
    clear h0
    go_enter Tryz.func29, Tryz.ntmps29
    go_wp2_with (go_at_call 63; (with_reducible refine (degree_any A m c L l _ H.out).mono ?_); rintro e w1 ⟨rfl, hb⟩; have HB := Lib.hid hb; rw [← HK.out]; clear hb)
    go_ret
    exact ⟨by rw [HF.out]; rfl, HB.out⟩
  · have hd : ¬ ((k : Int) - 1 < 0) := by omega
    by_cases h1 : 13 < k
    · have HF := Lib.hid (show fitP L = 6 by rw [HF.out, if_neg (by omega), if_pos h1])
      have hd2 : (12 < (k : Int) - 1) := by omega
      clear h0 h1
      go_enter Tryz.func29, Tryz.ntmps29
      go_wp2_with (go_at_call 63; (with_reducible refine (degree_any A m c L l _ H.out).mono ?_); rintro e w1 ⟨rfl, hb⟩; have HB := Lib.hid hb; rw [← HK.out]; clear hb)
      go_ret
      exact ⟨by rw [HF.out]; rfl, HB.out⟩
    · have HF := Lib.hid (show fitP L = 0 by rw [HF.out, if_neg (by omega), if_neg h1])
      have hd2 : ¬ (12 < (k : Int) - 1) := by omega
      clear h0 h1
      go_enter Tryz.func29, Tryz.ntmps29
      go_wp2_with (go_at_call 63; (with_reducible refine (degree_any A m c L l _ H.out).mono ?_); rintro e w1 ⟨rfl, hb⟩; have HB := Lib.hid hb; rw [← HK.out]; clear hb)
      go_ret
      exact ⟨by rw [HF.out]; rfl, HB.out⟩
/-- A list of polynomials and no error are answered. -/
def CnE (K : Kd) (Ls : List (List Int)) (l : Nat) (w : World) (e : Ending) (w' : World) : Prop :=
  ∃ A c, e = .returned (.tuple #[.slice A Ls.length c, .int .i64 0]) ∧ Cn K w' (.slice A Ls.length c) Ls l ∧ Below w.heap.size w w'
/-- The last one, with as few digits as its degree lets it have. -/
def Lst (K : Kd) (w : World) (A : Option Addr) (Ls : List (List Int)) (D : Nat) : Prop :=
  ∃ ad B q U, A = some ad ∧ ad.block < w.heap.size ∧ w.cell? (ad.add (Ls.length - 1)) = some (.slice B (pg Ls (Ls.length - 1)).length q) ∧ Pol K w (.slice B (pg Ls (Ls.length - 1)).length q) (pg Ls (Ls.length - 1)) U ∧ (U + 3) * 3 ^ (pg Ls (Ls.length - 1)).length ≤ 3 * D
theorem Lst.bel {K : Kd} {w w' : World} {A : Option Addr} {Ls : List (List Int)} {D : Nat} (h : Lst K w A Ls D) (hb : Below w.heap.size w w') : Lst K w' A Ls D := by
  obtain ⟨ad, B, q, U, h1, h2, h3, h4, h5⟩ := h
  exact ⟨ad, B, q, U, h1, Nat.lt_of_lt_of_le h2 hb.size, by rw [hb.cell (by rw [block_of_add]; exact h2)]; exact h3, h4.bel hb, h5⟩
def CnF (K : Kd) (Ls : List (List Int)) (l : Nat) (w : World) (e : Ending) (w' : World) : Prop :=
  ∃ A c, e = .returned (.tuple #[.slice A Ls.length c, .int .i64 0]) ∧ Cn K w' (.slice A Ls.length c) Ls l ∧ Below w.heap.size w w' ∧ Lst K w' A Ls l
set_option maxRecDepth 100000 in
theorem chain_no (A : Option Addr) (m c : Nat) (L : List Int) (l : Nat) (w : World) (h : Pol .a w (.slice A m c) L l) (h0 : fitP L ≠ 0) :
    Calls Tryz.prog 9 #[.slice A m c] w fun e w' => e = .returned (.tuple #[.slice none 0 0, .int .i64 (fitP L)]) ∧ Below w.heap.size w w' := by
  have H := Lib.hid h
  obtain ⟨f, hf⟩ : ∃ f, f = fitP L := ⟨_, rfl⟩
  have HF := Lib.hid hf
  have hf0 : (f == 0) = false := by rw [hf]; simpa using h0
  clear h h0 hf
  rw [← HF.out]
  go_enter Tryz.func9, Tryz.ntmps9
  go_wp2_with (go_at_call 29; (with_reducible refine (fits_any A m c L l _ H.out).mono ?_); rintro e w1 ⟨rfl, hb⟩; have HB := Lib.hid hb; rw [← HF.out]; clear hb)
  go_ret2
  exact ⟨rfl, HB.out⟩
theorem pow3' : ∀ d, d + 3 ≤ 3 ^ (d + 1)
  | 0 => by decide
  | d + 1 => by have := pow3' d; rw [Nat.pow_succ]; omega
/-- Digits along a chain: behind a step from degrees x and y at most 3 to the power of x - y times as many. -/
theorem dig_step {U x y D : Nat} (hy : y < x) (h : (U + 3) * 3 ^ x ≤ 3 * D) : (U + 2 + (U + 1) * (x + 1 - y) + 3) * 3 ^ y ≤ 3 * D := by
  obtain ⟨d, rfl⟩ : ∃ d, x = y + (d + 1) := ⟨x - y - 1, by omega⟩
  rw [show y + (d + 1) + 1 - y = d + 2 by omega]
  refine Nat.le_trans ?_ h
  rw [Nat.pow_add, Nat.mul_comm (3 ^ y), ← Nat.mul_assoc]
  refine Nat.mul_le_mul_right _ ?_
  have h1 := pow3' d
  have h2 := Nat.mul_le_mul_left (U + 3) h1
  have e1 : (U + 3) * (d + 3) = (U + 1) * (d + 2) + (U + 1) + 2 * (d + 3) := by
    rw [show U + 3 = U + 1 + 2 by omega, Nat.add_mul, show (U + 1) * (d + 3) = (U + 1) * (d + 2) + (U + 1) from Nat.mul_succ _ _]
  omega
theorem dig_le {U x D : Nat} (hx : 0 < x) (h : (U + 3) * 3 ^ x ≤ 3 * D) : U + 3 ≤ D := by
  obtain ⟨k, rfl⟩ : ∃ k, x = k + 1 := ⟨x - 1, by omega⟩
  rw [Nat.pow_succ, ← Nat.mul_assoc] at h
  have h1 : U + 3 ≤ (U + 3) * 3 ^ k := Nat.le_mul_of_pos_right _ (Nat.pow_pos (by omega))
  omega
set_option maxRecDepth 100000 in
set_option maxHeartbeats 2000000 in
theorem chain_last (A : Option Addr) (m c : Nat) (L : List Int) (l D : Nat) (w : World) (h : Pol .a w (.slice A m c) L l) (h0 : 0 < pl L) (h13 : pl L ≤ 13) (hm : m ≤ 100) (hD : (l + 5) * 3 ^ pl L ≤ 3 * D) (hD2 : D ≤ 40000) :
    Calls Tryz.prog 9 #[.slice A m c] w (CnF .c (chn (trz L) (derP L)) D w) := by
  have hf : fitP L = 0 := by unfold fitP; rw [if_neg (by omega), if_neg (by omega)]
  have hlD : l + 5 ≤ D := by have := dig_le (U := l + 2) h0 hD; omega
  have H := Lib.hid h
  obtain ⟨T, hT⟩ : ∃ T, T = trz L := ⟨_, rfl⟩
  obtain ⟨Q0, hQ0⟩ : ∃ Q0, Q0 = derP L := ⟨_, rfl⟩
  obtain ⟨n, hn⟩ : ∃ n, n = T.length := ⟨_, rfl⟩
  obtain ⟨n0, hn0⟩ : ∃ n0, n0 = Q0.length := ⟨_, rfl⟩
  have hnp : n = pl L := by rw [hn, hT, trz_len]
  have hq0 : n0 + 1 = n := by rw [hn0, hQ0]; unfold derP; rw [gen_len]; omega
  have HT := Lib.hid (show addP L [] = T ∧ derP L = Q0 ∧ T.length = n ∧ Q0.length = n0 ∧ Cf T ∧ Cf Q0 from ⟨by rw [add_nil, hT], hQ0.symm, hn.symm, hn0.symm, hT ▸ cf_trz _, hQ0 ▸ derP_cf _⟩)
  rw [← hnp] at hD
  have HD := Lib.hid hD
  rw [← hT, ← hQ0]
  have HC := Lib.hid (show (chn T Q0).length ≤ 14 by have := chn_len 13 T Q0 (by omega); omega)
  have hn13 : n ≤ 13 := by omega
  clear h hT hQ0 hn hn0 hnp hD h0 h13
  go_enter Tryz.func9, Tryz.ntmps9
  go_wp2_with (first
    | (go_at_call 29; (with_reducible refine (fits_any A m c L l _ H.out).mono ?_); rintro e w1 ⟨rfl, hb⟩; have HB := Lib.hid hb; rw [hf]; clear hb)
    | (go_at_call 30; (with_reducible refine (padd_any A none m c 0 0 L [] l 0 _ (H.out.bel HB.out) (Pol.nil .a _ 0) (by omega) (by omega) (by omega) (by omega)).mono ?_); rintro e w2 he; rw [HT.out.1] at he; obtain ⟨A1, c1, rfl, hP, hb⟩ := he; rw [HT.out.2.2.1] at hP ⊢; have HP := Lib.hid hP; have HB := Lib.hid (bel_tr HB.out hb); clear hP hb)
    | (go_at_call 31; (with_reducible refine (pder_any A m c L l _ (H.out.bel HB.out) (by omega) (by omega)).mono ?_); rintro e w3 he; rw [HT.out.2.1] at he; obtain ⟨A2, c2, rfl, hQ, hb⟩ := he; rw [HT.out.2.2.2.1] at hQ ⊢; have HQ := Lib.hid hQ; have HP := Lib.hid (HP.out.bel hb); have HB := Lib.hid (bel_tr HB.out hb); clear hQ hb))
  go_loopw [5, 6, 7] (fun ch a b wr => ∃ (Ls : List (List Int)) (P Q : List Int) (A1 A2 : Option Addr) (c1 c2 x y U : Nat), Rc .c 22 wr w.heap.size ch Ls D ∧ a = .slice A1 x c1 ∧ x = P.length ∧ Pol .c wr (.slice A1 x c1) P U ∧ b = .slice A2 y c2 ∧ y = Q.length ∧ Pol .c wr (.slice A2 y c2) Q U ∧ Cf P ∧ Cf Q ∧ y < x ∧ x ≤ 13 ∧ (U + 3) * 3 ^ x ≤ 3 * D ∧ Ls ++ chn P Q = chn T Q0 ∧ Below w.heap.size w wr) (fun _ _ b _ => lenOf b)
  case atStart => exact ⟨[], T, Q0, A1, A2, c1, c2, n, n0, l + 2, Rc.nil _ _ _, rfl, HT.out.2.2.1.symm, HP.out.le (by omega), rfl, HT.out.2.2.2.1.symm, HQ.out, HT.out.2.2.2.2.1, HT.out.2.2.2.2.2, by omega, by omega, HD.out, rfl, HB.out⟩
  case round =>
    obtain ⟨Ls, P, Q, A1, A2, c1, c2, x, y, U, hR, rfl, hx, hP, rfl, hy, hQ, hcP, hcQ, hyx, hx13, hU, hE, hb⟩ := hrel
    have hUD := dig_le (by omega) hU
    have HL := Lib.hid (show Ls.length ≤ 1000000 by have h1 := congrArg List.length hE; have := HC.out; simp at h1; omega)
    have HX := Lib.hid (And.intro hx (And.intro hy (And.intro hcP (And.intro hcQ hE))))
    have HR := Lib.hid hR
    have HP := Lib.hid hP
    have HQ := Lib.hid hQ
    have HB := Lib.hid hb
    have HU := Lib.hid hU
    clear hx hy hcP hcQ hE hR hP hQ hb hU
    rcases Nat.eq_zero_or_pos y with hy0 | hy0
    · subst hy0
      go_wp2_with (at_builtin; go_must (refine wpList_pushC Tryz.underlying29 Tryz.info22 rfl (.tmp 35) (.tmp 37) rfl w.heap.size _ Ls D A1 x c1 P HX.out.1 rfl HR.out (HP.out.le (by omega)) HB.out.size HL.out rfl ?_); intro v' w' hP')
      go_ret2
      have hE := HX.out.2.2.2.2
      rw [chn_stop HX.out.2.1.symm] at hE
      obtain ⟨a', c', hv, hbl, hcl⟩ := hP'.last
      have hcn := hP'.R.cn
      have hl1 : (Ls ++ [P]).length = Ls.length + 1 := by simp
      have hl2 : pg (Ls ++ [P]) Ls.length = P := by rw [pg_snoc, if_neg (by omega), if_pos rfl]
      rw [← hE]
      refine ⟨some a', c', by rw [hl1]; exact congrArg (fun z => Ending.returned (.tuple #[z, .int .i64 0])) hv, ?_, HB.out.trans (hP'.bel.mono (Nat.le_refl _)), a', A1, c1, U, rfl, hbl, ?_, ?_, ?_⟩
      · rw [hl1, ← hv]; exact hcn
      · rw [hl1, Nat.add_sub_cancel, hl2]; exact hcl
      · rw [hl1, Nat.add_sub_cancel, hl2, ← HX.out.1]; exact HP.out.kp hP'.kp
      · rw [hl1, Nat.add_sub_cancel, hl2, ← HX.out.1]; exact HU.out
    · have hpP : pl P = x := by rw [pl_cf HX.out.2.2.1, HX.out.1]
      have hpQ : pl Q = y := by rw [pl_cf HX.out.2.2.2.1, HX.out.2.1]
      have hU2 := dig_step hyx HU.out
      have hU3 := dig_le hy0 hU2
      obtain ⟨R, hR⟩ : ∃ R, R = restP P Q := ⟨_, rfl⟩
      obtain ⟨z, hz⟩ : ∃ z, z = R.length := ⟨_, rfl⟩
      have hcR : Cf R := hR ▸ restP_cf HX.out.2.2.1
      have hzy : z < y := by rw [hz, hR, HX.out.2.1]; exact restP_short (by have := HX.out.2.1; omega)
      obtain ⟨U1, hU1⟩ : ∃ U1, U1 = U + 1 + (U + 1) * (x + 1 - y) := ⟨_, rfl⟩
      have HRS := Lib.hid (fun W (hp : Pol .c W (.slice A1 x c1) P U) (hq : Pol .c W (.slice A2 y c2) Q U) => prest_yes A1 A2 x c1 y c2 P Q U U W hp.any hq.any (by omega) (by omega) (by rw [hpP, hpQ]; omega) (by omega) (by omega))
      rw [trz_cf HX.out.2.2.1, trz_cf HX.out.2.2.2.1, hpP, hpQ, ← hR, ← hU1] at HRS
      have HSR := Lib.hid (show subP [] R = negP R ∧ (negP R).length = z ∧ R.length = z ∧ Cf (negP R) ∧ chn P Q = P :: chn Q (negP R) from ⟨sub_nil R hcR, by rw [negP_length, hz], hz.symm, negP_cf hcR, by rw [hR]; exact chn_step (by have := HX.out.2.1; omega)⟩)
      have HU2 := Lib.hid (show (U1 + 1 + 3) * 3 ^ y ≤ 3 * D by rw [hU1, show U + 1 + (U + 1) * (x + 1 - y) + 1 = U + 2 + (U + 1) * (x + 1 - y) by omega]; exact hU2)
      have hU1D : U1 + 4 ≤ D := by omega
      have hUU : U ≤ U1 := by omega
      clear hpP hpQ hU2 hU3 hR hz hcR hU1
      go_wp2_with (first
        | (at_builtin; go_must (refine wpList_pushC Tryz.underlying29 Tryz.info22 rfl (.tmp 22) (.tmp 24) rfl w.heap.size _ Ls D A1 x c1 P HX.out.1 rfl HR.out (HP.out.le (by omega)) HB.out.size HL.out rfl ?_); intro v' w' hP'; have HR := Lib.hid hP'.R; have HP := Lib.hid (HP.out.kp hP'.kp); have HQ := Lib.hid (HQ.out.kp hP'.kp); have HB := Lib.hid (HB.out.trans (hP'.bel.mono (Nat.le_refl _))); clear hP')
        | (go_at_call 32; (with_reducible refine (HRS.out _ HP.out HQ.out).mono ?_); rintro e w3 he; obtain ⟨A3, c3, rfl, hr, hb⟩ := he; rw [HSR.out.2.2.1] at hr ⊢; have HQ := Lib.hid (HQ.out.bel hb); have HR := Lib.hid (HR.out.bel hb); have HR3 := Lib.hid hr; have HB := Lib.hid (bel_tr HB.out hb); clear hr hb)
        | (go_at_call 33; (with_reducible refine (psub_any none A3 0 0 z c3 [] R 0 U1 _ (Pol.nil .a _ 0) HR3.out.any (by omega) (by omega) (by omega) (by omega)).mono ?_); rintro e w4 he; rw [HSR.out.1] at he; obtain ⟨A4, c4, rfl, hr, hb⟩ := he; rw [HSR.out.2.1] at hr ⊢; have HQ := Lib.hid (HQ.out.bel hb); have HR := Lib.hid (HR.out.bel hb); have HR4 := Lib.hid hr; have HB := Lib.hid (bel_tr HB.out hb); clear hr hb))
      exact ⟨⟨Ls ++ [P], Q, negP R, A2, A4, c2, c4, y, z, U1 + 1, HR.out, rfl, HX.out.2.1, HQ.out.le (by omega), rfl, HSR.out.2.1.symm, HR4.out.le (by omega), HX.out.2.2.2.1, HSR.out.2.2.2.1, hzy, by omega, HU2.out, by rw [← HX.out.2.2.2.2, HSR.out.2.2.2.2, List.append_assoc]; rfl, HB.out⟩, by simp [lenOf]; omega⟩
theorem chain_yes (A : Option Addr) (m c : Nat) (L : List Int) (l D : Nat) (w : World) (h : Pol .a w (.slice A m c) L l) (h0 : 0 < pl L) (h13 : pl L ≤ 13) (hm : m ≤ 100) (hD : (l + 5) * 3 ^ pl L ≤ 3 * D) (hD2 : D ≤ 40000) :
    Calls Tryz.prog 9 #[.slice A m c] w (CnE .c (chn (trz L) (derP L)) D w) :=
  (chain_last A m c L l D w h h0 h13 hm hD hD2).mono fun _ _ ⟨A', c', h1, h2, h3, _⟩ => ⟨A', c', h1, h2, h3⟩
end Go.Proofs.YtpobhegllhhdgaaGreat
