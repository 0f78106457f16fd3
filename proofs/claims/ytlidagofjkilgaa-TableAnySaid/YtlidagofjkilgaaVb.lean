/- Proved here: a row, as the document reads it. Condition: a text of at most 10^6 bytes; the rows are there, and those ahead are right. -/
import Derived.Test.YtlidagofjkilgaaVa
namespace Go.Proofs.Ytlidagofjkilgaa
open Go.RowKit

/-- What a row answers: its table, its span, its error. -/
def rwX (l : List UInt8) (n k : Nat) : List UInt8 := if rE l n k = 0 then (rowOf l k).tag else []
def rwD (l : List UInt8) (n k : Nat) : List UInt8 := if rE l n k = 0 then piece l (rowOf l k).place (rowOf l k).size else []
def rwP (l : List UInt8) (n k : Nat) : Nat := if rE l n k = 0 then (rowOf l k).place else 0
def rwQ (l : List UInt8) (n k : Nat) : Nat := if rE l n k = 0 then (rowOf l k).place + (rowOf l k).size else 0
/-- How a row ends. -/
def RwE (l : List UInt8) (n k : Nat) (w : World) (e : Ending) (w' : World) : Prop :=
  e = .returned (.tuple #[.agg #[.string ⟨(rwX l n k).toArray⟩, .string ⟨(rwD l n k).toArray⟩], .agg #[.int .i64 (rwP l n k : Int), .int .i64 (rwQ l n k : Int)], .int .i64 (rE l n k)]) ∧ Below w.heap.size w w'
theorem rwE_err {l : List UInt8} {n k : Nat} {w w' : World} {x : Int} (h : rE l n k = x) (hx : x ≠ 0) (hb : Below w.heap.size w w') : RwE l n k w (.returned (.tuple #[.agg #[.string ⟨#[]⟩, .string ⟨#[]⟩], .agg #[.int .i64 0, .int .i64 0], .int .i64 x])) w' := by
  refine ⟨?_, hb⟩
  unfold rwX rwD rwP rwQ
  rw [h, if_neg hx, if_neg hx, if_neg hx, if_neg hx]
  rfl
theorem rwE_ok {l : List UInt8} {n k : Nat} {w w' : World} {X D : ByteArray} {p q : Nat} (h : rE l n k = 0) (hX : X = ⟨((rowOf l k).tag).toArray⟩) (hD : D = ⟨(piece l (rowOf l k).place (rowOf l k).size).toArray⟩) (hp : p = (rowOf l k).place) (hq : q = (rowOf l k).place + (rowOf l k).size) (hb : Below w.heap.size w w') :
    RwE l n k w (.returned (.tuple #[.agg #[.string X, .string D], .agg #[.int .i64 (p : Int), .int .i64 (q : Int)], .int .i64 0])) w' := by
  refine ⟨?_, hb⟩
  unfold rwX rwD rwP rwQ
  rw [h, if_pos rfl, if_pos rfl, if_pos rfl, if_pos rfl, ← hX, ← hD, ← hq, ← hp]
/-- The text of the tag ahead. -/
def lastT (l : List UInt8) (k : Nat) : List UInt8 := if k = 0 then [] else (rowOf l (k - 1)).tag
set_option maxRecDepth 100000 in
set_option maxHeartbeats 8000000 in
theorem rrow_any (s : ByteArray) (n k : Nat) (A : Option Addr) (c : Nat) (w : World) (hs : s.size ≤ 1000000 - 10) (hn : n ≤ 64) (hk : k < n) (hz : 12 + 16 * n ≤ s.size) (hA : Sl w A k (rows s.data.toList k)) (hfe : fe s.data.toList n k = 0) :
    Calls Try.prog 32 #[.string s, .int .i64 ((12 + 16 * k : Nat) : Int), .string ⟨(lastT s.data.toList k).toArray⟩, .slice A k c, .int .i64 ((12 + 16 * n : Nat) : Int)] w (RwE s.data.toList n k w) := by
  have hR := rows_in hfe
  have HA := Lib.hid hA
  have hfin : ∃ fin, fin = 12 + 16 * n := ⟨_, rfl⟩
  obtain ⟨fin, hfin⟩ := hfin
  obtain ⟨at_, hat⟩ : ∃ a, a = 12 + 16 * k := ⟨_, rfl⟩
  have hrE : rE s.data.toList n k = takeE s.data.toList (rowOf s.data.toList k) (rows s.data.toList k) fin := by unfold rE; rw [hfin]
  have hr0 : rowOf s.data.toList k = ⟨piece s.data.toList at_ 4, bv (piece s.data.toList (at_ + 4) 4) 0, bv (piece s.data.toList (at_ + 8) 4) 0, bv (piece s.data.toList (at_ + 12) 4) 0⟩ := by rw [hat]; rfl
  rw [← hfin, ← hat]
  obtain ⟨r, hr⟩ : ∃ r, r = rowOf s.data.toList k := ⟨_, rfl⟩
  rw [← hr] at hrE hr0
  have hsub := fun W => sub_run s (at_ : Int) ((at_ : Int) + 4) (by omega) (by omega) (by omega) W
  rw [show ((at_ : Int) + 4 - (at_ : Int)).toNat = 4 by omega, Int.toNat_natCast] at hsub
  obtain ⟨X, hX⟩ : ∃ X : ByteArray, X = ⟨(piece s.data.toList at_ 4).toArray⟩ := ⟨_, rfl⟩
  rw [← hX] at hsub
  have htag : r.tag = piece s.data.toList at_ 4 := by rw [hr0]
  have hXr : X = ⟨r.tag.toArray⟩ := by rw [hX, htag]
  have hXl : X.data.toList = r.tag := by rw [hXr]
  have ht4 : r.tag.length ≤ 4 := by rw [htag]; exact piece_len_le _ _ _
  have hm1 := fun W => (rtag_any X W).mono fun _ _ h => And.intro h.1 h.2.symm
  rw [hXl] at hm1
  have u1 := fun W => ru32_same s (at_ + 4) W (by omega) (by omega)
  have u2 := fun W => ru32_same s (at_ + 8) W (by omega) (by omega)
  have u3 := fun W => ru32_same s (at_ + 12) W (by omega) (by omega)
  obtain ⟨sm, hsm⟩ : ∃ x, x = r.sum := ⟨_, rfl⟩
  obtain ⟨pl, hpl⟩ : ∃ x, x = r.place := ⟨_, rfl⟩
  obtain ⟨sz, hsz⟩ : ∃ x, x = r.size := ⟨_, rfl⟩
  have bsm : sm < 4294967296 := by rw [hsm, hr0]; exact bv_le _ 4 (piece_len_le _ _ _)
  have bpl : pl < 4294967296 := by rw [hpl, hr0]; exact bv_le _ 4 (piece_len_le _ _ _)
  have bsz : sz < 4294967296 := by rw [hsz, hr0]; exact bv_le _ 4 (piece_len_le _ _ _)
  rw [show bv (piece s.data.toList (at_ + 4) 4) 0 = sm by rw [hsm, hr0]] at u1
  rw [show bv (piece s.data.toList (at_ + 8) 4) 0 = pl by rw [hpl, hr0]] at u2
  rw [show bv (piece s.data.toList (at_ + 12) 4) 0 = sz by rw [hsz, hr0]] at u3
  have v1 : ∀ W, Calls Try.prog 52 #[.string s, .int .i64 ((at_ : Int) + 4)] W fun e w' => e = .returned (.tuple #[.int .u32 (sm : Int), .int .i64 0]) ∧ W = w' := u1
  have v2 : ∀ W, Calls Try.prog 52 #[.string s, .int .i64 ((at_ : Int) + 8)] W fun e w' => e = .returned (.tuple #[.int .u32 (pl : Int), .int .i64 0]) ∧ W = w' := u2
  have v3 : ∀ W, Calls Try.prog 52 #[.string s, .int .i64 ((at_ : Int) + 12)] W fun e w' => e = .returned (.tuple #[.int .u32 (sz : Int), .int .i64 0]) ∧ W = w' := u3
  have U1 := Lib.hid v1
  have U2 := Lib.hid v2
  have U3 := Lib.hid v3
  have w1 : wrap64 ((at_ : Int) + 4) = (at_ : Int) + 4 := by unfold wrap64; omega
  have w2 : wrap64 ((at_ : Int) + 8) = (at_ : Int) + 8 := by unfold wrap64; omega
  have w3 : wrap64 ((at_ : Int) + 12) = (at_ : Int) + 12 := by unfold wrap64; omega
  have w4 : IntKind.i64.wrap (pl : Int) = (pl : Int) := i64_in _ (by omega)
  have w5 : IntKind.i64.wrap (sz : Int) = (sz : Int) := i64_in _ (by omega)
  have hat9 : at_ ≤ 2000 := by omega
  obtain ⟨T, hT⟩ : ∃ T : ByteArray, T = ⟨(lastT s.data.toList k).toArray⟩ := ⟨_, rfl⟩
  rw [← hT]
  have HF := Lib.hid (And.intro hXr (And.intro hsm (And.intro hpl (And.intro hsz hr))))
  have HRE := Lib.hid hrE
  have HM := Lib.hid hm1
  have HRI := Lib.hid hR
  -- the head: is the tag right?
  have hways : (tagOK r.tag = false ∧ rE s.data.toList n k = 4) ∨ (tagOK r.tag = true ∧ (T.toList == []) = true ∧ (T.toList == ByteArray.toList ⟨#[]⟩) = true ∧ ¬ (!tagOK r.tag || behind r.tag (rows s.data.toList k)) = true) ∨
      (tagOK r.tag = true ∧ (T.toList == []) = false ∧ (T.toList == ByteArray.toList ⟨#[]⟩) = false ∧ ∃ b, (Op.bytesLess X.toList T.toList || (X.toList == T.toList)) = b ∧ (!tagOK r.tag || behind r.tag (rows s.data.toList k)) = b) := by
    cases htg : tagOK r.tag
    · left
      exact ⟨rfl, by rw [hrE]; exact takeE_tag (by rw [htg]; rfl)⟩
    · right
      have hTl : T.data.toList = lastT s.data.toList k := by rw [hT]
      by_cases h0 : k = 0
      · left
        have : lastT s.data.toList k = [] := by unfold lastT; rw [if_pos h0]
        rw [this] at hTl
        refine ⟨rfl, by rw [is_list, hTl]; rfl, by rw [is_text T ⟨#[]⟩ [] rfl, hTl]; rfl, ?_⟩
        rw [h0]
        simp [behind, rows]
      · right
        have hlt : lastT s.data.toList k = (rowOf s.data.toList (k - 1)).tag := by unfold lastT; rw [if_neg h0]
        have h4 := tagOK_len (takeE_in (fe_all hfe (k - 1) (by omega))).2
        have hne : ¬ T.data.toList = [] := by rw [hTl, hlt]; intro h; rw [h] at h4; simp at h4
        refine ⟨rfl, by rw [is_list, decide_eq_false hne], by rw [is_text T ⟨#[]⟩ [] rfl, decide_eq_false hne], _, rfl, ?_⟩
        rw [hXr, hT, leq_eq, hlt]
        have : k = k - 1 + 1 := by omega
        have hbh : behind r.tag (rows s.data.toList k) = bLe r.tag (rowOf s.data.toList (k - 1)).tag := by
          rw [this]
          unfold behind
          rw [rows_last]
          rfl
        rw [hbh]
        rfl
  clear hr hX hXr hXl htag hsm hpl hsz hm1 u1 u2 u3 v1 v2 v3 hfin hT hrE hr0 hA hfe hR hat ht4
  rcases hways with ⟨htg, he⟩ | ⟨htg, t1, t2, hnb⟩ | ⟨htg, t1, t2, b, hle, hb⟩
  · rw [htg] at HM
    have HE := Lib.hid (fun w' (hb : Below w.heap.size w w') => rwE_err he (by decide) hb)
    clear htg he
    go_enter Try.func32, Try.ntmps32
    go_upto_region 1 with fail
    have H0 := Lib.hid (RwS.start w)
    obtain ⟨b2, hb2⟩ : ∃ x, x = w.heap.size + 1 := ⟨_, rfl⟩
    obtain ⟨b1, hb1⟩ : ∃ x, x = w.heap.size := ⟨_, rfl⟩
    obtain ⟨W0, hW0⟩ : ∃ W, W = (w.alloc (.cells #[.string ⟨#[]⟩, .string ⟨#[]⟩] 25)).alloc (.cells #[.int .i64 0, .int .i64 0] 74) := ⟨_, rfl⟩
    rw [← hb2, ← hW0] at H0 ⊢
    rw [← hb1] at H0 ⊢
    clear hb1 hb2 hW0
    have n1 : ¬ b1 = b2 := H0.out.ne
    have n2 : ¬ b2 = b1 := fun h => H0.out.ne h.symm
    obtain ⟨c0, c1, c2, c3⟩ := H0.out.cells
    obtain ⟨r0, r1, r2, r3⟩ := H0.out.frs
    go_wp2_with (go_at_call 23; (with_reducible refine (HM.out _).mono ?_); rintro e w' ⟨rfl, rfl⟩)
    first
      | exact bodyPost_ret (ret_rw rfl rfl rfl rfl H0.out) rfl (HE.out _ H0.out.bel)
      | exact bodyPost_ret (ret_rw rfl rfl rfl rfl (RwS.put H0.out _ _ _ _)) rfl (HE.out _ (RwS.put H0.out _ _ _ _).bel)
  · rw [htg] at HM
    have HNB := Lib.hid hnb
    clear htg hnb
    go_enter Try.func32, Try.ntmps32
    go_upto_region 1 with fail
    have H0 := Lib.hid (RwS.start w)
    obtain ⟨b2, hb2⟩ : ∃ x, x = w.heap.size + 1 := ⟨_, rfl⟩
    obtain ⟨b1, hb1⟩ : ∃ x, x = w.heap.size := ⟨_, rfl⟩
    obtain ⟨W0, hW0⟩ : ∃ W, W = (w.alloc (.cells #[.string ⟨#[]⟩, .string ⟨#[]⟩] 25)).alloc (.cells #[.int .i64 0, .int .i64 0] 74) := ⟨_, rfl⟩
    rw [← hb2, ← hW0] at H0 ⊢
    rw [← hb1] at H0 ⊢
    clear hb1 hb2 hW0
    have n1 : ¬ b1 = b2 := H0.out.ne
    have n2 : ¬ b2 = b1 := fun h => H0.out.ne h.symm
    obtain ⟨c0, c1, c2, c3⟩ := H0.out.cells
    obtain ⟨r0, r1, r2, r3⟩ := H0.out.frs
    go_upto_region 9 with (first
      | (go_at_call 23; (with_reducible refine (HM.out _).mono ?_); rintro e w' ⟨rfl, rfl⟩)
      | (go_at_call 52; (with_reducible refine (U1.out _).mono ?_); rintro e w' ⟨rfl, rfl⟩)
      | (go_at_call 52; (with_reducible refine (U2.out _).mono ?_); rintro e w' ⟨rfl, rfl⟩)
      | (go_at_call 52; (with_reducible refine (U3.out _).mono ?_); rintro e w' ⟨rfl, rfl⟩))
    by_cases hp4 : pl % 4 ≠ 0
    · have he : rE s.data.toList n k = 4 := by rw [HRE.out]; exact takeE_place HNB.out (.inl (by rw [← HF.out.2.2.1]; exact hp4))
      have HE := Lib.hid (fun w' (hb : Below w.heap.size w w') => rwE_err he (by decide) hb)
      have e3 : ((pl : Int) % 4 != 0) = true := by simp; omega
      have e4 : ((pl : Int).tmod 4 != 0) = true := by rw [Int.tmod_eq_emod_of_nonneg (by omega)]; exact e3
      clear he hp4
      go_wp2_with fail
      first
        | exact bodyPost_ret (ret_rw rfl rfl rfl rfl H0.out) rfl (HE.out _ H0.out.bel)
        | exact bodyPost_ret (ret_rw rfl rfl rfl rfl (RwS.put H0.out _ _ _ _)) rfl (HE.out _ (RwS.put H0.out _ _ _ _).bel)
    have e3 : ((pl : Int) % 4 != 0) = false := by simp; omega
    have e4 : ((pl : Int).tmod 4 != 0) = false := by rw [Int.tmod_eq_emod_of_nonneg (by omega)]; exact e3
    by_cases hpf : pl < fin
    · have he : rE s.data.toList n k = 4 := by rw [HRE.out]; exact takeE_place HNB.out (.inr (by rw [← HF.out.2.2.1]; exact hpf))
      have HE := Lib.hid (fun w' (hb : Below w.heap.size w w') => rwE_err he (by decide) hb)
      clear he hp4
      go_wp2_with fail
      first
        | exact bodyPost_ret (ret_rw rfl rfl rfl rfl H0.out) rfl (HE.out _ H0.out.bel)
        | exact bodyPost_ret (ret_rw rfl rfl rfl rfl (RwS.put H0.out _ _ _ _)) rfl (HE.out _ (RwS.put H0.out _ _ _ _).bel)
    have hpok : ¬ (r.place % 4 ≠ 0 ∨ r.place < fin) := by rw [← HF.out.2.2.1]; omega
    by_cases hin : ¬ pl + sz ≤ s.size
    · have he : rE s.data.toList n k = 3 := by rw [HRE.out]; exact takeE_end HNB.out hpok (by rw [size_list, ← HF.out.2.2.1, ← HF.out.2.2.2.1]; exact hin)
      have HE := Lib.hid (fun w' (hb : Below w.heap.size w w') => rwE_err he (by decide) hb)
      have hcut := fun W => rcut_any s (pl : Int) (sz : Int) W (by omega) (by omega)
      have h2 := cutL_out (l := s.data.toList) (a := pl) (n := sz) (by rw [size_list]; exact hin)
      rw [h2.1, h2.2] at hcut
      have HC := Lib.hid hcut
      clear he hp4 hin hpok h2 hcut
      go_wp2_with (go_at_call 50; (with_reducible refine (HC.out _).mono ?_); rintro e w' ⟨rfl, rfl⟩)
      first
        | exact bodyPost_ret (ret_rw rfl rfl rfl rfl H0.out) rfl (HE.out _ H0.out.bel)
        | exact bodyPost_ret (ret_rw rfl rfl rfl rfl (RwS.put H0.out _ _ _ _)) rfl (HE.out _ (RwS.put H0.out _ _ _ _).bel)
    have hin : pl + sz ≤ s.size := by omega
    have hcut := fun W => rcut_any s (pl : Int) (sz : Int) W (by omega) (by omega)
    have h2 := cutL_in (l := s.data.toList) (a := pl) (n := sz) (by rw [size_list]; exact hin)
    rw [h2.1, h2.2] at hcut
    have hin2 : r.place + r.size ≤ s.data.toList.length := by rw [size_list, ← HF.out.2.2.1, ← HF.out.2.2.2.1]; exact hin
    have hpl := piece_len (l := s.data.toList) (a := pl) (n := sz) (by rw [size_list]; exact hin)
    obtain ⟨D, hD⟩ : ∃ D : ByteArray, D = ⟨(piece s.data.toList pl sz).toArray⟩ := ⟨_, rfl⟩
    have hDl : D.data.toList = piece s.data.toList pl sz := by rw [hD]
    have htot := fun W => rsum_q X D W (by rw [hDl]; omega)
    have hXl : X.data.toList = r.tag := by rw [HF.out.1]
    rw [hDl, hXl] at htot
    rw [← hD] at hcut
    have HSU := Lib.hid (fun (h4 : (rows s.data.toList k).any (meet r) = false) => show rE s.data.toList n k = if total r.tag (piece s.data.toList pl sz) ≠ sm then 5 else 0 by rw [HRE.out, takeE_sum HNB.out hpok hin2 h4, ← HF.out.2.1, ← HF.out.2.2.1, ← HF.out.2.2.2.1])
    have HME := Lib.hid (fun (h4 : (rows s.data.toList k).any (meet r) = true) => show rE s.data.toList n k = 4 by rw [HRE.out]; exact takeE_meet HNB.out hpok hin2 h4)
    obtain ⟨tt, htt⟩ : ∃ n, n = total r.tag (piece s.data.toList pl sz) := ⟨_, rfl⟩
    rw [← htt] at HSU htot
    have HDe := Lib.hid hD
    have HC := Lib.hid hcut
    have HT := Lib.hid htot
    obtain ⟨q, hq⟩ : ∃ q, q = pl + sz := ⟨_, rfl⟩
    have wq : IntKind.i64.wrap ((pl : Int) + (sz : Int)) = (q : Int) := by rw [i64_in _ (by omega)]; omega
    have HQ := Lib.hid hq
    clear hp4 hin hpok h2 hcut hin2 hpl hD hDl htot hXl htt hq
    go_upto_region 12 with (go_at_call 50; (with_reducible refine (HC.out _).mono ?_); rintro e w' ⟨rfl, rfl⟩)
    clear c0 c1 c2 c3 r0 r1 r2 r3
    go_wp2_with fail
    go_loopw [24] (fun v wi => ∃ j : Nat, v = .int .i64 (j : Int) ∧ j ≤ k ∧ (∀ (i : Nat) (hi : i < (rows s.data.toList k).length), i < j → meet r (rows s.data.toList k)[i] = false) ∧ RwS w wi b1 b2 ⟨#[]⟩ ⟨#[]⟩ 0 0) (fun v _ => k - (intOf v).toNat)
    case atStart => exact ⟨0, rfl, Nat.zero_le _, fun i _ hi => by omega, H0.out⟩
    case round =>
      obtain ⟨j, rfl, hj, hno, hK⟩ := hrel
      have HK := Lib.hid hK
      have HNO := Lib.hid hno
      clear hK hno
      have hlen := HA.out.len
      by_cases hgo : j < k
      · obtain ⟨ad3, had3, d0, d1, d2⟩ := HA.out.at_ HK.out.bel hgo
        subst had3
        have hkR : j < (rows s.data.toList k).length := by rw [hlen]; exact hgo
        have hins := HRI.out ((rows s.data.toList k)[j]'hkR) (List.getElem_mem _)
        rw [size_list] at hins
        obtain ⟨pl2, hpl2⟩ : ∃ n, n = ((rows s.data.toList k)[j]'hkR).place := ⟨_, rfl⟩
        obtain ⟨q2, hq2⟩ : ∃ n, n = ((rows s.data.toList k)[j]'hkR).place + ((rows s.data.toList k)[j]'hkR).size := ⟨_, rfl⟩
        rw [← hpl2] at d0
        rw [← hq2] at d1 d2 hins
        have hme : meet r ((rows s.data.toList k)[j]'hkR) = decide (0 < sz ∧ pl2 < q2 ∧ pl < q2 ∧ pl2 < q) := by rw [meet_iff, ← HF.out.2.2.2.1, ← hpl2, ← HF.out.2.2.1, HQ.out, hq2, ← hpl2]
        have HNX := Lib.hid (fun (h : meet r ((rows s.data.toList k)[j]'hkR) = false) => show ∀ (i : Nat) (hi : i < (rows s.data.toList k).length), i < j + 1 → meet r (rows s.data.toList k)[i] = false from fun i hi hik => by
          rcases Nat.lt_or_ge i j with h7 | h7
          · exact HNO.out i hi h7
          · have : i = j := by omega
            subst this
            exact h)
        have HHT := Lib.hid (fun (h : meet r ((rows s.data.toList k)[j]'hkR) = true) => show (rows s.data.toList k).any (meet r) = true from List.any_eq_true.2 ⟨_, List.getElem_mem hkR, h⟩)
        rw [hme] at HNX HHT
        have hways2 : (¬ 0 < sz) ∨ (0 < sz ∧ ¬ pl2 < q2) ∨ (0 < sz ∧ pl2 < q2 ∧ ¬ pl < q2) ∨ (0 < sz ∧ pl2 < q2 ∧ pl < q2 ∧ ¬ pl2 < q) ∨ (0 < sz ∧ pl2 < q2 ∧ pl < q2 ∧ pl2 < q) := by omega
        clear hins hpl2 hq2 hme hlen
        rcases hways2 with g1 | ⟨g1, g2⟩ | ⟨g1, g2, g3⟩ | ⟨g1, g2, g3, g4⟩ | ⟨g1, g2, g3, g4⟩
        case' inr.inr.inr.inr =>
          have he := HME.out (HHT.out (decide_eq_true ⟨g1, g2, g3, g4⟩))
          have HE := Lib.hid (fun w' (hb : Below w.heap.size w w') => rwE_err he (by decide) hb)
          have HKn := Lib.hid (fun n => HK.out.next (below_drewN (Below.refl _ _) n))
          obtain ⟨c0, c1, c2, c3⟩ := HK.out.cells
          obtain ⟨r0, r1, r2, r3⟩ := HK.out.frs
          clear he HNX HHT
          go_wp2_with fail
          go_quiet (fail)
          go_wp2_with fail
          exact bodyPost_ret (ret_rw rfl rfl rfl rfl (RwS.put (HKn.out _) _ _ _ _)) rfl (HE.out _ (RwS.put (HKn.out _) _ _ _ _).bel)
        all_goals
          have HS := Lib.hid (HNX.out (decide_eq_false (fun h => by omega)))
          clear HNX HHT
          go_wp2_with fail
          go_quiet (fail)
          all_goals
            go_wp2_with fail
            exact ⟨⟨j + 1, by simp, by omega, HS.out, HK.out.next (below_drewN (Below.refl _ _) _)⟩, by simp [intOf]; omega⟩
      · have hjk : j = k := by omega
        have hany : (rows s.data.toList k).any (meet r) = false := by
          rw [List.any_eq_false]
          intro x hx
          obtain ⟨i, hi, rfl⟩ := List.getElem_of_mem hx
          rw [HNO.out i hi (by omega)]
          simp
        have hsu := HSU.out hany
        obtain ⟨c0, c1, c2, c3⟩ := HK.out.cells
        obtain ⟨r0, r1, r2, r3⟩ := HK.out.frs
        have HKn := Lib.hid (fun n => HK.out.next (below_drewN (Below.refl _ _) n))
        by_cases hts : tt = sm
        · rw [if_neg (by simp [hts])] at hsu
          have HE := Lib.hid (fun w' (hb : Below w.heap.size w w') => rwE_ok (X := X) (D := D) (p := pl) (q := q) hsu (by rw [HF.out.1, HF.out.2.2.2.2]) (by rw [HDe.out, HF.out.2.2.1, HF.out.2.2.2.1, HF.out.2.2.2.2]) (by rw [HF.out.2.2.1, HF.out.2.2.2.2]) (by rw [HQ.out, HF.out.2.2.1, HF.out.2.2.2.1, HF.out.2.2.2.2]) hb)
          have e5 : ((tt : Int) != (sm : Int)) = false := by simp [hts]
          clear hjk hany hsu hts hlen
          go_wp2_with (go_at_call 26; (with_reducible refine (HT.out _).mono ?_); rintro e w5 ⟨rfl, q5, rfl⟩)
          exact bodyPost_ret (ret_rw rfl rfl rfl rfl (RwS.put (HKn.out _) _ _ _ _)) rfl (HE.out _ (RwS.put (HKn.out _) _ _ _ _).bel)
        · rw [if_pos hts] at hsu
          have HE := Lib.hid (fun w' (hb : Below w.heap.size w w') => rwE_err hsu (by decide) hb)
          have e5 : ((tt : Int) != (sm : Int)) = true := by simp; omega
          clear hjk hany hsu hts hlen
          go_wp2_with (go_at_call 26; (with_reducible refine (HT.out _).mono ?_); rintro e w5 ⟨rfl, q5, rfl⟩)
          exact bodyPost_ret (ret_rw rfl rfl rfl rfl (RwS.put (HKn.out _) _ _ _ _)) rfl (HE.out _ (RwS.put (HKn.out _) _ _ _ _).bel)
  · rw [htg] at HM
    cases b
    · have HNB := Lib.hid (show ¬ (!tagOK r.tag || behind r.tag (rows s.data.toList k)) = true by rw [hb]; simp)
      clear htg hb
      go_enter Try.func32, Try.ntmps32
      go_upto_region 1 with fail
      have H0 := Lib.hid (RwS.start w)
      obtain ⟨b2, hb2⟩ : ∃ x, x = w.heap.size + 1 := ⟨_, rfl⟩
      obtain ⟨b1, hb1⟩ : ∃ x, x = w.heap.size := ⟨_, rfl⟩
      obtain ⟨W0, hW0⟩ : ∃ W, W = (w.alloc (.cells #[.string ⟨#[]⟩, .string ⟨#[]⟩] 25)).alloc (.cells #[.int .i64 0, .int .i64 0] 74) := ⟨_, rfl⟩
      rw [← hb2, ← hW0] at H0 ⊢
      rw [← hb1] at H0 ⊢
      clear hb1 hb2 hW0
      have n1 : ¬ b1 = b2 := H0.out.ne
      have n2 : ¬ b2 = b1 := fun h => H0.out.ne h.symm
      obtain ⟨c0, c1, c2, c3⟩ := H0.out.cells
      obtain ⟨r0, r1, r2, r3⟩ := H0.out.frs
      go_upto_region 9 with (first
        | (go_at_call 23; (with_reducible refine (HM.out _).mono ?_); rintro e w' ⟨rfl, rfl⟩)
        | (go_at_call 52; (with_reducible refine (U1.out _).mono ?_); rintro e w' ⟨rfl, rfl⟩)
        | (go_at_call 52; (with_reducible refine (U2.out _).mono ?_); rintro e w' ⟨rfl, rfl⟩)
        | (go_at_call 52; (with_reducible refine (U3.out _).mono ?_); rintro e w' ⟨rfl, rfl⟩))
      by_cases hp4 : pl % 4 ≠ 0
      · have he : rE s.data.toList n k = 4 := by rw [HRE.out]; exact takeE_place HNB.out (.inl (by rw [← HF.out.2.2.1]; exact hp4))
        have HE := Lib.hid (fun w' (hb : Below w.heap.size w w') => rwE_err he (by decide) hb)
        have e3 : ((pl : Int) % 4 != 0) = true := by simp; omega
        have e4 : ((pl : Int).tmod 4 != 0) = true := by rw [Int.tmod_eq_emod_of_nonneg (by omega)]; exact e3
        clear he hp4
        go_wp2_with fail
        first
          | exact bodyPost_ret (ret_rw rfl rfl rfl rfl H0.out) rfl (HE.out _ H0.out.bel)
          | exact bodyPost_ret (ret_rw rfl rfl rfl rfl (RwS.put H0.out _ _ _ _)) rfl (HE.out _ (RwS.put H0.out _ _ _ _).bel)
      have e3 : ((pl : Int) % 4 != 0) = false := by simp; omega
      have e4 : ((pl : Int).tmod 4 != 0) = false := by rw [Int.tmod_eq_emod_of_nonneg (by omega)]; exact e3
      by_cases hpf : pl < fin
      · have he : rE s.data.toList n k = 4 := by rw [HRE.out]; exact takeE_place HNB.out (.inr (by rw [← HF.out.2.2.1]; exact hpf))
        have HE := Lib.hid (fun w' (hb : Below w.heap.size w w') => rwE_err he (by decide) hb)
        clear he hp4
        go_wp2_with fail
        first
          | exact bodyPost_ret (ret_rw rfl rfl rfl rfl H0.out) rfl (HE.out _ H0.out.bel)
          | exact bodyPost_ret (ret_rw rfl rfl rfl rfl (RwS.put H0.out _ _ _ _)) rfl (HE.out _ (RwS.put H0.out _ _ _ _).bel)
      have hpok : ¬ (r.place % 4 ≠ 0 ∨ r.place < fin) := by rw [← HF.out.2.2.1]; omega
      by_cases hin : ¬ pl + sz ≤ s.size
      · have he : rE s.data.toList n k = 3 := by rw [HRE.out]; exact takeE_end HNB.out hpok (by rw [size_list, ← HF.out.2.2.1, ← HF.out.2.2.2.1]; exact hin)
        have HE := Lib.hid (fun w' (hb : Below w.heap.size w w') => rwE_err he (by decide) hb)
        have hcut := fun W => rcut_any s (pl : Int) (sz : Int) W (by omega) (by omega)
        have h2 := cutL_out (l := s.data.toList) (a := pl) (n := sz) (by rw [size_list]; exact hin)
        rw [h2.1, h2.2] at hcut
        have HC := Lib.hid hcut
        clear he hp4 hin hpok h2 hcut
        go_wp2_with (go_at_call 50; (with_reducible refine (HC.out _).mono ?_); rintro e w' ⟨rfl, rfl⟩)
        first
          | exact bodyPost_ret (ret_rw rfl rfl rfl rfl H0.out) rfl (HE.out _ H0.out.bel)
          | exact bodyPost_ret (ret_rw rfl rfl rfl rfl (RwS.put H0.out _ _ _ _)) rfl (HE.out _ (RwS.put H0.out _ _ _ _).bel)
      have hin : pl + sz ≤ s.size := by omega
      have hcut := fun W => rcut_any s (pl : Int) (sz : Int) W (by omega) (by omega)
      have h2 := cutL_in (l := s.data.toList) (a := pl) (n := sz) (by rw [size_list]; exact hin)
      rw [h2.1, h2.2] at hcut
      have hin2 : r.place + r.size ≤ s.data.toList.length := by rw [size_list, ← HF.out.2.2.1, ← HF.out.2.2.2.1]; exact hin
      have hpl := piece_len (l := s.data.toList) (a := pl) (n := sz) (by rw [size_list]; exact hin)
      obtain ⟨D, hD⟩ : ∃ D : ByteArray, D = ⟨(piece s.data.toList pl sz).toArray⟩ := ⟨_, rfl⟩
      have hDl : D.data.toList = piece s.data.toList pl sz := by rw [hD]
      have htot := fun W => rsum_q X D W (by rw [hDl]; omega)
      have hXl : X.data.toList = r.tag := by rw [HF.out.1]
      rw [hDl, hXl] at htot
      rw [← hD] at hcut
      have HSU := Lib.hid (fun (h4 : (rows s.data.toList k).any (meet r) = false) => show rE s.data.toList n k = if total r.tag (piece s.data.toList pl sz) ≠ sm then 5 else 0 by rw [HRE.out, takeE_sum HNB.out hpok hin2 h4, ← HF.out.2.1, ← HF.out.2.2.1, ← HF.out.2.2.2.1])
      have HME := Lib.hid (fun (h4 : (rows s.data.toList k).any (meet r) = true) => show rE s.data.toList n k = 4 by rw [HRE.out]; exact takeE_meet HNB.out hpok hin2 h4)
      obtain ⟨tt, htt⟩ : ∃ n, n = total r.tag (piece s.data.toList pl sz) := ⟨_, rfl⟩
      rw [← htt] at HSU htot
      have HDe := Lib.hid hD
      have HC := Lib.hid hcut
      have HT := Lib.hid htot
      obtain ⟨q, hq⟩ : ∃ q, q = pl + sz := ⟨_, rfl⟩
      have wq : IntKind.i64.wrap ((pl : Int) + (sz : Int)) = (q : Int) := by rw [i64_in _ (by omega)]; omega
      have HQ := Lib.hid hq
      clear hp4 hin hpok h2 hcut hin2 hpl hD hDl htot hXl htt hq
      go_upto_region 12 with (go_at_call 50; (with_reducible refine (HC.out _).mono ?_); rintro e w' ⟨rfl, rfl⟩)
      clear c0 c1 c2 c3 r0 r1 r2 r3
      go_wp2_with fail
      go_loopw [24] (fun v wi => ∃ j : Nat, v = .int .i64 (j : Int) ∧ j ≤ k ∧ (∀ (i : Nat) (hi : i < (rows s.data.toList k).length), i < j → meet r (rows s.data.toList k)[i] = false) ∧ RwS w wi b1 b2 ⟨#[]⟩ ⟨#[]⟩ 0 0) (fun v _ => k - (intOf v).toNat)
      case atStart => exact ⟨0, rfl, Nat.zero_le _, fun i _ hi => by omega, H0.out⟩
      case round =>
        obtain ⟨j, rfl, hj, hno, hK⟩ := hrel
        have HK := Lib.hid hK
        have HNO := Lib.hid hno
        clear hK hno
        have hlen := HA.out.len
        by_cases hgo : j < k
        · obtain ⟨ad3, had3, d0, d1, d2⟩ := HA.out.at_ HK.out.bel hgo
          subst had3
          have hkR : j < (rows s.data.toList k).length := by rw [hlen]; exact hgo
          have hins := HRI.out ((rows s.data.toList k)[j]'hkR) (List.getElem_mem _)
          rw [size_list] at hins
          obtain ⟨pl2, hpl2⟩ : ∃ n, n = ((rows s.data.toList k)[j]'hkR).place := ⟨_, rfl⟩
          obtain ⟨q2, hq2⟩ : ∃ n, n = ((rows s.data.toList k)[j]'hkR).place + ((rows s.data.toList k)[j]'hkR).size := ⟨_, rfl⟩
          rw [← hpl2] at d0
          rw [← hq2] at d1 d2 hins
          have hme : meet r ((rows s.data.toList k)[j]'hkR) = decide (0 < sz ∧ pl2 < q2 ∧ pl < q2 ∧ pl2 < q) := by rw [meet_iff, ← HF.out.2.2.2.1, ← hpl2, ← HF.out.2.2.1, HQ.out, hq2, ← hpl2]
          have HNX := Lib.hid (fun (h : meet r ((rows s.data.toList k)[j]'hkR) = false) => show ∀ (i : Nat) (hi : i < (rows s.data.toList k).length), i < j + 1 → meet r (rows s.data.toList k)[i] = false from fun i hi hik => by
            rcases Nat.lt_or_ge i j with h7 | h7
            · exact HNO.out i hi h7
            · have : i = j := by omega
              subst this
              exact h)
          have HHT := Lib.hid (fun (h : meet r ((rows s.data.toList k)[j]'hkR) = true) => show (rows s.data.toList k).any (meet r) = true from List.any_eq_true.2 ⟨_, List.getElem_mem hkR, h⟩)
          rw [hme] at HNX HHT
          have hways2 : (¬ 0 < sz) ∨ (0 < sz ∧ ¬ pl2 < q2) ∨ (0 < sz ∧ pl2 < q2 ∧ ¬ pl < q2) ∨ (0 < sz ∧ pl2 < q2 ∧ pl < q2 ∧ ¬ pl2 < q) ∨ (0 < sz ∧ pl2 < q2 ∧ pl < q2 ∧ pl2 < q) := by omega
          clear hins hpl2 hq2 hme hlen
          rcases hways2 with g1 | ⟨g1, g2⟩ | ⟨g1, g2, g3⟩ | ⟨g1, g2, g3, g4⟩ | ⟨g1, g2, g3, g4⟩
          case' inr.inr.inr.inr =>
            have he := HME.out (HHT.out (decide_eq_true ⟨g1, g2, g3, g4⟩))
            have HE := Lib.hid (fun w' (hb : Below w.heap.size w w') => rwE_err he (by decide) hb)
            have HKn := Lib.hid (fun n => HK.out.next (below_drewN (Below.refl _ _) n))
            obtain ⟨c0, c1, c2, c3⟩ := HK.out.cells
            obtain ⟨r0, r1, r2, r3⟩ := HK.out.frs
            clear he HNX HHT
            go_wp2_with fail
            go_quiet (fail)
            go_wp2_with fail
            exact bodyPost_ret (ret_rw rfl rfl rfl rfl (RwS.put (HKn.out _) _ _ _ _)) rfl (HE.out _ (RwS.put (HKn.out _) _ _ _ _).bel)
          all_goals
            have HS := Lib.hid (HNX.out (decide_eq_false (fun h => by omega)))
            clear HNX HHT
            go_wp2_with fail
            go_quiet (fail)
            all_goals
              go_wp2_with fail
              exact ⟨⟨j + 1, by simp, by omega, HS.out, HK.out.next (below_drewN (Below.refl _ _) _)⟩, by simp [intOf]; omega⟩
        · have hjk : j = k := by omega
          have hany : (rows s.data.toList k).any (meet r) = false := by
            rw [List.any_eq_false]
            intro x hx
            obtain ⟨i, hi, rfl⟩ := List.getElem_of_mem hx
            rw [HNO.out i hi (by omega)]
            simp
          have hsu := HSU.out hany
          obtain ⟨c0, c1, c2, c3⟩ := HK.out.cells
          obtain ⟨r0, r1, r2, r3⟩ := HK.out.frs
          have HKn := Lib.hid (fun n => HK.out.next (below_drewN (Below.refl _ _) n))
          by_cases hts : tt = sm
          · rw [if_neg (by simp [hts])] at hsu
            have HE := Lib.hid (fun w' (hb : Below w.heap.size w w') => rwE_ok (X := X) (D := D) (p := pl) (q := q) hsu (by rw [HF.out.1, HF.out.2.2.2.2]) (by rw [HDe.out, HF.out.2.2.1, HF.out.2.2.2.1, HF.out.2.2.2.2]) (by rw [HF.out.2.2.1, HF.out.2.2.2.2]) (by rw [HQ.out, HF.out.2.2.1, HF.out.2.2.2.1, HF.out.2.2.2.2]) hb)
            have e5 : ((tt : Int) != (sm : Int)) = false := by simp [hts]
            clear hjk hany hsu hts hlen
            go_wp2_with (go_at_call 26; (with_reducible refine (HT.out _).mono ?_); rintro e w5 ⟨rfl, q5, rfl⟩)
            exact bodyPost_ret (ret_rw rfl rfl rfl rfl (RwS.put (HKn.out _) _ _ _ _)) rfl (HE.out _ (RwS.put (HKn.out _) _ _ _ _).bel)
          · rw [if_pos hts] at hsu
            have HE := Lib.hid (fun w' (hb : Below w.heap.size w w') => rwE_err hsu (by decide) hb)
            have e5 : ((tt : Int) != (sm : Int)) = true := by simp; omega
            clear hjk hany hsu hts hlen
            go_wp2_with (go_at_call 26; (with_reducible refine (HT.out _).mono ?_); rintro e w5 ⟨rfl, q5, rfl⟩)
            exact bodyPost_ret (ret_rw rfl rfl rfl rfl (RwS.put (HKn.out _) _ _ _ _)) rfl (HE.out _ (RwS.put (HKn.out _) _ _ _ _).bel)
    · have he : rE s.data.toList n k = 4 := by rw [HRE.out]; exact takeE_tag hb
      have HE := Lib.hid (fun w' (hb : Below w.heap.size w w') => rwE_err he (by decide) hb)
      clear htg he hb
      go_enter Try.func32, Try.ntmps32
      go_upto_region 1 with fail
      have H0 := Lib.hid (RwS.start w)
      obtain ⟨b2, hb2⟩ : ∃ x, x = w.heap.size + 1 := ⟨_, rfl⟩
      obtain ⟨b1, hb1⟩ : ∃ x, x = w.heap.size := ⟨_, rfl⟩
      obtain ⟨W0, hW0⟩ : ∃ W, W = (w.alloc (.cells #[.string ⟨#[]⟩, .string ⟨#[]⟩] 25)).alloc (.cells #[.int .i64 0, .int .i64 0] 74) := ⟨_, rfl⟩
      rw [← hb2, ← hW0] at H0 ⊢
      rw [← hb1] at H0 ⊢
      clear hb1 hb2 hW0
      have n1 : ¬ b1 = b2 := H0.out.ne
      have n2 : ¬ b2 = b1 := fun h => H0.out.ne h.symm
      obtain ⟨c0, c1, c2, c3⟩ := H0.out.cells
      obtain ⟨r0, r1, r2, r3⟩ := H0.out.frs
      go_wp2_with (go_at_call 23; (with_reducible refine (HM.out _).mono ?_); rintro e w' ⟨rfl, rfl⟩)
      first
        | exact bodyPost_ret (ret_rw rfl rfl rfl rfl H0.out) rfl (HE.out _ H0.out.bel)
        | exact bodyPost_ret (ret_rw rfl rfl rfl rfl (RwS.put H0.out _ _ _ _)) rfl (HE.out _ (RwS.put H0.out _ _ _ _).bel)
end Go.Proofs.Ytlidagofjkilgaa
