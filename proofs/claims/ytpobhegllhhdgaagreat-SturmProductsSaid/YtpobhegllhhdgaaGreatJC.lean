/- Proved here: what package sturm's count and rising answer. Condition: numbers of 64 bits; count: changes of at most 1000. · what package sturm's Count answers. Condition: a polynomial of few enough digits that lies in memory, and two fractions of 64 bits. · what package sturm's passes and Negative answer. Condition: a polynomial of few enough digits that lies in memory, and two fractions of 64 bits. · what package sturm's Negative answers. Condition: a polynomial of few enough digits that lies in memory, and two fractions of 64 bits. -/
import Derived.Test.YtpobhegllhhdgaaGreatJB
import Derived.Test.YtpobhegllhhdgaaGreatVG
import Derived.Test.YtpobhegllhhdgaaGreatJc
namespace Go.Proofs.YtpobhegllhhdgaaGreat
open Go.RowKit

set_option maxRecDepth 100000 in
theorem count_any (n d b a n' d' b' a' : Int) (z z' : Bool) (w : World) (ha : 0 ≤ a ∧ a ≤ 1000) (hb : 0 ≤ b' ∧ b' ≤ 1000) :
    Calls Tryz.prog 46 #[PlV n d z b a, PlV n' d' z' b' a'] w fun e w' => e = .returned (.int .i64 (a - b')) ∧ Below w.heap.size w w' := by
  have hp := Pb.new w n d z b a
  have hq := Pb.new (w.alloc (.cells #[.int .i64 n, .int .i64 d, .bool z, .int .i64 b, .int .i64 a] 87)) n' d' z' b' a'
  rw [size_a1] at hq
  have hp := hp.bel (bel_a _ (.cells #[.int .i64 n', .int .i64 d', .bool z', .int .i64 b', .int .i64 a'] 87))
  obtain ⟨p0, p1, p2, p3, p4⟩ := hp.cells
  obtain ⟨q0, q1, q2, q3, q4⟩ := hq.cells
  have hw : IntKind.i64.wrap (a - b') = a - b' := IntWalk.i64_in _ (by omega)
  have HB := Lib.hid (bel_tr (bel_a w (.cells #[.int .i64 n, .int .i64 d, .bool z, .int .i64 b, .int .i64 a] 87)) (bel_a _ (.cells #[.int .i64 n', .int .i64 d', .bool z', .int .i64 b', .int .i64 a'] 87)))
  clear hp hq ha hb
  unfold PlV
  go_enter Tryz.func46, Tryz.ntmps46
  go_wp2_with fail
  go_ret
  exact ⟨rfl, HB.out⟩
/-- Whether two fractions may be, and the one is below the other one. -/
def risB (n d m c : Int) : Bool := decide (Maybe n d ∧ Maybe m c ∧ n * c < m * d)
set_option maxRecDepth 100000 in
theorem rising_any (n d m c : Int) (w : World) (hn : Fit n) (hd : Fit d) (hm : Fit m) (hc : Fit c) :
    Calls Tryz.prog 45 #[.agg #[.int .i64 n, .int .i64 d], .agg #[.int .i64 m, .int .i64 c]] w fun e w' => e = .returned (.bool (risB n d m c)) ∧ Below w.heap.size w w' := by
  have HC := Lib.hid (fun W => p_cmp n d m c W hn hd hm hc)
  have HH := Lib.hid (BtH.start w n d m c)
  obtain ⟨f1, f2, f3, f4⟩ := HH.out.facts
  by_cases hmb : Maybe n d ∧ Maybe m c
  · obtain ⟨z, hz⟩ : ∃ z, z = cmpI (n * c) (m * d) := ⟨_, rfl⟩
    have hcr : cmpR n d m c = (z, 0) := by unfold cmpR; rw [if_pos hmb, hz]
    rw [hcr] at HC
    have HR := Lib.hid (show risB n d m c = decide (z < 0) by
      unfold risB
      rw [decide_eq_decide, hz]
      unfold cmpI
      constructor
      · rintro ⟨_, _, h⟩; rw [if_pos h]; decide
      · intro h
        refine ⟨hmb.1, hmb.2, ?_⟩
        split at h
        · assumption
        · split at h <;> omega)
    clear hn hd hm hc hmb hz hcr
    go_enter Tryz.func45, Tryz.ntmps45
    go_wp2_with (go_at_call 80; (with_reducible refine (HC.out _).mono ?_); rintro e w1 ⟨rfl, hb⟩; have HB := Lib.hid (bel_tr HH.out.bel hb); clear hb)
    go_ret
    exact ⟨by rw [HR.out]; rfl, HB.out⟩
  · have hcr : cmpR n d m c = (0, 1) := by unfold cmpR; rw [if_neg hmb]
    rw [hcr] at HC
    have HR := Lib.hid (show risB n d m c = false from decide_eq_false fun h => hmb ⟨h.1, h.2.1⟩)
    clear hn hd hm hc hmb hcr
    go_enter Tryz.func45, Tryz.ntmps45
    go_wp2_with (go_at_call 80; (with_reducible refine (HC.out _).mono ?_); rintro e w1 ⟨rfl, hb⟩; have HB := Lib.hid (bel_tr HH.out.bel hb); clear hb)
    go_ret
    exact ⟨by rw [HR.out]; rfl, HB.out⟩
end Go.Proofs.YtpobhegllhhdgaaGreat
namespace Go.Proofs.YtpobhegllhhdgaaGreat
open Go.RowKit

theorem chn_all : ∀ (k : Nat) (a b : List Int), b.length ≤ k → Cf a → 0 < a.length → Cf b → b.length < a.length → ∀ P ∈ chn a b, Cf P ∧ 0 < P.length ∧ P.length ≤ a.length
  | 0, a, b, h, ha, h0, hb, hl, P, hP => by
    rw [chn_stop (by omega)] at hP
    rw [List.mem_singleton] at hP
    subst hP
    exact ⟨ha, h0, Nat.le_refl _⟩
  | k + 1, a, b, h, ha, h0, hb, hl, P, hP => by
    rcases Nat.eq_zero_or_pos b.length with hb0 | hb0
    · rw [chn_stop hb0] at hP
      rw [List.mem_singleton] at hP
      subst hP
      exact ⟨ha, h0, Nat.le_refl _⟩
    · rw [chn_step hb0] at hP
      rcases List.mem_cons.1 hP with rfl | hP
      · exact ⟨ha, h0, Nat.le_refl _⟩
      · have hs := restP_short (p := a) (q := b) hb0
        have := chn_all k b (negP (restP a b)) (by rw [negP_length]; omega) hb hb0 (negP_cf (restP_cf ha)) (by rw [negP_length]; exact hs) P hP
        exact ⟨this.1, this.2.1, by omega⟩
theorem pg_mem {Ls : List (List Int)} {i : Nat} (h : i < Ls.length) : pg Ls i ∈ Ls := by
  unfold pg
  rw [List.getD_eq_getElem?_getD, List.getElem?_eq_getElem h]
  exact List.getElem_mem h
theorem chn_pos (a b : List Int) : 0 < (chn a b).length := by
  rcases Nat.eq_zero_or_pos b.length with h | h
  · rw [chn_stop h]; simp
  · rw [chn_step h]; simp
theorem chn_zero (a b : List Int) : pg (chn a b) 0 = a := by
  rcases Nat.eq_zero_or_pos b.length with h | h
  · rw [chn_stop h]; rfl
  · rw [chn_step h]; rfl
/-- A polynomial's chain. -/
def chL (L : List Int) : List (List Int) := chn (trz L) (derP L)
theorem derP_length (L : List Int) : (derP L).length = pl L - 1 := by unfold derP; rw [gen_len]
theorem chL_all (L : List Int) (h : 0 < pl L) : ∀ i, i < (chL L).length → Cf (pg (chL L) i) ∧ 0 < (pg (chL L) i).length ∧ (pg (chL L) i).length ≤ pl L := by
  intro i hi
  have := chn_all _ (trz L) (derP L) (Nat.le_refl _) (cf_trz L) (by rw [trz_len]; exact h) (derP_cf L) (by rw [derP_length, trz_len]; omega) _ (pg_mem hi)
  rw [trz_len] at this
  exact this
theorem chL_len (L : List Int) : (chL L).length ≤ pl L + 1 ∧ 0 < (chL L).length := by
  have := chn_len (derP L).length (trz L) (derP L) (Nat.le_refl _)
  rw [derP_length] at this
  exact ⟨by show (chn (trz L) (derP L)).length ≤ _; omega, chn_pos _ _⟩
/-- Two fractions in boxes, and a list of polynomials. -/
structure CtH (w W : World) (n d m c : Int) (v : Value) (Ls : List (List Int)) (D : Nat) : Prop where
  bx : BtH w W n d m c
  ch : Cn .c W v Ls D
section
variable {w W W' : World} {n d m c : Int} {v : Value} {Ls : List (List Int)} {D : Nat}
theorem CtH.next (h : CtH w W n d m c v Ls D) (hb : Below W.heap.size W W') : CtH w W' n d m c v Ls D := ⟨h.bx.next hb, h.ch.bel hb⟩
theorem CtH.drew (h : CtH w W n d m c v Ls D) : CtH w W.drew n d m c v Ls D := h.next ((Below.refl _ _).drew)
end
/-- What Count answers, where all may be. -/
def cntZ (n d m c : Int) (Ls : List (List Int)) : Int := (higC n d Ls : Int) - (lowC m c Ls : Int)
theorem lowC_le (n d : Int) (Ls : List (List Int)) : lowC n d Ls ≤ Ls.length := by have := chg_le 0 (gen Ls.length (lowS n d Ls)); rwa [gen_len] at this
theorem higC_le (n d : Int) (Ls : List (List Int)) : higC n d Ls ≤ Ls.length := by have := chg_le 0 (gen Ls.length (higS n d Ls)); rwa [gen_len] at this
set_option maxRecDepth 100000 in
set_option maxHeartbeats 1000000 in
theorem Count_any (A : Option Addr) (k c0 : Nat) (L : List Int) (l D : Nat) (n d m c : Int) (w : World) (h : Pol .a w (.slice A k c0) L l) (hk : k ≤ 100) (hn : Fit n) (hd : Fit d) (hm : Fit m) (hc : Fit c)
    (hD : (l + 5) * 3 ^ pl L ≤ 3 * D ∨ 13 < pl L) (hD2 : D ≤ 19999) :
    Calls Tryz.prog 16 #[.slice A k c0, .agg #[.int .i64 n, .int .i64 d], .agg #[.int .i64 m, .int .i64 c]] w fun e w' =>
      e = .returned (.tuple #[.int .i64 (if risB n d m c = true then (if fitP L = 0 then cntZ n d m c (chL L) else 0) else 0), .int .i64 (if risB n d m c = true then fitP L else 1)]) ∧ Below w.heap.size w w' := by
  have HH := Lib.hid (BtH.start w n d m c)
  have HR := Lib.hid (fun W => rising_any n d m c W hn hd hm hc)
  have H := Lib.hid h
  obtain ⟨f1, f2, f3, f4⟩ := HH.out.facts
  by_cases hr : risB n d m c = true
  · rw [if_pos hr, if_pos hr]
    rw [hr] at HR
    by_cases hf : fitP L = 0
    · rw [hf, if_pos rfl]
      have hp0 : 0 < pl L := by unfold fitP at hf; split at hf <;> omega
      have hp13 : pl L ≤ 13 := by unfold fitP at hf; split at hf <;> (try split at hf) <;> omega
      have hmb : Maybe n d ∧ Maybe m c := by
        have := of_decide_eq_true hr
        exact ⟨this.1, this.2.1⟩
      have HC := Lib.hid (fun W h => chain_yes A k c0 L l D W h hp0 hp13 hk (hD.resolve_right (by omega)) (by omega))
      obtain ⟨Ls, hLs⟩ : ∃ Ls, Ls = chL L := ⟨_, rfl⟩
      obtain ⟨x, hx⟩ : ∃ x, x = Ls.length := ⟨_, rfl⟩
      have hall := chL_all L hp0
      have hlen := chL_len L
      rw [← hLs] at hall hlen
      have HC := Lib.hid (show ∀ W, Pol .a W (.slice A k c0) L l → Calls Tryz.prog 9 #[.slice A k c0] W (CnE .c Ls D W) from hLs ▸ HC.out)
      rw [← hLs]
      have HX := Lib.hid hx.symm
      have HP1 := Lib.hid (fun W B q (hw : Cn .c W (.slice B x q) Ls D) => placeOf_any B x q Ls D n d W hw (by omega) (fun i hi => by have := hall i (by omega); omega) (fun i hi => by have := hall i (by omega); rw [pl_cf this.1]; omega) (by omega) hD2 hn hd hmb.1)
      have HP2 := Lib.hid (fun W B q (hw : Cn .c W (.slice B x q) Ls D) => placeOf_any B x q Ls D m c W hw (by omega) (fun i hi => by have := hall i (by omega); omega) (fun i hi => by have := hall i (by omega); rw [pl_cf this.1]; omega) (by omega) hD2 hm hc hmb.2)
      have hl1 := lowC_le n d Ls
      have hl2 := higC_le n d Ls
      have hl3 := lowC_le m c Ls
      have hl4 := higC_le m c Ls
      obtain ⟨a1, ha1⟩ : ∃ a, a = lowC n d Ls := ⟨_, rfl⟩
      obtain ⟨a2, ha2⟩ : ∃ a, a = higC n d Ls := ⟨_, rfl⟩
      obtain ⟨a3, ha3⟩ : ∃ a, a = lowC m c Ls := ⟨_, rfl⟩
      obtain ⟨a4, ha4⟩ : ∃ a, a = higC m c Ls := ⟨_, rfl⟩
      obtain ⟨z1, hz1⟩ : ∃ z, z = decide (sgP n d (pg Ls 0) = 0) := ⟨_, rfl⟩
      obtain ⟨z2, hz2⟩ : ∃ z, z = decide (sgP m c (pg Ls 0) = 0) := ⟨_, rfl⟩
      rw [← ha1] at hl1
      rw [← ha2] at hl2
      rw [← ha3] at hl3
      rw [← ha4] at hl4
      rw [← ha1, ← ha2, ← hz1] at HP1
      rw [← ha3, ← ha4, ← hz2] at HP2
      have HZ := Lib.hid (show cntZ n d m c Ls = (a2 : Int) - a3 by unfold cntZ; rw [ha2, ha3])
      have HN := Lib.hid (fun W => count_any n d a1 a2 m c a3 a4 z1 z2 W (by omega) (by omega))
      clear h hn hd hm hc hr hf hD hmb hall hLs hx ha1 ha2 ha3 ha4 hz1 hz2
      go_enter Tryz.func16, Tryz.ntmps16
      go_upto_region 6 with (first
        | (go_at_call 45; (with_reducible refine (HR.out _).mono ?_); rintro e w1 ⟨rfl, hb⟩; have HH := Lib.hid (HH.out.next hb); clear hb f1 f2 f3 f4; obtain ⟨f1, f2, f3, f4⟩ := HH.out.facts)
        | (go_at_call 9; (with_reducible refine (HC.out _ (H.out.bel HH.out.bel)).mono ?_); rintro e w2 ⟨B, q, rfl, hch, hb⟩; rw [HX.out] at hch ⊢; have HS := Lib.hid (show CtH w w2 n d m c (.slice B x q) Ls D from ⟨HH.out.next hb, hch⟩); clear hch hb f1 f2 f3 f4; obtain ⟨f1, f2, f3, f4⟩ := HS.out.bx.facts))
      go_region_held3 (fun w' => w'.cell? ⟨w.heap.size, 0, none⟩ = some (.int .i64 n) ∧ w'.cell? ⟨w.heap.size, 1, none⟩ = some (.int .i64 d) ∧ w'.cell? ⟨w.heap.size + 1, 0, none⟩ = some (.int .i64 m) ∧ w'.cell? ⟨w.heap.size + 1, 1, none⟩ = some (.int .i64 c))
        (first
          | with_reducible exact HS.out.bx.facts
          | with_reducible exact HS.out.drew.bx.facts)
        (first
          | (go_at_call 47; (first | (with_reducible refine (HP1.out _ B q HS.out.ch).mono ?_) | (have HS := Lib.hid HS.out.drew; with_reducible refine (HP1.out _ B q HS.out.ch).mono ?_)); rintro e w3 ⟨rfl, hb⟩; have HS := Lib.hid (HS.out.next hb); clear hb)
          | (go_at_call 47; (first | (with_reducible refine (HP2.out _ B q HS.out.ch).mono ?_) | (have HS := Lib.hid HS.out.drew; with_reducible refine (HP2.out _ B q HS.out.ch).mono ?_)); rintro e w3 ⟨rfl, hb⟩; have HS := Lib.hid (HS.out.next hb); clear hb)
          | (go_at_call 46; (with_reducible refine (HN.out _).mono ?_); rintro e w3 ⟨rfl, hb⟩; have HS := Lib.hid (HS.out.next hb); clear hb))
      all_goals go_wp2_with fail
      all_goals go_ret2
      all_goals exact ⟨by rw [HZ.out]; rfl, HS.out.bx.bel⟩
    · rw [if_neg hf]
      have HC := Lib.hid (fun W h => chain_no A k c0 L l W h hf)
      obtain ⟨z, hz⟩ : ∃ z, z = fitP L := ⟨_, rfl⟩
      rw [← hz] at HC hf ⊢
      have hz0 : (z == 0) = false := by simpa using hf
      clear h hn hd hm hc hr hf hD hz
      go_enter Tryz.func16, Tryz.ntmps16
      go_wp2_with (first
        | (go_at_call 45; (with_reducible refine (HR.out _).mono ?_); rintro e w1 ⟨rfl, hb⟩; have HH := Lib.hid (HH.out.next hb); clear hb f1 f2 f3 f4; obtain ⟨f1, f2, f3, f4⟩ := HH.out.facts)
        | (go_at_call 9; (with_reducible refine (HC.out _ (H.out.bel HH.out.bel)).mono ?_); rintro e w2 ⟨rfl, hb⟩; have HB := Lib.hid (bel_tr HH.out.bel hb); clear hb))
      go_ret2
      exact ⟨rfl, HB.out⟩
  · rw [if_neg hr, if_neg hr]
    have hr2 : risB n d m c = false := by simpa using hr
    rw [hr2] at HR
    clear h hn hd hm hc hr hD hr2
    go_enter Tryz.func16, Tryz.ntmps16
    go_wp2_with (go_at_call 45; (with_reducible refine (HR.out _).mono ?_); rintro e w1 ⟨rfl, hb⟩; have HB := Lib.hid (bel_tr HH.out.bel hb); clear hb)
    go_ret2
    exact ⟨rfl, HB.out⟩
end Go.Proofs.YtpobhegllhhdgaaGreat
namespace Go.Proofs.YtpobhegllhhdgaaGreat
open Go.RowKit

/-- What passes answers. -/
def pasF (n d m c : Int) : Nat → List Int → Int
  | 0, _ => 0
  | f + 1, L => if fitP L ≠ 0 ∨ (chL L).length = 1 then 0 else cntZ n d m c (chL L) - pasF n d m c f (pg (chL L) ((chL L).length - 1))
theorem fit_pos {L : List Int} (h : fitP L = 0) : 0 < pl L ∧ pl L ≤ 13 := by
  unfold fitP at h
  split at h
  · omega
  · split at h <;> omega
theorem chL_last {L : List Int} (h : 0 < pl L) (h1 : (chL L).length ≠ 1) : pl (pg (chL L) ((chL L).length - 1)) < pl L := by
  have hl := chL_len L
  have hd := derP_length L
  rcases Nat.eq_zero_or_pos (derP L).length with h0 | h0
  · exact absurd (by unfold chL; rw [chn_stop h0]; rfl) h1
  · have e : chL L = trz L :: chn (derP L) (negP (restP (trz L) (derP L))) := chn_step h0
    have hs := restP_short (p := trz L) (q := derP L) h0
    have hall := chn_all _ (derP L) (negP (restP (trz L) (derP L))) (Nat.le_refl _) (derP_cf L) h0 (negP_cf (restP_cf (cf_trz L))) (by rw [negP_length]; exact hs)
    have hm : pg (chL L) ((chL L).length - 1) ∈ chn (derP L) (negP (restP (trz L) (derP L))) := by
      have hp := chn_pos (derP L) (negP (restP (trz L) (derP L)))
      have : pg (chL L) ((chL L).length - 1) = pg (chn (derP L) (negP (restP (trz L) (derP L)))) ((chn (derP L) (negP (restP (trz L) (derP L)))).length - 1) := by
        rw [e]
        obtain ⟨j, hj⟩ : ∃ j, (chn (derP L) (negP (restP (trz L) (derP L)))).length = j + 1 := ⟨_, (Nat.sub_add_cancel hp).symm⟩
        simp only [List.length_cons, hj, Nat.add_sub_cancel]
        rfl
      rw [this]
      exact pg_mem (by omega)
    obtain ⟨h2, h3, h4⟩ := hall _ hm
    rw [pl_cf h2]
    omega
theorem cnt_rng (n d m c : Int) {Ls : List (List Int)} (h : Ls.length ≤ 14) : -14 ≤ cntZ n d m c Ls ∧ cntZ n d m c Ls ≤ 14 := by
  have h1 := higC_le n d Ls
  have h2 := lowC_le m c Ls
  unfold cntZ
  omega
theorem pas_rng (n d m c : Int) : ∀ (f : Nat) (L : List Int), -14 * (f : Int) ≤ pasF n d m c f L ∧ pasF n d m c f L ≤ 14 * (f : Int)
  | 0, L => by simp [pasF]
  | f + 1, L => by
    simp only [pasF]
    split
    · omega
    · next h =>
      have hf := fit_pos (L := L) (by
        rcases Decidable.em (fitP L = 0) with h1 | h1
        · exact h1
        · exact absurd (Or.inl h1) h)
      have hl := chL_len L
      have h1 := cnt_rng n d m c (Ls := chL L) (by omega)
      have h2 := pas_rng n d m c f (pg (chL L) ((chL L).length - 1))
      omega
/-- What stands in memory in passes. -/
structure PsH (w W : World) (n d m c : Int) (ad : Addr) (x q0 : Nat) (Ls : List (List Int)) (D y : Nat) (B : Option Addr) (z q : Nat) (L : List Int) (U : Nat) : Prop where
  ct : CtH w W n d m c (.slice (some ad) x q0) Ls D
  al : ad.block < W.heap.size
  cl : W.cell? (ad.add y) = some (.slice B z q)
  po : Pol .c W (.slice B z q) L U
section
variable {w W W' : World} {n d m c : Int} {ad : Addr} {x q0 D y z q U : Nat} {Ls : List (List Int)} {B : Option Addr} {L : List Int}
theorem PsH.next (h : PsH w W n d m c ad x q0 Ls D y B z q L U) (hb : Below W.heap.size W W') : PsH w W' n d m c ad x q0 Ls D y B z q L U :=
  ⟨h.ct.next hb, Nat.lt_of_lt_of_le h.al hb.size, (hb.cell (by rw [block_of_add]; exact h.al)).trans h.cl, h.po.bel hb⟩
theorem PsH.drew (h : PsH w W n d m c ad x q0 Ls D y B z q L U) : PsH w W.drew n d m c ad x q0 Ls D y B z q L U := h.next ((Below.refl _ _).drew)
theorem PsH.facts (h : PsH w W n d m c ad x q0 Ls D y B z q L U) : W.cell? ⟨w.heap.size, 0, none⟩ = some (.int .i64 n) ∧ W.cell? ⟨w.heap.size, 1, none⟩ = some (.int .i64 d) ∧ W.cell? ⟨w.heap.size + 1, 0, none⟩ = some (.int .i64 m) ∧ W.cell? ⟨w.heap.size + 1, 1, none⟩ = some (.int .i64 c) ∧ W.cell? (ad.add y) = some (.slice B z q) :=
  ⟨h.ct.bx.facts.1, h.ct.bx.facts.2.1, h.ct.bx.facts.2.2.1, h.ct.bx.facts.2.2.2, h.cl⟩
end
theorem pot_step {l n U x D : Nat} (hx : x < n) (hU : (U + 3) * 3 ^ x ≤ (l + 5) * 3 ^ n) (hD : (l + 6) * 3 ^ n ≤ 3 * D) : (U + 6) * 3 ^ x ≤ 3 * D := by
  have h1 : 3 ^ (x + 1) ≤ 3 ^ n := Nat.pow_le_pow_right (by omega) hx
  rw [Nat.pow_succ] at h1
  have e1 : (U + 6) * 3 ^ x = (U + 3) * 3 ^ x + 3 * 3 ^ x := by rw [← Nat.add_mul]
  have e2 : (l + 6) * 3 ^ n = (l + 5) * 3 ^ n + 3 ^ n := by rw [show l + 6 = l + 5 + 1 by omega, Nat.add_mul, Nat.one_mul]
  omega
theorem D0_eq {l n : Nat} (h : 0 < n) : (l + 5) * 3 ^ n = 3 * ((l + 5) * 3 ^ (n - 1)) := by
  obtain ⟨j, rfl⟩ : ∃ j, n = j + 1 := ⟨n - 1, by omega⟩
  rw [Nat.add_sub_cancel, Nat.pow_succ, ← Nat.mul_assoc, Nat.mul_comm]
set_option maxRecDepth 100000 in
set_option maxHeartbeats 1000000 in
theorem passes_any (n d m c : Int) (D : Nat) (hn : Fit n) (hd : Fit d) (hm : Fit m) (hc : Fit c) (hm1 : Maybe n d) (hm2 : Maybe m c) (hD2 : D ≤ 19999) : ∀ (f : Nat) (A : Option Addr) (k c0 : Nat) (L : List Int) (l : Nat) (w : World), Pol .a w (.slice A k c0) L l → k ≤ 100 → pl L ≤ f → f ≤ 13 → (l + 6) * 3 ^ pl L ≤ 3 * D →
    Calls Tryz.prog 49 #[.slice A k c0, .agg #[.int .i64 n, .int .i64 d], .agg #[.int .i64 m, .int .i64 c]] w fun e w' => e = .returned (.int .i64 (pasF n d m c f L)) ∧ Below w.heap.size w w' := by
  intro f
  induction f with
  | zero =>
    intro A k c0 L l w h hk hpf hf hD
    have HH := Lib.hid (BtH.start w n d m c)
    obtain ⟨f1, f2, f3, f4⟩ := HH.out.facts
    have H := Lib.hid h
    have hz : fitP L = 13 := by unfold fitP; rw [if_pos (by omega)]
    have HC := Lib.hid (fun W h => chain_no A k c0 L l W h (by omega))
    rw [hz] at HC
    clear h hn hd hm hc hz
    go_enter Tryz.func49, Tryz.ntmps49
    go_wp2_with (go_at_call 9; (with_reducible refine (HC.out _ (H.out.bel HH.out.bel)).mono ?_); rintro e w2 ⟨rfl, hb⟩; have HB := Lib.hid (bel_tr HH.out.bel hb); clear hb)
    go_ret
    exact ⟨rfl, HB.out⟩
  | succ f ih =>
    intro A k c0 L l w h hk hpf hf hD
    have HH := Lib.hid (BtH.start w n d m c)
    obtain ⟨f1, f2, f3, f4⟩ := HH.out.facts
    have H := Lib.hid h
    by_cases hz : fitP L = 0
    · obtain ⟨hp0, hp13⟩ := fit_pos hz
      have hD5 : (l + 5) * 3 ^ pl L ≤ 3 * D := Nat.le_trans (Nat.mul_le_mul_right _ (by omega)) hD
      obtain ⟨D0, hD0⟩ : ∃ D0, D0 = (l + 5) * 3 ^ (pl L - 1) := ⟨_, rfl⟩
      have hD3 : (l + 5) * 3 ^ pl L = 3 * D0 := hD0 ▸ D0_eq hp0
      have hD4 : D0 ≤ D := by omega
      have HC := Lib.hid (fun W h => chain_last A k c0 L l D0 W h hp0 hp13 hk (by omega) (by omega))
      obtain ⟨Ls, hLs⟩ : ∃ Ls, Ls = chL L := ⟨_, rfl⟩
      obtain ⟨x, hx⟩ : ∃ x, x = Ls.length := ⟨_, rfl⟩
      obtain ⟨L2, hL2⟩ : ∃ L2, L2 = pg Ls (x - 1) := ⟨_, rfl⟩
      obtain ⟨z, hz2⟩ : ∃ z, z = L2.length := ⟨_, rfl⟩
      have hall := chL_all L hp0
      have hlen := chL_len L
      have hlast := chL_last hp0
      rw [← hLs] at hall hlen hlast
      rw [← hx] at hlast
      rw [← hL2] at hlast
      have HC := Lib.hid (show ∀ W, Pol .a W (.slice A k c0) L l → Calls Tryz.prog 9 #[.slice A k c0] W (CnF .c Ls D0 W) from hLs ▸ HC.out)
      have HX := Lib.hid (And.intro hx.symm (And.intro hL2.symm hz2.symm))
      have HPA := Lib.hid (show pasF n d m c (f + 1) L = if x = 1 then 0 else cntZ n d m c Ls - pasF n d m c f L2 by
        simp only [pasF]
        rw [← hLs, ← hx, ← hL2]
        simp [hz])
      by_cases hx1 : x = 1
      · have HPA := Lib.hid (show pasF n d m c (f + 1) L = 0 by rw [HPA.out, if_pos hx1])
        have hxi : ((x : Int) == 1) = true := by simp; omega
        clear h hn hd hm hc hD hD5 hD3 hD0 hall hlast hLs hx hL2 hz2 ih hx1
        go_enter Tryz.func49, Tryz.ntmps49
        go_wp2_with (go_at_call 9; (with_reducible refine (HC.out _ (H.out.bel HH.out.bel)).mono ?_); rintro e w2 ⟨B, q, rfl, hch, hb, hlst⟩; rw [HX.out.1]; have HB := Lib.hid (bel_tr HH.out.bel hb); clear hch hb hlst)
        go_ret
        exact ⟨by rw [HPA.out]; rfl, HB.out⟩
      · have HPA := Lib.hid (show pasF n d m c (f + 1) L = cntZ n d m c Ls - pasF n d m c f L2 by rw [HPA.out, if_neg hx1])
        have hxi : ((x : Int) == 1) = false := by simp; omega
        have hlt := hlast hx1
        obtain ⟨y, hy⟩ : ∃ y, y = x - 1 := ⟨_, rfl⟩
        have HX2 := Lib.hid (show Ls.length = x ∧ x - 1 = y ∧ pg Ls y = L2 ∧ L2.length = z from ⟨hx.symm, hy.symm, by rw [hy, ← hL2], hz2.symm⟩)
        have hy1 : (x : Int) - 1 = (y : Int) := by omega
        have hyx : y < x := by omega
        have hw1 : IntKind.i64.wrap (y : Int) = (y : Int) := IntWalk.i64_in _ (by omega)
        have hcf : Cf L2 := by rw [hL2]; exact (hall (x - 1) (by omega)).1
        have hz2L : pl L2 = z := by rw [pl_cf hcf, hz2]
        have hzk : z ≤ 100 := by omega
        have HIH := Lib.hid (fun W B q U (hp : Pol .c W (.slice B z q) L2 U) (hU : (U + 3) * 3 ^ z ≤ 3 * D0) => ih B z q L2 U W hp.any hzk (by omega) (by omega) (by rw [hz2L]; exact pot_step (by omega) (hD3 ▸ hU) hD))
        have HP1 := Lib.hid (fun W B q (hw : Cn .c W (.slice B x q) Ls D0) => placeOf_any B x q Ls D0 n d W hw (by omega) (fun i hi => by have := hall i (by omega); omega) (fun i hi => by have := hall i (by omega); rw [pl_cf this.1]; omega) (by omega) (by omega) hn hd hm1)
        have HP2 := Lib.hid (fun W B q (hw : Cn .c W (.slice B x q) Ls D0) => placeOf_any B x q Ls D0 m c W hw (by omega) (fun i hi => by have := hall i (by omega); omega) (fun i hi => by have := hall i (by omega); rw [pl_cf this.1]; omega) (by omega) (by omega) hm hc hm2)
        have hl1 := lowC_le n d Ls
        have hl2 := higC_le n d Ls
        have hl3 := lowC_le m c Ls
        have hl4 := higC_le m c Ls
        obtain ⟨a1, ha1⟩ : ∃ a, a = lowC n d Ls := ⟨_, rfl⟩
        obtain ⟨a2, ha2⟩ : ∃ a, a = higC n d Ls := ⟨_, rfl⟩
        obtain ⟨a3, ha3⟩ : ∃ a, a = lowC m c Ls := ⟨_, rfl⟩
        obtain ⟨a4, ha4⟩ : ∃ a, a = higC m c Ls := ⟨_, rfl⟩
        obtain ⟨z1, hz1⟩ : ∃ z, z = decide (sgP n d (pg Ls 0) = 0) := ⟨_, rfl⟩
        obtain ⟨z2, hz3⟩ : ∃ z, z = decide (sgP m c (pg Ls 0) = 0) := ⟨_, rfl⟩
        rw [← ha1] at hl1
        rw [← ha2] at hl2
        rw [← ha3] at hl3
        rw [← ha4] at hl4
        rw [← ha1, ← ha2, ← hz1] at HP1
        rw [← ha3, ← ha4, ← hz3] at HP2
        have HZ := Lib.hid (show cntZ n d m c Ls = (a2 : Int) - a3 by unfold cntZ; rw [ha2, ha3])
        have HN := Lib.hid (fun W => count_any n d a1 a2 m c a3 a4 z1 z2 W (by omega) (by omega))
        obtain ⟨p, hp⟩ : ∃ p, p = pasF n d m c f L2 := ⟨_, rfl⟩
        have hpr := pas_rng n d m c f L2
        rw [← hp] at HIH hpr HPA
        obtain ⟨u, hu⟩ : ∃ u : Int, (a2 : Int) - a3 = u := ⟨_, rfl⟩
        have hw2 : IntKind.i64.wrap (u - p) = u - p := IntWalk.i64_in _ (by omega)
        rw [HZ.out, hu] at HPA
        rw [hu] at HN
        clear h hn hd hm hc hD hD5 hD3 hD0 hall hlast hLs hx hL2 hz2 ih hx1 hlt hy hcf hz2L ha1 ha2 ha3 ha4 hz1 hz3 HZ hp hpr hu hl1 hl2 hl3 hl4 hlen
        go_enter Tryz.func49, Tryz.ntmps49
        go_upto_region 4 with (go_at_call 9; (with_reducible refine (HC.out _ (H.out.bel HH.out.bel)).mono ?_); rintro e w2 ⟨B, q, rfl, hch, hb, ad, B2, q2, U, rfl, hal, hcl, hpo, hUU⟩; rw [HX2.out.1] at hch hcl hpo hUU ⊢; rw [HX2.out.2.1, HX2.out.2.2.1, HX2.out.2.2.2] at hcl hpo hUU; have HS := Lib.hid (show PsH w w2 n d m c ad x q Ls D0 y B2 z q2 L2 U from ⟨⟨HH.out.next hb, hch⟩, hal, hcl, hpo⟩); have HU := Lib.hid hUU; clear hch hb hal hcl hpo hUU f1 f2 f3 f4; obtain ⟨f1, f2, f3, f4, f5⟩ := HS.out.facts)
        go_region_held3 (fun w' => w'.cell? ⟨w.heap.size, 0, none⟩ = some (.int .i64 n) ∧ w'.cell? ⟨w.heap.size, 1, none⟩ = some (.int .i64 d) ∧ w'.cell? ⟨w.heap.size + 1, 0, none⟩ = some (.int .i64 m) ∧ w'.cell? ⟨w.heap.size + 1, 1, none⟩ = some (.int .i64 c) ∧ w'.cell? (ad.add y) = some (.slice B2 z q2))
          (first
            | with_reducible exact HS.out.facts
            | with_reducible exact HS.out.drew.facts)
          (first
            | (go_at_call 47; (first | (with_reducible refine (HP1.out _ (some ad) q HS.out.ct.ch).mono ?_) | (have HS := Lib.hid HS.out.drew; with_reducible refine (HP1.out _ (some ad) q HS.out.ct.ch).mono ?_)); rintro e w3 ⟨rfl, hb⟩; have HS := Lib.hid (HS.out.next hb); clear hb)
            | (go_at_call 47; (first | (with_reducible refine (HP2.out _ (some ad) q HS.out.ct.ch).mono ?_) | (have HS := Lib.hid HS.out.drew; with_reducible refine (HP2.out _ (some ad) q HS.out.ct.ch).mono ?_)); rintro e w3 ⟨rfl, hb⟩; have HS := Lib.hid (HS.out.next hb); clear hb)
            | (go_at_call 46; (first | (with_reducible refine (HN.out _).mono ?_)); rintro e w3 ⟨rfl, hb⟩; have HS := Lib.hid (HS.out.next hb); clear hb)
            | (go_at_call 49; (first | (with_reducible refine (HIH.out _ B2 q2 U HS.out.po HU.out).mono ?_) | (have HS := Lib.hid HS.out.drew; with_reducible refine (HIH.out _ B2 q2 U HS.out.po HU.out).mono ?_)); rintro e w3 ⟨rfl, hb⟩; have HS := Lib.hid (HS.out.next hb); clear hb))
        all_goals go_wp2_with fail
        all_goals go_ret
        all_goals exact ⟨by rw [HPA.out]; rfl, HS.out.ct.bx.bel⟩
    · have HC := Lib.hid (fun W h => chain_no A k c0 L l W h hz)
      have HP := Lib.hid (show pasF n d m c (f + 1) L = 0 by simp only [pasF]; rw [if_pos (Or.inl hz)])
      have h136 : fitP L = 13 ∨ fitP L = 6 := by
        unfold fitP at hz ⊢
        split
        · exact .inl rfl
        · next h1 =>
          rw [if_neg h1] at hz
          split at hz
          · next h2 => rw [if_pos h2]; exact .inr rfl
          · exact absurd rfl hz
      rcases h136 with h1 | h1
      all_goals
        rw [h1] at HC
        clear h hn hd hm hc hz h1 ih
        go_enter Tryz.func49, Tryz.ntmps49
        go_wp2_with (go_at_call 9; (with_reducible refine (HC.out _ (H.out.bel HH.out.bel)).mono ?_); rintro e w2 ⟨rfl, hb⟩; have HB := Lib.hid (bel_tr HH.out.bel hb); clear hb)
        go_ret
        exact ⟨by rw [HP.out]; rfl, HB.out⟩
end Go.Proofs.YtpobhegllhhdgaaGreat
namespace Go.Proofs.YtpobhegllhhdgaaGreat
open Go.RowKit

/-- Whether a polynomial is below 0 just above the one, or goes through 0 ahead of the other one. -/
def negB (n d m c : Int) (L : List Int) : Bool := decide ((besP n d (trz L)).2 < 0) || decide (0 < pasF n d m c (pl L) L)
set_option maxRecDepth 100000 in
set_option maxHeartbeats 1000000 in
theorem Negative_any (A : Option Addr) (k c0 : Nat) (L : List Int) (l D : Nat) (n d m c : Int) (w : World) (h : Pol .a w (.slice A k c0) L l) (hk : k ≤ 100) (hn : Fit n) (hd : Fit d) (hm : Fit m) (hc : Fit c)
    (hD : (l + 6) * 3 ^ pl L ≤ 3 * D ∧ l ≤ 19999 ∨ 13 < pl L) (hD2 : D ≤ 19999) :
    Calls Tryz.prog 17 #[.slice A k c0, .agg #[.int .i64 n, .int .i64 d], .agg #[.int .i64 m, .int .i64 c]] w fun e w' =>
      e = .returned (.tuple #[.bool (if risB n d m c = true then (if fitP L = 0 then negB n d m c L else false) else false), .int .i64 (if risB n d m c = true then fitP L else 1)]) ∧ Below w.heap.size w w' := by
  have HH := Lib.hid (BtH.start w n d m c)
  have HR := Lib.hid (fun W => rising_any n d m c W hn hd hm hc)
  have HF := Lib.hid (fun W h => fits_any A k c0 L l W h)
  have H := Lib.hid h
  obtain ⟨f1, f2, f3, f4⟩ := HH.out.facts
  by_cases hr : risB n d m c = true
  · rw [if_pos hr, if_pos hr]
    rw [hr] at HR
    by_cases hf : fitP L = 0
    · rw [hf, if_pos rfl]
      obtain ⟨hp0, hp13⟩ := fit_pos hf
      have hmb : Maybe n d ∧ Maybe m c := by
        have := of_decide_eq_true hr
        exact ⟨this.1, this.2.1⟩
      have hD' := hD.resolve_right (by omega)
      have HB := Lib.hid (fun W h => beside_any A k c0 L l n d W h hk hD'.2 hn hd hmb.1 hp0)
      have HP := Lib.hid (fun W h => passes_any n d m c D hn hd hm hc hmb.1 hmb.2 hD2 (pl L) A k c0 L l W h hk (Nat.le_refl _) hp13 hD'.1)
      obtain ⟨s1, hs1⟩ : ∃ s, s = (besP n d (trz L)).1 := ⟨_, rfl⟩
      obtain ⟨s, hs⟩ : ∃ s, s = (besP n d (trz L)).2 := ⟨_, rfl⟩
      obtain ⟨p, hp⟩ : ∃ p, p = pasF n d m c (pl L) L := ⟨_, rfl⟩
      rw [← hs1, ← hs] at HB
      rw [← hp] at HP
      rw [hf] at HF
      have HN := Lib.hid (show negB n d m c L = (decide (s < 0) || decide (0 < p)) by unfold negB; rw [← hs, ← hp])
      by_cases hneg : s < 0
      · have HN := Lib.hid (show negB n d m c L = true by rw [HN.out, decide_eq_true hneg]; rfl)
        clear h hn hd hm hc hr hf hD hmb hD' hs1 hs hp
        go_enter Tryz.func17, Tryz.ntmps17
        go_wp2_with (first
          | (go_at_call 45; (with_reducible refine (HR.out _).mono ?_); rintro e w1 ⟨rfl, hb⟩; have HH := Lib.hid (HH.out.next hb); clear hb f1 f2 f3 f4; obtain ⟨f1, f2, f3, f4⟩ := HH.out.facts)
          | (go_at_call 29; (with_reducible refine (HF.out _ (H.out.bel HH.out.bel)).mono ?_); rintro e w1 ⟨rfl, hb⟩; have HH := Lib.hid (HH.out.next hb); clear hb f1 f2 f3 f4; obtain ⟨f1, f2, f3, f4⟩ := HH.out.facts)
          | (go_at_call 48; (with_reducible refine (HB.out _ (H.out.bel HH.out.bel)).mono ?_); rintro e w1 ⟨rfl, hb⟩; have HH := Lib.hid (HH.out.next hb); clear hb f1 f2 f3 f4; obtain ⟨f1, f2, f3, f4⟩ := HH.out.facts))
        go_ret2
        exact ⟨by rw [HN.out]; rfl, HH.out.bel⟩
      · clear h hn hd hm hc hr hf hD hmb hD' hs1 hs hp
        go_enter Tryz.func17, Tryz.ntmps17
        go_wp2_with (first
          | (go_at_call 45; (with_reducible refine (HR.out _).mono ?_); rintro e w1 ⟨rfl, hb⟩; have HH := Lib.hid (HH.out.next hb); clear hb f1 f2 f3 f4; obtain ⟨f1, f2, f3, f4⟩ := HH.out.facts)
          | (go_at_call 29; (with_reducible refine (HF.out _ (H.out.bel HH.out.bel)).mono ?_); rintro e w1 ⟨rfl, hb⟩; have HH := Lib.hid (HH.out.next hb); clear hb f1 f2 f3 f4; obtain ⟨f1, f2, f3, f4⟩ := HH.out.facts)
          | (go_at_call 48; (with_reducible refine (HB.out _ (H.out.bel HH.out.bel)).mono ?_); rintro e w1 ⟨rfl, hb⟩; have HH := Lib.hid (HH.out.next hb); clear hb f1 f2 f3 f4; obtain ⟨f1, f2, f3, f4⟩ := HH.out.facts)
          | (go_at_call 49; (with_reducible refine (HP.out _ (H.out.bel HH.out.bel)).mono ?_); rintro e w1 ⟨rfl, hb⟩; have HH := Lib.hid (HH.out.next hb); clear hb f1 f2 f3 f4))
        go_ret2
        exact ⟨by rw [HN.out]; rfl, HH.out.bel⟩
    · rw [if_neg hf]
      obtain ⟨z, hz⟩ : ∃ z, z = fitP L := ⟨_, rfl⟩
      rw [← hz] at HF hf ⊢
      have hz0 : (z == 0) = false := by simpa using hf
      clear h hn hd hm hc hr hf hD hz
      go_enter Tryz.func17, Tryz.ntmps17
      go_wp2_with (first
        | (go_at_call 45; (with_reducible refine (HR.out _).mono ?_); rintro e w1 ⟨rfl, hb⟩; have HH := Lib.hid (HH.out.next hb); clear hb f1 f2 f3 f4; obtain ⟨f1, f2, f3, f4⟩ := HH.out.facts)
        | (go_at_call 29; (with_reducible refine (HF.out _ (H.out.bel HH.out.bel)).mono ?_); rintro e w1 ⟨rfl, hb⟩; have HH := Lib.hid (HH.out.next hb); clear hb f1 f2 f3 f4))
      go_ret2
      exact ⟨rfl, HH.out.bel⟩
  · rw [if_neg hr, if_neg hr]
    have hr2 : risB n d m c = false := by simpa using hr
    rw [hr2] at HR
    clear h hn hd hm hc hr hD hr2
    go_enter Tryz.func17, Tryz.ntmps17
    go_wp2_with (go_at_call 45; (with_reducible refine (HR.out _).mono ?_); rintro e w1 ⟨rfl, hb⟩; have HB := Lib.hid (bel_tr HH.out.bel hb); clear hb)
    go_ret2
    exact ⟨rfl, HB.out⟩
end Go.Proofs.YtpobhegllhhdgaaGreat
