/- Proved here: what the document's Rest answers and leaves in memory. Condition: two polynomials of at most 100 numbers, of at most 2000 and 400 digits, the second one not empty, that lie in memory. -/
import Derived.Test.YtpobhegllhhdgaaGreatRf
import Derived.Test.YtpobhegllhhdgaaGreatQi
namespace Go.Proofs.YtpobhegllhhdgaaGreat
open Go.RowKit

theorem coI_far (M : List Int) (i y z : Nat) : coI M ((i : Int) - (y : Int) + (z : Int)) = if y ≤ i + z then co M (i + z - y) else 0 := by
  unfold coI
  by_cases h : y ≤ i + z
  · rw [if_pos h, if_pos (by omega), show ((i : Int) - (y : Int) + (z : Int)).toNat = i + z - y by omega]
  · rw [if_neg h, if_neg (by omega)]
theorem gen_trz_len (n : Nat) (f : Nat → Int) : (trz (gen n f)).length = pl (gen n f) := trz_len _
/-- Digits that a rest's steps add: K a step, as long as there is one to come. -/
def bs (K m y s : Nat) : Nat := K * (m - max y s)
theorem bs_start (K m s : Nat) : bs K m m s = 0 := by unfold bs; rw [show m - max m s = 0 by omega, Nat.mul_zero]
theorem bs_le (K m y s : Nat) : bs K m y s ≤ K * (m - s) := Nat.mul_le_mul_left K (by omega)
theorem bs_step {K m y s y' : Nat} (h1 : s < y) (h2 : y ≤ m) (h3 : y' < y) : bs K m y s + K ≤ bs K m y' s := by
  unfold bs
  rw [← Nat.mul_succ]
  exact Nat.mul_le_mul_left K (by omega)
set_option maxRecDepth 100000 in
set_option maxHeartbeats 4000000 in
theorem rrest5_any (A B : Option Addr) (m c m2 c2 y2 : Nat) (L M : List Int) (l k : Nat) (w : World) (h : Pol .n w (.slice A m c) L l) (h' : Pol .n w (.slice B m2 c2) M k) (hm : m ≤ 100) (hm2 : m2 ≤ 100) (hl : l + (k + 2) * (m - y2) ≤ 60000) (hk : k ≤ 39000) (hy2 : m2 = y2 + 1) :
    Calls Tryz.prog 36 #[.slice A m c, .slice B m2 c2] w (PolE .n (restP L M) (l + (k + 2) * (m - y2)) w) := by
  have hmL := h.cap.1
  have hmM := h'.cap.1
  obtain ⟨S, hS⟩ : ∃ S, S = (k + 2) * (m - y2) := ⟨_, rfl⟩
  rw [← hS] at hl ⊢
  have HBS := Lib.hid (show ∀ y, bs (k + 2) m y y2 ≤ S from fun y => hS ▸ bs_le _ _ _ _)
  clear hS
  have H := Lib.hid h
  have H' := Lib.hid h'
  have HL := Lib.hid (And.intro hmL hmM)
  have HY2 := Lib.hid hy2
  obtain ⟨bd, bh, Bh, ih, jh, rfl, hbd, hgh⟩ := h'.at_ y2 (by omega)
  obtain ⟨⟨f0, f1⟩, hh⟩ := hgh w (Below.refl _ _)
  obtain ⟨hq, hhq⟩ := (⟨_, rfl⟩ : ∃ hq, hq = co M y2)
  rw [← hhq] at hh
  obtain ⟨hab, hbh⟩ := num_abs hh
  have e1 : (m2 : Int) - 1 = (y2 : Int) := by omega
  have hy2m : y2 < m2 := by omega
  have HH := Lib.hid (And.intro hab hbh)
  have HQ := Lib.hid hhq
  clear h h' hmL hmM hgh hh hab hbh hhq hy2
  go_enter Tryz.func36, Tryz.ntmps36
  go_upto_region 2 with fail
  have HB := Lib.hid (show Bx 69 (w.alloc (.cells #[.bool bh, .slice Bh ih jh] 69)) w.heap.size bh (.slice Bh ih jh) ∧ Below w.heap.size w (w.alloc (.cells #[.bool bh, .slice Bh ih jh] 69)) ∧ El .n (w.alloc (.cells #[.bool bh, .slice Bh ih jh] 69)) (.agg #[.bool false, .slice Bh ih jh]) (absI hq) k from
    ⟨Bx.new 69 w _ _, bel_a _ _, HH.out.1.bel (bel_a _ _)⟩)
  obtain ⟨g5, hg5⟩ : ∃ g5, g5 = w.heap.size := ⟨_, rfl⟩
  obtain ⟨W1, hW1⟩ : ∃ W1, W1 = w.alloc (.cells #[.bool bh, .slice Bh ih jh] 69) := ⟨_, rfl⟩
  have HB := Lib.hid (show Bx 69 W1 g5 bh (.slice Bh ih jh) ∧ Below w.heap.size w W1 ∧ El .n W1 (.agg #[.bool false, .slice Bh ih jh]) (absI hq) k by rw [hW1, hg5]; exact HB.out)
  rw [← hg5, ← hW1]
  clear hg5 hW1 f0 f1
  go_loopw [0] (fun p wr => ∃ (P : List Int) (A1 : Option Addr) (c1 y : Nat), p = .slice A1 y c1 ∧ y = P.length ∧ Pol .n wr (.slice A1 y c1) P (l + bs (k + 2) m y y2) ∧ y ≤ m ∧ restP L M = restP P M ∧ Below W1.heap.size W1 wr) (fun p _ => lenOf p)
  case atStart => exact ⟨L, A, c, m, rfl, HL.out.1, (H.out.bel HB.out.2.1).le (by omega), Nat.le_refl _, rfl, Below.refl _ _⟩
  case round =>
    obtain ⟨wi, hwi⟩ : ∃ W, W = wr := ⟨_, rfl⟩
    subst hwi
    obtain ⟨P, A1, c1, y, rfl, hy, hP, hym, hr, hb⟩ := hrel
    have HB1 := Lib.hid (show Bx 69 wi g5 bh (.slice Bh ih jh) ∧ Below w.heap.size w wi ∧ El .n wi (.agg #[.bool false, .slice Bh ih jh]) (absI hq) k from ⟨HB.out.1.bel hb, bel_tr HB.out.2.1 hb, HB.out.2.2.bel hb⟩)
    have HR := Lib.hid (And.intro hy (And.intro hr hb))
    have HP := Lib.hid hP
    obtain ⟨lp, hlp⟩ : ∃ lp, lp = l + bs (k + 2) m y y2 := ⟨_, rfl⟩
    rw [← hlp] at HP
    have HLP := Lib.hid hlp
    have hlp2 : lp ≤ 60000 := by have := HBS.out y; omega
    clear hy hr hb hP hlp
    by_cases hge : m2 ≤ y
    · obtain ⟨y1, hy1⟩ : ∃ y1, y1 = y - 1 := ⟨_, rfl⟩
      have e3 : (y : Int) - 1 = (y1 : Int) := by omega
      have hy1y : y1 < y := by omega
      obtain ⟨ad, bt, Bt, it, jt, rfl, had, hgt⟩ := HP.out.at_ y1 (by rw [← HR.out.1]; exact hy1y)
      obtain ⟨⟨g0, g1⟩, ht⟩ := hgt _ (Below.refl _ _)
      obtain ⟨tp, htp⟩ : ∃ tp, tp = co P (y - 1) := ⟨_, rfl⟩
      rw [hy1, ← htp] at ht
      have HS := Lib.hid (show Gs wi (wi.alloc (.cells #[.bool bt, .slice Bt it jt] 69)) [(wi.heap.size, bt, Bt, it, jt)] [(.agg #[.bool bt, .slice Bt it jt], tp, lp), (.agg #[.bool false, .slice Bh ih jh], absI hq, k)] (.slice none 0 0) [] (lp + k + 2) from
        (Gs.new (Bs := []) ⟨Below.refl _ _, (fun b hb => by cases hb), (by simp), (fun e he => by
          rcases List.mem_cons.1 he with rfl | he
          · exact ht
          · rcases List.mem_cons.1 he with rfl | he
            · exact HB1.out.2.2
            · cases he), Rn.nil _ _ _⟩ _ _ _ _))
      obtain ⟨F, hF⟩ : ∃ F : Nat → Int, F = fun i => co P i * absI hq - sgI hq ((if y ≤ i + m2 then co M (i + m2 - y) else 0) * tp) := ⟨_, rfl⟩
      have HF := Lib.hid (fun i => congrFun hF i)
      have HST := Lib.hid (show trz (gen y F) = stepR P M from by
        have ha := HL.out.2
        have hb := HR.out.1
        have hc := HY2.out
        rw [← stepR_doc (p := P) (q := M) (by omega) (by omega), hF, ← hb, ← ha, htp, HQ.out, show m2 - 1 = y2 by omega])
      clear ht hgt hF htp hy1
      go_upto_region 5 with fail
      obtain ⟨g7, hg7⟩ : ∃ g7, g7 = wi.heap.size := ⟨_, rfl⟩
      obtain ⟨W2, hW2⟩ : ∃ W2, W2 = wi.alloc (.cells #[.bool bt, .slice Bt it jt] 69) := ⟨_, rfl⟩
      rw [← hW2] at HS ⊢
      rw [← hg7] at HS ⊢
      clear hg7 hW2 g0 g1
      go_wp2_with fail
      go_loopw [6, 8] (fun z i w3 => ∃ j : Nat, i = .int .i64 (j : Int) ∧ j ≤ y ∧ Gs wi w3 [(g7, bt, Bt, it, jt)] [(.agg #[.bool bt, .slice Bt it jt], tp, lp), (.agg #[.bool false, .slice Bh ih jh], absI hq, k)] z (gen j F) (lp + k + 2)) (fun _ i _ => y - (intOf i).toNat)
      case atStart => exact ⟨0, rfl, Nat.zero_le _, HS.out⟩
      case round =>
        obtain ⟨j, rfl, hj, hS⟩ := hrel
        have HS := Lib.hid hS
        clear hS
        by_cases hgo : j < y
        · obtain ⟨ad2, na, Ba, pa, qa, hA2, had2, hga⟩ := HP.out.at_ j (by rw [← HR.out.1]; exact hgo)
          injection hA2 with hA2
          subst hA2
          have HG := Lib.hid hga
          have HHB := Lib.hid (fun (W : World) (hW : Below wi.heap.size wi W) => HB1.out.1.bel hW)
          have hji : (j : Int) < (y : Int) := by omega
          have hj0 : (0 : Int) ≤ (j : Int) := by omega
          have h41 := Lib.hid (fun (W : World) (Bs : List (Nat × Bool × Option Addr × Nat × Nat)) (h : Gs wi W Bs [(.agg #[.bool bt, .slice Bt it jt], tp, lp), (.agg #[.bool false, .slice Bh ih jh], absI hq, k)] u6 (gen j F) (lp + k + 2)) =>
            (show Calls Tryz.prog 70 #[.agg #[.bool na, .slice Ba pa qa], .agg #[.bool false, .slice Bh ih jh]] W (fun e W' => ∃ b B p q, e = .returned (.agg #[.bool b, .slice B p q]) ∧ Gs wi W' Bs [(.agg #[.bool b, .slice B p q], co P j * absI hq, lp + k + 1), (.agg #[.bool bt, .slice Bt it jt], tp, lp), (.agg #[.bool false, .slice Bh ih jh], absI hq, k)] u6 (gen j F) (lp + k + 2)) from
              (rmul_any _ _ _ _ lp k _ (hga W h.bel).2.num_ (El.num_ (h.es (.agg #[.bool false, .slice Bh ih jh], absI hq, k) (by simp))) (by omega) (by omega)).mono (fun e W' he => by
                obtain ⟨b, B, p, q, rfl, he1, hb⟩ := he.open1
                exact ⟨b, B, p, q, rfl, (h.next hb).num he1⟩)))
          have hSF := Lib.hid (fun (W : World) (hW : Below wi.heap.size wi W) => (show W.cell? (ad.add (j * 2)) = some (.bool na) ∧ W.cell? { block := (ad.add (j * 2)).block, off := (ad.add (j * 2)).off + 1 } = some (.slice Ba pa qa) ∧ W.cell? ⟨g5, 1, none⟩ = some (.slice Bh ih jh) from
            ⟨(hga W hW).1.1, (hga W hW).1.2, (HB1.out.1.bel hW).c1⟩))
          clear hga
          go_upto_region 8 with fail
          go_cut [9] from 34 to 41 (fun s wx => ∃ g b B p q, s = .pointer (some ⟨g, 0, none⟩) ∧ Gs wi wx [(g, b, B, p, q), (g7, bt, Bt, it, jt)] [(.agg #[.bool b, .slice B p q], co P j * absI hq, lp + k + 1), (.agg #[.bool bt, .slice Bt it jt], tp, lp), (.agg #[.bool false, .slice Bh ih jh], absI hq, k)] u6 (gen j F) (lp + k + 2))
          case first =>
            go_region_held3 (fun w' => w'.cell? (ad.add (j * 2)) = some (.bool na) ∧ w'.cell? { block := (ad.add (j * 2)).block, off := (ad.add (j * 2)).off + 1 } = some (.slice Ba pa qa) ∧ w'.cell? ⟨g5, 1, none⟩ = some (.slice Bh ih jh))
              (first
                | with_reducible exact hSF.out _ HS.out.bel
                | with_reducible exact hSF.out _ HS.out.drew.bel
                | with_reducible exact hSF.out _ HS.out.alloc.bel
                | with_reducible exact hSF.out _ HS.out.alloc.drew.bel
                | with_reducible exact hSF.out _ HS.out.drew.alloc.bel
                | exact hSF.out _ (HS.out.put).bel
                | exact hSF.out _ (HS.out.new _ _ _ _).bel)
              (first
                | (go_at_call 70; (first | (with_reducible refine (h41.out _ _ HS.out).mono ?_) | (with_reducible refine (h41.out _ _ HS.out.drew).mono ?_) | (with_reducible refine (h41.out _ _ HS.out.drew.alloc).mono ?_) | (with_reducible refine (h41.out _ _ HS.out.alloc.drew).mono ?_)); rintro e w6 ⟨n6, B6, p6, q6, rfl, hL⟩; have HS := Lib.hid hL; (try (have fx := HS.out.facts (List.mem_cons_self); obtain ⟨k0, k1, k2, k3⟩ := fx)); clear hL))
            all_goals go_wp2_with fail
            all_goals go_meet
            all_goals first
              | exact ⟨_, _, _, _, _, rfl, HS.out.put⟩
              | exact ⟨_, _, _, _, _, rfl, HS.out.new _ _ _ _⟩
          case rest =>
            obtain ⟨g9, n9, B9, p9, q9, rfl, hS⟩ := hcut
            have HS := Lib.hid hS
            obtain ⟨D1, hD1⟩ : ∃ D1, D1 = (j : Int) - (y : Int) := ⟨_, rfl⟩
            obtain ⟨D2, hD2⟩ : ∃ D2, D2 = D1 + (m2 : Int) := ⟨_, rfl⟩
            have HD2 := Lib.hid (show coI M D2 = if y ≤ j + m2 then co M (j + m2 - y) else 0 by rw [hD2, hD1]; exact coI_far M j y m2)
            have w1' : IntKind.i64.wrap D1 = D1 := IntWalk.i64_in _ (by omega)
            have w2' : IntKind.i64.wrap D2 = D2 := IntWalk.i64_in _ (by omega)
            have d1' : (j : Int) - (y : Int) = D1 := hD1.symm
            have d2' : D1 + (m2 : Int) = D2 := hD2.symm
            obtain ⟨Es0, hEs0⟩ : ∃ Es0 : List (Value × Int × Nat), Es0 = [(.agg #[.bool n9, .slice B9 p9 q9], co P j * absI hq, lp + k + 1), (.agg #[.bool bt, .slice Bt it jt], tp, lp), (.agg #[.bool false, .slice Bh ih jh], absI hq, k)] := ⟨_, rfl⟩
            have HE0 := Lib.hid hEs0
            rw [← hEs0] at HS
            have h37 := Lib.hid (fun (W : World) (Bs : List (Nat × Bool × Option Addr × Nat × Nat)) (h : Gs wi W Bs Es0 u6 (gen j F) (lp + k + 2)) =>
              (show Calls Tryz.prog 73 #[.slice (some bd) m2 c2, .int .i64 D2] W (fun e W' => ∃ b B p q, e = .returned (.agg #[.bool b, .slice B p q]) ∧ Gs wi W' Bs ((.agg #[.bool b, .slice B p q], coI M D2, k) :: Es0) u6 (gen j F) (lp + k + 2)) from
                (rat_any .n (some bd) m2 c2 M k D2 W (H'.out.bel (bel_tr HB1.out.2.1 h.bel))).mono (fun e W' he => by
                  obtain ⟨b, B, p, q, rfl, he1, hb⟩ := he.open_
                  exact ⟨b, B, p, q, rfl, (h.next hb).num he1⟩)))
            have h41 := Lib.hid (fun (W : World) (Bs : List (Nat × Bool × Option Addr × Nat × Nat)) (b : Bool) (B : Option Addr) (p q : Nat) (h : Gs wi W Bs ((.agg #[.bool b, .slice B p q], coI M D2, k) :: Es0) u6 (gen j F) (lp + k + 2)) =>
              (show Calls Tryz.prog 70 #[.agg #[.bool b, .slice B p q], .agg #[.bool bt, .slice Bt it jt]] W (fun e W' => ∃ b B p q, e = .returned (.agg #[.bool b, .slice B p q]) ∧ Gs wi W' Bs ((.agg #[.bool b, .slice B p q], coI M D2 * tp, k + lp + 1) :: Es0) u6 (gen j F) (lp + k + 2)) from
                (rmul_any _ _ _ _ k lp _ (El.num_ (h.es (.agg #[.bool b, .slice B p q], coI M D2, k) (by simp))) (El.num_ (h.es (.agg #[.bool bt, .slice Bt it jt], tp, lp) (by rw [hEs0]; simp))) (by omega) (by omega)).mono (fun e W' he => by
                  obtain ⟨b, B, p, q, rfl, he1, hb⟩ := he.open1
                  exact ⟨b, B, p, q, rfl, ((h.next hb).nums (fun e he => List.mem_cons_of_mem _ he)).num he1⟩)))
            have hS7 := Lib.hid (fun (W : World) (Bs : List (Nat × Bool × Option Addr × Nat × Nat)) (Es : List (Value × Int × Nat)) (h : Gs wi W Bs Es u6 (gen j F) (lp + k + 2)) (hm : (g7, bt, Bt, it, jt) ∈ Bs) =>
              (show W.cell? ⟨g7, 0, none⟩ = some (.bool bt) ∧ W.cell? ⟨g7, 1, none⟩ = some (.slice Bt it jt) from ⟨(h.facts hm).1, (h.facts hm).2.1⟩))
            clear hS hSF hD1 hD2 hEs0
            go_upto_region 9 with fail
            go_cut [10] from 42 to 52 (fun s wx => ∃ g b B p q, s = .pointer (some ⟨g, 0, none⟩) ∧ Gs wi wx [(g, b, B, p, q), (g9, n9, B9, p9, q9), (g7, bt, Bt, it, jt)] ((.agg #[.bool b, .slice B p q], coI M D2 * tp, k + lp + 1) :: Es0) u6 (gen j F) (lp + k + 2))
            case first =>
              go_region_held3 (fun w' => w'.cell? ⟨g7, 0, none⟩ = some (.bool bt) ∧ w'.cell? ⟨g7, 1, none⟩ = some (.slice Bt it jt))
                (first
                  | (with_reducible refine hS7.out _ _ _ HS.out ?_); simp; done
                  | (with_reducible refine hS7.out _ _ _ HS.out.drew ?_); simp; done
                  | (with_reducible refine hS7.out _ _ _ HS.out.alloc ?_); simp; done
                  | (with_reducible refine hS7.out _ _ _ HS.out.alloc.drew ?_); simp; done
                  | (with_reducible refine hS7.out _ _ _ HS.out.drew.alloc ?_); simp; done
                  | (refine hS7.out _ _ _ HS.out.put ?_); simp; done
                  | (refine hS7.out _ _ _ (HS.out.new _ _ _ _) ?_); simp; done)
                (first
                  | (go_at_call 73; (first | (with_reducible refine (h37.out _ _ HS.out).mono ?_) | (with_reducible refine (h37.out _ _ HS.out.drew).mono ?_) | (with_reducible refine (h37.out _ _ HS.out.drew.alloc).mono ?_) | (with_reducible refine (h37.out _ _ HS.out.alloc.drew).mono ?_)); rintro e w7 ⟨n7, B7, p7, q7, rfl, hL⟩; have HS := Lib.hid hL; clear hL)
                  | (go_at_call 70; (first | (with_reducible refine (h41.out _ _ _ _ _ _ HS.out).mono ?_) | (with_reducible refine (h41.out _ _ _ _ _ _ HS.out.alloc).mono ?_)); rintro e w8 ⟨n8, B8, p8, q8, rfl, hL⟩; have HS := Lib.hid hL; (try (have fx := HS.out.facts (List.mem_cons_self); obtain ⟨k0, k1, k2, k3⟩ := fx)); clear hL))
              all_goals go_wp2_with fail
              all_goals go_meet
              all_goals first
                | exact ⟨_, _, _, _, _, rfl, HS.out.put⟩
                | exact ⟨_, _, _, _, _, rfl, HS.out.new _ _ _ _⟩
            case rest =>
              obtain ⟨g10, n10, B10, p10, q10, rfl, hS⟩ := hcut
              have HS := Lib.hid hS
              clear hS hS7 h41 h37
              have hx5 := HHB.out _ HS.out.bel
              have c0 := hx5.c0
              have c1 := hx5.c1
              obtain ⟨k0, k1, k2, k3⟩ := HS.out.facts (List.mem_cons_self)
              clear hx5
              go_upto_if 54 with fail
              go_cut [10] from 55 to 56 (fun s wx => s = .pointer (some ⟨g10, 0, none⟩) ∧ ∃ b B p q, Gs wi wx [(g10, b, B, p, q), (g9, n9, B9, p9, q9), (g7, bt, Bt, it, jt)] ((.agg #[.bool b, .slice B p q], sgI hq (coI M D2 * tp), k + lp + 1) :: Es0) u6 (gen j F) (lp + k + 2))
              case first =>
                by_cases hneg : hq < 0
                · have hbt : bh = true := by rw [HH.out.2]; exact decide_eq_true hneg
                  have HSG := Lib.hid (show sgI hq (coI M D2 * tp) = -(coI M D2 * tp) by unfold sgI; rw [if_pos hneg])
                  subst hbt
                  clear hneg
                  go_wp2_with (go_at_call 72; (with_reducible refine (rneg_any (.agg #[.bool n10, .slice B10 p10 q10]) (coI M D2 * tp) (k + lp + 1) _ (El.num_ (HS.out.es (.agg #[.bool n10, .slice B10 p10 q10], coI M D2 * tp, k + lp + 1) (List.mem_cons_self)))).mono ?_); rintro e w9 he; obtain ⟨n11, B11, p11, q11, rfl, he1, hb⟩ := he.open1; have HS := Lib.hid (HS.out.next hb); have HE11 := Lib.hid he1; clear he he1 hb k0 k1 k2 k3; obtain ⟨k0, k1, k2, k3⟩ := HS.out.facts (List.mem_cons_self))
                  go_meet
                  refine ⟨rfl, n11, B11, p11, q11, ?_⟩
                  rw [HSG.out]
                  exact ((HS.out.nums (Es' := Es0) (fun e he => List.mem_cons_of_mem _ he)).num HE11.out).put
                · have hbt : bh = false := by rw [HH.out.2]; exact decide_eq_false hneg
                  have HSG := Lib.hid (show sgI hq (coI M D2 * tp) = coI M D2 * tp by unfold sgI; rw [if_neg hneg])
                  subst hbt
                  clear hneg
                  go_wp2_with fail
                  go_meet
                  refine ⟨rfl, n10, B10, p10, q10, ?_⟩
                  rw [HSG.out]
                  exact HS.out
              case rest =>
                obtain ⟨rfl, n12, B12, p12, q12, hS⟩ := hcut
                have HS := Lib.hid hS
                clear hS c0 c1 k0 k1 k2 k3
                have HT := Lib.hid (show gen (j + 1) F = gen j F ++ [co P j * absI hq - sgI hq (coI M D2 * tp)] by rw [gen_snoc, HF.out, HD2.out])
                have HLn := Lib.hid (show (gen j F).length ≤ 1000000 by rw [gen_len]; omega)
                have hE9 := Lib.hid (show (Value.agg #[.bool n9, .slice B9 p9 q9], co P j * absI hq, lp + k + 1) ∈ Es0 by rw [HE0.out]; simp)
                have hEk := Lib.hid (show ∀ e ∈ [(Value.agg #[.bool bt, .slice Bt it jt], tp, lp), (Value.agg #[.bool false, .slice Bh ih jh], absI hq, k)], e ∈ Es0 by rw [HE0.out]; intro e he; exact List.mem_cons_of_mem _ he)
                obtain ⟨k0, k1, k2, k3⟩ := HS.out.facts (List.mem_cons_self)
                obtain ⟨k4, k5, k6, k7⟩ := HS.out.tail.facts (List.mem_cons_self)
                go_wp2_with (first
                  | (go_at_call 74; (with_reducible refine (rsub_any (.agg #[.bool n9, .slice B9 p9 q9]) (.agg #[.bool n12, .slice B12 p12 q12]) (co P j * absI hq) (sgI hq (coI M D2 * tp)) (lp + k + 1) (k + lp + 1) _ (El.num_ (HS.out.es (.agg #[.bool n9, .slice B9 p9 q9], co P j * absI hq, lp + k + 1) (List.mem_cons_of_mem _ hE9.out))) (El.num_ (HS.out.es (.agg #[.bool n12, .slice B12 p12 q12], sgI hq (coI M D2 * tp), k + lp + 1) (List.mem_cons_self))) (by omega) (by omega)).mono ?_); rintro e w9 he; obtain ⟨n13, B13, p13, q13, rfl, he1, hb⟩ := he.open1; have HS := Lib.hid (HS.out.next hb); have HE13 := Lib.hid (he1.le (show max (lp + k + 1) (k + lp + 1) + 1 ≤ lp + k + 2 by omega)); have hbs := HS.out.bel.size; clear he he1 hb)
                  | (at_builtin; go_must (refine wpList_push2 rfl (.tmp 57) (.tmp 61) rfl wi.heap.size u6 (gen j F) (lp + k + 2) n13 B13 p13 q13 (co P j * absI hq - sgI hq (coI M D2 * tp)) rfl HS.out.R HE13.out hbs HLn.out rfl ?_); intro v' w' hP'))
                all_goals
                  exact ⟨⟨j + 1, by simp, by omega, by rw [HT.out]; exact ((HS.out.nums (fun e he => List.mem_cons_of_mem _ (hEk.out e he))).pushed hP').tail.tail⟩, by simp [intOf]; omega⟩
        · obtain rfl : j = y := by omega
          have hPn := HS.out.R.pol
          obtain ⟨A', c', rfl⟩ := hPn.slice
          rw [gen_len] at hPn ⊢
          have HPn := Lib.hid hPn
          have HB2 := Lib.hid HS.out.bel
          clear hPn
          go_wp2_with (go_at_call 28; (with_reducible refine (rtrim_any A' j c' (gen j F) (lp + k + 2) _ HPn.out).mono ?_); rintro e w4 ⟨rfl, hb⟩; have HB2 := Lib.hid (bel_tr HB2.out hb); have HPn := Lib.hid (HPn.out.bel hb); clear hb)
          have hlen := stepR_len P M
          have hlen2 := HST.out
          have hPt := HPn.out.trz
          have hpl : pl (gen j F) = (stepR P M).length := by rw [← HST.out, trz_len]
          rw [HST.out] at hPt
          have ha := HR.out.1
          have hb := HL.out.2
          have hc := HY2.out
          exact ⟨⟨stepR P M, A', c', pl (gen j F), rfl, hpl, hPt.le (by have := HLP.out; have := bs_step (K := k + 2) (m := m) (y := j) (s := y2) (y' := pl (gen j F)) (by omega) (by omega) (by omega); omega), by omega, by rw [HR.out.2.1]; exact restP_step (by omega) (by omega), bel_tr HR.out.2.2 HB2.out⟩, by simp [lenOf]; omega⟩
    · go_wp2_with fail
      go_ret
      have hy := HR.out.1
      have hb := HL.out.2
      rw [HR.out.2.1, restP_stop (by omega)]
      subst hy
      exact ⟨A1, c1, rfl, HP.out.le (by have := HLP.out; have := HBS.out P.length; omega), HB1.out.2.1⟩
end Go.Proofs.YtpobhegllhhdgaaGreat
