/- Proved here: what the document's Lowest of layer 3 answers. Condition: two numbers in their one form, of at most 1000 digits, that lie in memory, the second one not 0. -/
import Derived.Test.YtjjinncecfilpaaDoorXj
import Derived.Deep.LoopGhost
namespace Go.Proofs.YtjjinncecfilpaaDoor
open Go.RowKit

theorem two_bx {W : World} {g h : Nat} {b c : Bool} {v u : Value} (h1 : Bx 65 W g b v) (h2 : Bx 65 W h c u) : W.cell? ⟨g, 0, none⟩ = some (.bool b) ∧ W.cell? ⟨g, 1, none⟩ = some v ∧ W.cell? ⟨h, 0, none⟩ = some (.bool c) ∧ W.cell? ⟨h, 1, none⟩ = some u := ⟨h1.c0, h1.c1, h2.c0, h2.c1⟩
set_option linter.unusedSimpArgs false in
set_option maxHeartbeats 8000000 in
set_option maxRecDepth 100000 in
theorem lowest_core (nn nd : Bool) (An Ad : Option Addr) (rn qn rd qd : Nat) (n d : Int) (l : Nat) (w : World) (hN : NumC w (.agg #[.bool nn, .slice An rn qn]) n l) (hD : NumC w (.agg #[.bool nd, .slice Ad rd qd]) d l) (hl : l ≤ 1000) (hd : d ≠ 0) :
    Calls Tryd.prog 44 #[.agg #[.bool nn, .slice An rn qn], .agg #[.bool nd, .slice Ad rd qd]] w (RatE (low n d) w) := by
  have hw0 := bel_tr (bel_tr (bel_a w (.cells #[.bool nn, .slice An rn qn] 65)) (bel_a _ (.cells #[.bool nd, .slice Ad rd qd] 65))) (bel_a _ (.cells #[.int .i64 0, .int .i64 0] 24))
  have HN := Lib.hid (hN.bel hw0)
  have HD := Lib.hid (hD.bel hw0)
  have HB := Lib.hid (And.intro (((Bx.new 65 w nn (.slice An rn qn)).alloc (.cells #[.bool nd, .slice Ad rd qd] 65)).alloc (.cells #[.int .i64 0, .int .i64 0] 24))
    (And.intro ((Bx.newq (W := w.alloc (.cells #[.bool nn, .slice An rn qn] 65)) (T := 65) (G := w.heap.size + 1) (n := nd) (z := .slice Ad rd qd) (by simp)).alloc (.cells #[.int .i64 0, .int .i64 0] 24))
      (And.intro (Rt.newg (w := (w.alloc (.cells #[.bool nn, .slice An rn qn] 65)).alloc (.cells #[.bool nd, .slice Ad rd qd] 65)) (n := 0) (d := 0) (G := w.heap.size + 1 + 1) (by simp)) hw0)))
  obtain ⟨G, hG⟩ : ∃ G, G = n.natAbs.gcd d.natAbs := ⟨_, rfl⟩
  have hG0 : 0 < G := by rw [hG]; exact Nat.gcd_pos_of_pos_right _ (by omega)
  have HG := Lib.hid (And.intro hG hG0)
  have HD0 := Lib.hid hd
  have f1 := HB.out.1.c0
  have f2 := HB.out.1.c1
  have f3 := HB.out.2.1.c0
  have f4 := HB.out.2.1.c1
  clear hN hD hw0 hG hG0 hd
  go_enter Tryd.func44, Tryd.ntmps44
  go_wp2_with (first
    | (go_at_call 62; (with_reducible refine (absn_any (.agg #[.bool nn, .slice An rn qn]) n l _ HN.out).mono ?_); rintro e w1 ⟨ba, Ca, ra, qa, rfl, hz, hb⟩; have e1 := hb.size; have hb := bel_tr hb (bel_a w1 (.cells #[.bool ba, .slice Ca ra qa] 65)); have HN := Lib.hid (HN.out.bel hb); have HD := Lib.hid (HD.out.bel hb); have HB := Lib.hid (And.intro (HB.out.1.bel hb) (And.intro (HB.out.2.1.bel hb) (And.intro (HB.out.2.2.1.bel hb) (bel_tr HB.out.2.2.2 hb)))); have HA := Lib.hid (And.intro (Bx.new 65 w1 ba (.slice Ca ra qa)) (And.intro (NumC.bel hz (bel_a w1 (.cells #[.bool ba, .slice Ca ra qa] 65))) (show w.heap.size + 1 + 1 < w1.heap.size by rw [size_a, size_a, size_a] at e1; omega))); clear f1 f2 f3 f4 hz hb e1; have f1 := HB.out.1.c0; have f2 := HB.out.1.c1; have f3 := HB.out.2.1.c0; have f4 := HB.out.2.1.c1)
    | (go_at_call 62; (with_reducible refine (absn_any (.agg #[.bool nd, .slice Ad rd qd]) d l _ HD.out).mono ?_); rintro e w2 ⟨bb, Cb, rb, qb, rfl, hz, hb⟩; have e2 := hb.size; have hb := bel_tr hb (bel_a w2 (.cells #[.bool bb, .slice Cb rb qb] 65));
       have L0 := Lib.hid (show LtH w (w2.alloc (.cells #[.bool bb, .slice Cb rb qb] 65)) w1.heap.size w2.heap.size nn (.slice An rn qn) nd (.slice Ad rd qd) n d l ba (.slice Ca ra qa) bb (.slice Cb rb qb) n.natAbs d.natAbs from
         ⟨HB.out.1.bel hb, HB.out.2.1.bel hb, HB.out.2.2.1.bel hb, HN.out.bel hb, HD.out.bel hb, HA.out.1.bel hb, HA.out.2.1.bel hb, Bx.new 65 w2 bb (.slice Cb rb qb), NumC.bel hz (bel_a w2 (.cells #[.bool bb, .slice Cb rb qb] 65)), HA.out.2.2, by rw [size_a] at e2; omega, bel_tr HB.out.2.2.2 hb⟩);
       clear f1 f2 f3 f4 hz hb e2))
  clear HN HD HB HA
  go_loopg [8, 9] (d.natAbs) (fun k s t wr => ∃ (ba : Bool) (Ca : Option Addr) (ra qa : Nat) (bb : Bool) (Cb : Option Addr) (rb qb A B : Nat), k = B ∧ A.gcd B = G ∧ LtH w wr w1.heap.size w2.heap.size nn (.slice An rn qn) nd (.slice Ad rd qd) n d l ba (.slice Ca ra qa) bb (.slice Cb rb qb) A B)
  case atStart => exact ⟨ba, Ca, ra, qa, bb, Cb, rb, qb, _, _, rfl, HG.out.1.symm, L0.out⟩
  case round =>
    clear L0
    obtain ⟨ba, Ca, ra, qa, bb, Cb, rb, qb, A, B, hk, hAB, hr⟩ := hrel
    have HK := Lib.hid (And.intro hk hAB)
    have L := Lib.hid hr
    obtain ⟨f1, f2, f3, f4, f5, f6, f7, f8⟩ := hr.facts
    clear hk hAB hr
    rcases Nat.eq_zero_or_pos B with hB | hB
    · subst hB
      have HAG := Lib.hid (show A = G by rw [← HK.out.2, Nat.gcd_zero_right])
      go_upto_region 7 with (go_at_call 63; (with_reducible refine (rsign_any (.agg #[.bool bb, .slice Cb rb qb]) ((0 : Nat) : Int) l _ L.out.Nb).mono ?_); rintro e w3 ⟨he, hb⟩; (have e0 : sgn ((0 : Nat) : Int) = 0 := by decide); rw [e0] at he; subst he; have L := Lib.hid (L.out.next hb); clear f1 f2 f3 f4 f5 f6 f7 f8 hb e0; obtain ⟨f1, f2, f3, f4, f5, f6, f7, f8⟩ := L.out.facts)
      have HA0 := Lib.hid (show 0 < A by rw [HAG.out]; exact HG.out.2)
      clear f1 f2 f3 f4 f5 f6 f7 f8
      obtain ⟨f1, f2, f3, f4, f5, f6, f7, f8⟩ := L.out.facts
      have KP := Lib.hid (LtH.pk (w := w) (ga := w1.heap.size) (gb := w2.heap.size) (nn := nn) (vn := .slice An rn qn) (nd := nd) (vd := .slice Ad rd qd) (n := n) (d := d) (l := l) (ba := ba) (va := .slice Ca ra qa) (bb := bb) (vb := .slice Cb rb qb) (A := A) (B := 0) L.out.b.lt L.out.hga L.out.hgb)
      have D := Lib.hid (EbH.start (P := (fun W => LtH w W w1.heap.size w2.heap.size nn (.slice An rn qn) nd (.slice Ad rd qd) n d l ba (.slice Ca ra qa) bb (.slice Cb rb qb) A 0)) (lo := w3.heap.size) (W := w3) L.out (Nat.le_refl _))
      have hl1 := D.out.H.pn.lt
      have hl2 := D.out.H.pd.lt
      have hl3 := D.out.H.a.lt
      go_cut [10, 11] from 33 to 40 (fun s t wx => ∃ (gz : Nat) (bz : Bool) (Cz : Option Addr) (rz qz : Nat) (gu : Nat), s = .pointer (some ⟨gz, 0, none⟩) ∧ t = .pointer (some ⟨gu, 0, none⟩) ∧ ObH (fun W => LtH w W w1.heap.size w2.heap.size nn (.slice An rn qn) nd (.slice Ad rd qd) n d l ba (.slice Ca ra qa) bb (.slice Cb rb qb) A 0) w3.heap.size wx gz bz (.slice Cz rz qz) ((n.natAbs / A : Nat) : Int) l)
      case first =>
        go_region_held3 (fun w' => w'.cell? ⟨w.heap.size, 0, none⟩ = some (.bool nn) ∧ w'.cell? ⟨w.heap.size, 1, none⟩ = some (.slice An rn qn) ∧ w'.cell? ⟨w1.heap.size, 0, none⟩ = some (.bool ba) ∧ w'.cell? ⟨w1.heap.size, 1, none⟩ = some (.slice Ca ra qa))
          (first | (refine two_bx ?_ ?_ <;> (repeat (first | with_reducible exact M.out.H.pn | with_reducible exact M.out.H.a | with_reducible exact K.out.H.pn | with_reducible exact K.out.H.a | with_reducible exact D.out.H.pn | with_reducible exact D.out.H.a | with_reducible refine Bx.drew ?_ | with_reducible refine Bx.alloc ?_ _ | (with_reducible refine Bx.far2_ ?_ (by omega)))); done) | go_keep)
          (first
            | (go_at_call 62; (with_reducible refine (absn_any (.agg #[.bool nn, .slice An rn qn]) n l _ ((EbH.drew KP.out (D.out))).H.Nn).mono ?_); rintro e w4 ⟨b4, C4, r4, q4, rfl, hz, hb⟩; have HZ1 := Lib.hid hz; have K := Lib.hid (EbH.next KP.out ((EbH.drew KP.out (D.out))) hb); clear hz hb)
            | (go_at_call 62; (with_reducible refine (absn_any (.agg #[.bool nn, .slice An rn qn]) n l _ ((EbH.drew KP.out ((EbH.alloc KP.out (D.out))))).H.Nn).mono ?_); rintro e w4 ⟨b4, C4, r4, q4, rfl, hz, hb⟩; have HZ1 := Lib.hid hz; have K := Lib.hid (EbH.next KP.out ((EbH.drew KP.out ((EbH.alloc KP.out (D.out))))) hb); clear hz hb)
            | (go_at_call 62; (with_reducible refine (absn_any (.agg #[.bool nn, .slice An rn qn]) n l _ ((EbH.drew KP.out ((EbH.alloc KP.out ((EbH.alloc KP.out (D.out))))))).H.Nn).mono ?_); rintro e w4 ⟨b4, C4, r4, q4, rfl, hz, hb⟩; have HZ1 := Lib.hid hz; have K := Lib.hid (EbH.next KP.out ((EbH.drew KP.out ((EbH.alloc KP.out ((EbH.alloc KP.out (D.out))))))) hb); clear hz hb)
            | (go_at_call 64; (with_reducible refine (divide_pt (.agg #[.bool b4, .slice C4 r4 q4]) (.agg #[.bool ba, .slice Ca ra qa]) n.natAbs A l l _ (HZ1.out) (K.out).H.Na hl hl HA0.out).mono ?_); rintro e w5 ⟨b5, C5, r5, q5, b6, C6, r6, q6, rfl, hX, hY, hb⟩; have NX := Lib.hid hX; have M := Lib.hid (EbH.next KP.out (K.out) hb); clear hX hY hb; have hlo5 := M.out.hlo; have hlo := M.out.los; have hfs := M.out.fs; have hpw := M.out.pw; simp only [List.forall_mem_cons, List.pairwise_cons, List.Pairwise.nil, List.not_mem_nil, false_implies, implies_true, and_true, size_a] at hlo hfs hpw)
            | (go_at_call 64; (with_reducible refine (divide_pt (.agg #[.bool b4, .slice C4 r4 q4]) (.agg #[.bool ba, .slice Ca ra qa]) n.natAbs A l l _ (HZ1.out.bel (bel_a _ _)) ((EbH.alloc KP.out (K.out))).H.Na hl hl HA0.out).mono ?_); rintro e w5 ⟨b5, C5, r5, q5, b6, C6, r6, q6, rfl, hX, hY, hb⟩; have NX := Lib.hid hX; have M := Lib.hid (EbH.next KP.out ((EbH.alloc KP.out (K.out))) hb); clear hX hY hb; have hlo5 := M.out.hlo; have hlo := M.out.los; have hfs := M.out.fs; have hpw := M.out.pw; simp only [List.forall_mem_cons, List.pairwise_cons, List.Pairwise.nil, List.not_mem_nil, false_implies, implies_true, and_true, size_a] at hlo hfs hpw)
            | (go_at_call 64; (with_reducible refine (divide_pt (.agg #[.bool b4, .slice C4 r4 q4]) (.agg #[.bool ba, .slice Ca ra qa]) n.natAbs A l l _ ((HZ1.out.bel (bel_a _ _)).bel (bel_a _ _)) ((EbH.alloc KP.out ((EbH.alloc KP.out (K.out))))).H.Na hl hl HA0.out).mono ?_); rintro e w5 ⟨b5, C5, r5, q5, b6, C6, r6, q6, rfl, hX, hY, hb⟩; have NX := Lib.hid hX; have M := Lib.hid (EbH.next KP.out ((EbH.alloc KP.out ((EbH.alloc KP.out (K.out))))) hb); clear hX hY hb; have hlo5 := M.out.hlo; have hlo := M.out.los; have hfs := M.out.fs; have hpw := M.out.pw; simp only [List.forall_mem_cons, List.pairwise_cons, List.Pairwise.nil, List.not_mem_nil, false_implies, implies_true, and_true, size_a] at hlo hfs hpw))
        all_goals
          go_wp2_with fail
          go_meet
          refine ⟨_, b5, C5, r5, q5, _, rfl, rfl, ?_⟩
          first
            | with_reducible exact EbH.fin1 KP.out M.out NX.out
            | with_reducible exact EbH.fin2 KP.out M.out NX.out
            | with_reducible exact EbH.fin KP.out M.out (by simp [size_a]) (by simp [size_a]) (by omega) NX.out
            | with_reducible exact EbH.fin KP.out (EbH.alloc KP.out M.out) (by simp [size_a]) (by simp [size_a]) (by omega) (NX.out.bel (bel_a _ _))
            | with_reducible exact EbH.fin5 KP.out M.out (by simp [size_a]) NX.out
      case rest =>
        obtain ⟨gx, bx, Cx, rx, qx, gq, rfl, rfl, hcut⟩ := hcut
        obtain ⟨W1, hW1⟩ : ∃ W1, W1 = wc := ⟨_, rfl⟩
        subst wc
        have h1 := Lib.hid hcut
        have hl5 := hcut.hlo
        have hl6 := hcut.X.lt
        have hl7 := L.out.b.lt
        have hl8 := L.out.hga
        have hl9 := L.out.hgb
        clear hcut D f1 f2 f3 f4 f5 f6 f7 f8 hl1 hl2 hl3
        have f1 := h1.out.H.pd.c0
        have f2 := h1.out.H.pd.c1
        have f3 := h1.out.H.a.c0
        have f4 := h1.out.H.a.c1
        go_upto_region 8 with fail
        have KP := Lib.hid (ObH.pk (lo' := W1.heap.size) (g := gx) (l := l) (b := bx) (v := .slice Cx rx qx) (x := ((n.natAbs / A : Nat) : Int)) KP.out h1.out.X.lt (Nat.le_of_lt (Nat.lt_of_le_of_lt h1.out.hlo h1.out.X.lt)))
        have D := Lib.hid (EbH.start (P := (fun W => ObH (fun W => LtH w W w1.heap.size w2.heap.size nn (.slice An rn qn) nd (.slice Ad rd qd) n d l ba (.slice Ca ra qa) bb (.slice Cb rb qb) A 0) w3.heap.size W gx bx (.slice Cx rx qx) ((n.natAbs / A : Nat) : Int) l)) (lo := W1.heap.size) (W := W1) h1.out (Nat.le_refl _))
        have hl1 := D.out.H.H.pn.lt
        have hl2 := D.out.H.H.pd.lt
        have hl3 := D.out.H.H.a.lt
        go_cut [12, 13] from 40 to 47 (fun s t wx => ∃ (gz : Nat) (bz : Bool) (Cz : Option Addr) (rz qz : Nat) (gu : Nat), s = .pointer (some ⟨gz, 0, none⟩) ∧ t = .pointer (some ⟨gu, 0, none⟩) ∧ ObH (fun W => ObH (fun W => LtH w W w1.heap.size w2.heap.size nn (.slice An rn qn) nd (.slice Ad rd qd) n d l ba (.slice Ca ra qa) bb (.slice Cb rb qb) A 0) w3.heap.size W gx bx (.slice Cx rx qx) ((n.natAbs / A : Nat) : Int) l) W1.heap.size wx gz bz (.slice Cz rz qz) ((d.natAbs / A : Nat) : Int) l)
        case first =>
          go_region_held3 (fun w' => w'.cell? ⟨w.heap.size + 1, 0, none⟩ = some (.bool nd) ∧ w'.cell? ⟨w.heap.size + 1, 1, none⟩ = some (.slice Ad rd qd) ∧ w'.cell? ⟨w1.heap.size, 0, none⟩ = some (.bool ba) ∧ w'.cell? ⟨w1.heap.size, 1, none⟩ = some (.slice Ca ra qa))
            (first | (refine two_bx ?_ ?_ <;> (repeat (first | with_reducible exact M.out.H.H.pd | with_reducible exact M.out.H.H.a | with_reducible exact K.out.H.H.pd | with_reducible exact K.out.H.H.a | with_reducible exact D.out.H.H.pd | with_reducible exact D.out.H.H.a | with_reducible refine Bx.drew ?_ | with_reducible refine Bx.alloc ?_ _ | (with_reducible refine Bx.far2_ ?_ (by omega)))); done) | go_keep)
            (first
              | (go_at_call 62; (with_reducible refine (absn_any (.agg #[.bool nd, .slice Ad rd qd]) d l _ ((EbH.drew KP.out (D.out))).H.H.Nd).mono ?_); rintro e w6 ⟨b4, C4, r4, q4, rfl, hz, hb⟩; have HZ1 := Lib.hid hz; have K := Lib.hid (EbH.next KP.out ((EbH.drew KP.out (D.out))) hb); clear hz hb)
              | (go_at_call 62; (with_reducible refine (absn_any (.agg #[.bool nd, .slice Ad rd qd]) d l _ ((EbH.drew KP.out ((EbH.alloc KP.out (D.out))))).H.H.Nd).mono ?_); rintro e w6 ⟨b4, C4, r4, q4, rfl, hz, hb⟩; have HZ1 := Lib.hid hz; have K := Lib.hid (EbH.next KP.out ((EbH.drew KP.out ((EbH.alloc KP.out (D.out))))) hb); clear hz hb)
              | (go_at_call 62; (with_reducible refine (absn_any (.agg #[.bool nd, .slice Ad rd qd]) d l _ ((EbH.drew KP.out ((EbH.alloc KP.out ((EbH.alloc KP.out (D.out))))))).H.H.Nd).mono ?_); rintro e w6 ⟨b4, C4, r4, q4, rfl, hz, hb⟩; have HZ1 := Lib.hid hz; have K := Lib.hid (EbH.next KP.out ((EbH.drew KP.out ((EbH.alloc KP.out ((EbH.alloc KP.out (D.out))))))) hb); clear hz hb)
              | (go_at_call 64; (with_reducible refine (divide_pt (.agg #[.bool b4, .slice C4 r4 q4]) (.agg #[.bool ba, .slice Ca ra qa]) d.natAbs A l l _ (HZ1.out) (K.out).H.H.Na hl hl HA0.out).mono ?_); rintro e w7 ⟨b5, C5, r5, q5, b6, C6, r6, q6, rfl, hX, hY, hb⟩; have NX := Lib.hid hX; have M := Lib.hid (EbH.next KP.out (K.out) hb); clear hX hY hb; have hlo5 := M.out.hlo; have hlo := M.out.los; have hfs := M.out.fs; have hpw := M.out.pw; simp only [List.forall_mem_cons, List.pairwise_cons, List.Pairwise.nil, List.not_mem_nil, false_implies, implies_true, and_true, size_a] at hlo hfs hpw)
              | (go_at_call 64; (with_reducible refine (divide_pt (.agg #[.bool b4, .slice C4 r4 q4]) (.agg #[.bool ba, .slice Ca ra qa]) d.natAbs A l l _ (HZ1.out.bel (bel_a _ _)) ((EbH.alloc KP.out (K.out))).H.H.Na hl hl HA0.out).mono ?_); rintro e w7 ⟨b5, C5, r5, q5, b6, C6, r6, q6, rfl, hX, hY, hb⟩; have NX := Lib.hid hX; have M := Lib.hid (EbH.next KP.out ((EbH.alloc KP.out (K.out))) hb); clear hX hY hb; have hlo5 := M.out.hlo; have hlo := M.out.los; have hfs := M.out.fs; have hpw := M.out.pw; simp only [List.forall_mem_cons, List.pairwise_cons, List.Pairwise.nil, List.not_mem_nil, false_implies, implies_true, and_true, size_a] at hlo hfs hpw)
              | (go_at_call 64; (with_reducible refine (divide_pt (.agg #[.bool b4, .slice C4 r4 q4]) (.agg #[.bool ba, .slice Ca ra qa]) d.natAbs A l l _ ((HZ1.out.bel (bel_a _ _)).bel (bel_a _ _)) ((EbH.alloc KP.out ((EbH.alloc KP.out (K.out))))).H.H.Na hl hl HA0.out).mono ?_); rintro e w7 ⟨b5, C5, r5, q5, b6, C6, r6, q6, rfl, hX, hY, hb⟩; have NX := Lib.hid hX; have M := Lib.hid (EbH.next KP.out ((EbH.alloc KP.out ((EbH.alloc KP.out (K.out))))) hb); clear hX hY hb; have hlo5 := M.out.hlo; have hlo := M.out.los; have hfs := M.out.fs; have hpw := M.out.pw; simp only [List.forall_mem_cons, List.pairwise_cons, List.Pairwise.nil, List.not_mem_nil, false_implies, implies_true, and_true, size_a] at hlo hfs hpw))
          all_goals
            go_wp2_with fail
            go_meet
            refine ⟨_, b5, C5, r5, q5, _, rfl, rfl, ?_⟩
            first
              | with_reducible exact EbH.fin1 KP.out M.out NX.out
              | with_reducible exact EbH.fin2 KP.out M.out NX.out
              | with_reducible exact EbH.fin KP.out M.out (by simp [size_a]) (by simp [size_a]) (by omega) NX.out
              | with_reducible exact EbH.fin KP.out (EbH.alloc KP.out M.out) (by simp [size_a]) (by simp [size_a]) (by omega) (NX.out.bel (bel_a _ _))
              | with_reducible exact EbH.fin5 KP.out M.out (by simp [size_a]) NX.out
        case rest =>
          obtain ⟨gy, b_y, Cy, ry, qy, gr, rfl, rfl, hcut⟩ := hcut
          have hlo2 := hcut.hlo
          have H := Lib.hid (show FnH w wc nn (.slice An rn qn) nd (.slice Ad rd qd) n d l gx bx (.slice Cx rx qx) gy b_y (.slice Cy ry qy) (((n.natAbs / A : Nat) : Int)) (((d.natAbs / A : Nat) : Int)) from
            ⟨hcut.H.H.pn, hcut.H.H.pd, hcut.H.H.rr, hcut.H.H.Nn, hcut.H.H.Nd, hcut.H.X, hcut.H.N, hcut.X, hcut.N, by omega, by omega, by omega, hcut.H.H.bel⟩)
          clear hcut D hl1 hl2 hl3 h1 KP L
          obtain ⟨W2, hW2⟩ : ∃ W2, W2 = wc := ⟨_, rfl⟩
          subst wc
          clear f1 f2 f3 f4
          obtain ⟨f1, f2, f3, f4⟩ := H.out.facts
          have HLX := Lib.hid (negq_sv n d HD0.out (n.natAbs / A) (fun h => by rw [h]; simp))
          obtain ⟨s1, hs1⟩ : ∃ s1, s1 = sgn n := ⟨_, rfl⟩
          obtain ⟨s2, hs2⟩ : ∃ s2, s2 = sgn d := ⟨_, rfl⟩
          have HS1 := Lib.hid hs1
          have HS2 := Lib.hid hs2
          have hsb : ∀ z : Int, -1 ≤ sgn z ∧ sgn z ≤ 1 := fun z => by unfold sgn cmpI; split <;> (try split) <;> omega
          obtain ⟨t, ht⟩ : ∃ t, t = s1 * s2 := ⟨_, rfl⟩
          have htb : -1 ≤ t ∧ t ≤ 1 := by
            have a1 := hsb n
            have a2 := hsb d
            rw [← hs1] at a1
            rw [← hs2] at a2
            have c1 : s1 = -1 ∨ s1 = 0 ∨ s1 = 1 := by omega
            rcases c1 with c | c | c <;> (rw [c] at ht; omega)
          have FT : IntKind.i64.wrap (s1 * s2) = t := by rw [← ht]; exact IntWalk.i64_in _ (by omega)
          have HNQ := Lib.hid (show negq n d = decide (t < 0) by unfold negq; rw [← hs1, ← hs2, ← ht])
          clear hs1 hs2 hsb ht htb
          obtain ⟨Y, hY⟩ : ∃ Y, Y = ((d.natAbs / A : Nat) : Int) := ⟨_, rfl⟩
          rw [← hY] at H
          obtain ⟨X, hX⟩ : ∃ X, X = lowN n d := ⟨_, rfl⟩
          have hXe : X = sv (negq n d) (n.natAbs / A) := by rw [hX, HLX.out, HAG.out, HG.out.1]; rfl
          have HLO := Lib.hid (show low n d = if Fit X ∧ Fit Y then (X, Y, 0) else (0, 0, 2) by unfold low lowD; rw [← hX, hY, HAG.out, HG.out.1])
          have HXE := Lib.hid hXe
          clear hY hX hXe
          by_cases htn : t < 0
          · have hdt : decide (t < 0) = true := decide_eq_true htn
            rw [HNQ.out, hdt] at HXE
            have HXV := Lib.hid (show -(((n.natAbs / A : Nat) : Int)) = X by rw [HXE.out, sv_true])
            clear htn
            go_wp2_with fail
            go_region_held3 (fun w' => w'.cell? ⟨w.heap.size, 0, none⟩ = some (.bool nn) ∧ w'.cell? ⟨w.heap.size, 1, none⟩ = some (.slice An rn qn) ∧ w'.cell? ⟨w.heap.size + 1, 0, none⟩ = some (.bool nd) ∧ w'.cell? ⟨w.heap.size + 1, 1, none⟩ = some (.slice Ad rd qd))
              (first | with_reducible exact H.out.facts | with_reducible exact H.out.drew.facts | go_keep)
              (first
                | (go_at_call 63; (with_reducible refine (rsign_any (.agg #[.bool nn, .slice An rn qn]) n l _ H.out.drew.Nn).mono ?_); rintro e w11 ⟨he, hb⟩; rw [← HS1.out] at he; subst he; have H := Lib.hid (H.out.drew.next hb); clear hb)
                | (go_at_call 63; (with_reducible refine (rsign_any (.agg #[.bool nd, .slice Ad rd qd]) d l _ H.out.Nd).mono ?_); rintro e w12 ⟨he, hb⟩; rw [← HS2.out] at he; subst he; have H := Lib.hid (H.out.next hb); clear hb))
            all_goals
              obtain ⟨k1, k2, k3, k4, k5, k6⟩ := H.out.xy
              clear f1 f2 f3 f4
              go_upto_region 11 with (go_at_call 65; (with_reducible refine (rneg_any (.agg #[.bool bx, .slice Cx rx qx]) _ l _ H.out.NX).mono ?_); rintro e w8 he; obtain ⟨b8, C8, r8, q8, z8, rfl, hs, hb⟩ := he.open_; have H := Lib.hid (H.out.next hb); clear k1 k2 k3 k4 k5 k6; obtain ⟨k1, k2, k3, k4, k5, k6⟩ := H.out.xy; have H := Lib.hid (FnH.putx (m := b8) (z := .slice C8 r8 q8) H.out ⟨b8, _, z8, rfl, hs⟩); clear he hs hb)
              rw [HXV.out] at H
              clear k1 k2 k3 k4 k5 k6
              obtain ⟨k1, k2, k3, k4, k5, k6⟩ := H.out.xy
              by_cases hf1 : Fit X
              · by_cases hf2 : Fit Y
                · have e1 : decide (Fit X) = true := decide_eq_true hf1
                  have e2 : decide (Fit Y) = true := decide_eq_true hf2
                  have HF1 := Lib.hid hf1
                  have HF2 := Lib.hid hf2
                  have E1 := Lib.hid e1
                  have E2 := Lib.hid e2
                  clear hf1 hf2 e1 e2
                  go_wp2_with (first
                    | (go_at_call 57; (with_reducible refine (smalln_any (.agg #[.bool b8, .slice C8 r8 q8]) X l _ H.out.NX (by omega)).mono ?_); rintro e w9 ⟨⟨v1, he, hv1, _⟩, hb⟩; rw [E1.out] at he; subst he; have HV1 := Lib.hid hv1; have H := Lib.hid (H.out.next hb); clear k1 k2 k3 k4 k5 k6 hv1 hb; obtain ⟨k1, k2, k3, k4, k5, k6⟩ := H.out.xy)
                    | (go_at_call 57; (with_reducible refine (smalln_any (.agg #[.bool b_y, .slice Cy ry qy]) Y l _ H.out.NY (by omega)).mono ?_); rintro e w10 ⟨⟨v2, he, hv2, _⟩, hb⟩; rw [E2.out] at he; subst he; have HV2 := Lib.hid hv2; have H := Lib.hid (H.out.next hb); clear k1 k2 k3 k4 k5 k6 hv2 hb; obtain ⟨k1, k2, k3, k4⟩ := H.out.res))
                  have x1 := HV1.out HF1.out
                  have x2 := HV2.out HF2.out
                  rw [x1, x2]
                  exact bodyPost_ret (ret_rt_2 rfl rfl rfl ((H.out.rr.set0 _).set1 _)) rfl ⟨by rw [HLO.out, if_pos ⟨HF1.out, HF2.out⟩]; rfl, bel_set (bel_set H.out.bel (by omega) _ _) (by omega) _ _⟩
                · have e1 : decide (Fit X) = true := decide_eq_true hf1
                  have e2 : decide (Fit Y) = false := decide_eq_false hf2
                  have HF1 := Lib.hid hf1
                  have HF2 := Lib.hid hf2
                  have E1 := Lib.hid e1
                  have E2 := Lib.hid e2
                  clear hf1 hf2 e1 e2
                  go_wp2_with (first
                    | (go_at_call 57; (with_reducible refine (smalln_any (.agg #[.bool b8, .slice C8 r8 q8]) X l _ H.out.NX (by omega)).mono ?_); rintro e w9 ⟨⟨v1, he, hv1, _⟩, hb⟩; rw [E1.out] at he; subst he; have HV1 := Lib.hid hv1; have H := Lib.hid (H.out.next hb); clear k1 k2 k3 k4 k5 k6 hv1 hb; obtain ⟨k1, k2, k3, k4, k5, k6⟩ := H.out.xy)
                    | (go_at_call 57; (with_reducible refine (smalln_any (.agg #[.bool b_y, .slice Cy ry qy]) Y l _ H.out.NY (by omega)).mono ?_); rintro e w10 ⟨⟨v2, he, hv2, _⟩, hb⟩; rw [E2.out] at he; subst he; have HV2 := Lib.hid hv2; have H := Lib.hid (H.out.next hb); clear k1 k2 k3 k4 k5 k6 hv2 hb; obtain ⟨k1, k2, k3, k4⟩ := H.out.res))
                  exact bodyPost_ret (ret_rt_2 rfl rfl rfl ((H.out.rr.set0 0).set1 0)) rfl ⟨by rw [HLO.out, if_neg (fun h => HF2.out h.2)]; rfl, bel_set (bel_set H.out.bel (by omega) _ _) (by omega) _ _⟩
              · by_cases hf2 : Fit Y
                · have e1 : decide (Fit X) = false := decide_eq_false hf1
                  have e2 : decide (Fit Y) = true := decide_eq_true hf2
                  have HF1 := Lib.hid hf1
                  have HF2 := Lib.hid hf2
                  have E1 := Lib.hid e1
                  have E2 := Lib.hid e2
                  clear hf1 hf2 e1 e2
                  go_wp2_with (first
                    | (go_at_call 57; (with_reducible refine (smalln_any (.agg #[.bool b8, .slice C8 r8 q8]) X l _ H.out.NX (by omega)).mono ?_); rintro e w9 ⟨⟨v1, he, hv1, _⟩, hb⟩; rw [E1.out] at he; subst he; have HV1 := Lib.hid hv1; have H := Lib.hid (H.out.next hb); clear k1 k2 k3 k4 k5 k6 hv1 hb; obtain ⟨k1, k2, k3, k4, k5, k6⟩ := H.out.xy)
                    | (go_at_call 57; (with_reducible refine (smalln_any (.agg #[.bool b_y, .slice Cy ry qy]) Y l _ H.out.NY (by omega)).mono ?_); rintro e w10 ⟨⟨v2, he, hv2, _⟩, hb⟩; rw [E2.out] at he; subst he; have HV2 := Lib.hid hv2; have H := Lib.hid (H.out.next hb); clear k1 k2 k3 k4 k5 k6 hv2 hb; obtain ⟨k1, k2, k3, k4⟩ := H.out.res))
                  exact bodyPost_ret (ret_rt_2 rfl rfl rfl ((H.out.rr.set0 0).set1 0)) rfl ⟨by rw [HLO.out, if_neg (fun h => HF1.out h.1)]; rfl, bel_set (bel_set H.out.bel (by omega) _ _) (by omega) _ _⟩
                · have e1 : decide (Fit X) = false := decide_eq_false hf1
                  have e2 : decide (Fit Y) = false := decide_eq_false hf2
                  have HF1 := Lib.hid hf1
                  have HF2 := Lib.hid hf2
                  have E1 := Lib.hid e1
                  have E2 := Lib.hid e2
                  clear hf1 hf2 e1 e2
                  go_wp2_with (first
                    | (go_at_call 57; (with_reducible refine (smalln_any (.agg #[.bool b8, .slice C8 r8 q8]) X l _ H.out.NX (by omega)).mono ?_); rintro e w9 ⟨⟨v1, he, hv1, _⟩, hb⟩; rw [E1.out] at he; subst he; have HV1 := Lib.hid hv1; have H := Lib.hid (H.out.next hb); clear k1 k2 k3 k4 k5 k6 hv1 hb; obtain ⟨k1, k2, k3, k4, k5, k6⟩ := H.out.xy)
                    | (go_at_call 57; (with_reducible refine (smalln_any (.agg #[.bool b_y, .slice Cy ry qy]) Y l _ H.out.NY (by omega)).mono ?_); rintro e w10 ⟨⟨v2, he, hv2, _⟩, hb⟩; rw [E2.out] at he; subst he; have HV2 := Lib.hid hv2; have H := Lib.hid (H.out.next hb); clear k1 k2 k3 k4 k5 k6 hv2 hb; obtain ⟨k1, k2, k3, k4⟩ := H.out.res))
                  exact bodyPost_ret (ret_rt_2 rfl rfl rfl ((H.out.rr.set0 0).set1 0)) rfl ⟨by rw [HLO.out, if_neg (fun h => HF1.out h.1)]; rfl, bel_set (bel_set H.out.bel (by omega) _ _) (by omega) _ _⟩
          · have hdt : decide (t < 0) = false := decide_eq_false htn
            rw [HNQ.out, hdt] at HXE
            have HXV := Lib.hid (show (((n.natAbs / A : Nat) : Int)) = X by rw [HXE.out, sv_false])
            clear htn
            go_wp2_with fail
            go_region_held3 (fun w' => w'.cell? ⟨w.heap.size, 0, none⟩ = some (.bool nn) ∧ w'.cell? ⟨w.heap.size, 1, none⟩ = some (.slice An rn qn) ∧ w'.cell? ⟨w.heap.size + 1, 0, none⟩ = some (.bool nd) ∧ w'.cell? ⟨w.heap.size + 1, 1, none⟩ = some (.slice Ad rd qd))
              (first | with_reducible exact H.out.facts | with_reducible exact H.out.drew.facts | go_keep)
              (first
                | (go_at_call 63; (with_reducible refine (rsign_any (.agg #[.bool nn, .slice An rn qn]) n l _ H.out.drew.Nn).mono ?_); rintro e w11 ⟨he, hb⟩; rw [← HS1.out] at he; subst he; have H := Lib.hid (H.out.drew.next hb); clear hb)
                | (go_at_call 63; (with_reducible refine (rsign_any (.agg #[.bool nd, .slice Ad rd qd]) d l _ H.out.Nd).mono ?_); rintro e w12 ⟨he, hb⟩; rw [← HS2.out] at he; subst he; have H := Lib.hid (H.out.next hb); clear hb))
            all_goals
              rw [HXV.out] at H
              obtain ⟨k1, k2, k3, k4, k5, k6⟩ := H.out.xy
              clear f1 f2 f3 f4
              by_cases hf1 : Fit X
              · by_cases hf2 : Fit Y
                · have e1 : decide (Fit X) = true := decide_eq_true hf1
                  have e2 : decide (Fit Y) = true := decide_eq_true hf2
                  have HF1 := Lib.hid hf1
                  have HF2 := Lib.hid hf2
                  have E1 := Lib.hid e1
                  have E2 := Lib.hid e2
                  clear hf1 hf2 e1 e2
                  go_wp2_with (first
                    | (go_at_call 57; (with_reducible refine (smalln_any (.agg #[.bool bx, .slice Cx rx qx]) X l _ H.out.NX (by omega)).mono ?_); rintro e w9 ⟨⟨v1, he, hv1, _⟩, hb⟩; rw [E1.out] at he; subst he; have HV1 := Lib.hid hv1; have H := Lib.hid (H.out.next hb); clear k1 k2 k3 k4 k5 k6 hv1 hb; obtain ⟨k1, k2, k3, k4, k5, k6⟩ := H.out.xy)
                    | (go_at_call 57; (with_reducible refine (smalln_any (.agg #[.bool b_y, .slice Cy ry qy]) Y l _ H.out.NY (by omega)).mono ?_); rintro e w10 ⟨⟨v2, he, hv2, _⟩, hb⟩; rw [E2.out] at he; subst he; have HV2 := Lib.hid hv2; have H := Lib.hid (H.out.next hb); clear k1 k2 k3 k4 k5 k6 hv2 hb; obtain ⟨k1, k2, k3, k4⟩ := H.out.res))
                  have x1 := HV1.out HF1.out
                  have x2 := HV2.out HF2.out
                  rw [x1, x2]
                  exact bodyPost_ret (ret_rt_2 rfl rfl rfl ((H.out.rr.set0 _).set1 _)) rfl ⟨by rw [HLO.out, if_pos ⟨HF1.out, HF2.out⟩]; rfl, bel_set (bel_set H.out.bel (by omega) _ _) (by omega) _ _⟩
                · have e1 : decide (Fit X) = true := decide_eq_true hf1
                  have e2 : decide (Fit Y) = false := decide_eq_false hf2
                  have HF1 := Lib.hid hf1
                  have HF2 := Lib.hid hf2
                  have E1 := Lib.hid e1
                  have E2 := Lib.hid e2
                  clear hf1 hf2 e1 e2
                  go_wp2_with (first
                    | (go_at_call 57; (with_reducible refine (smalln_any (.agg #[.bool bx, .slice Cx rx qx]) X l _ H.out.NX (by omega)).mono ?_); rintro e w9 ⟨⟨v1, he, hv1, _⟩, hb⟩; rw [E1.out] at he; subst he; have HV1 := Lib.hid hv1; have H := Lib.hid (H.out.next hb); clear k1 k2 k3 k4 k5 k6 hv1 hb; obtain ⟨k1, k2, k3, k4, k5, k6⟩ := H.out.xy)
                    | (go_at_call 57; (with_reducible refine (smalln_any (.agg #[.bool b_y, .slice Cy ry qy]) Y l _ H.out.NY (by omega)).mono ?_); rintro e w10 ⟨⟨v2, he, hv2, _⟩, hb⟩; rw [E2.out] at he; subst he; have HV2 := Lib.hid hv2; have H := Lib.hid (H.out.next hb); clear k1 k2 k3 k4 k5 k6 hv2 hb; obtain ⟨k1, k2, k3, k4⟩ := H.out.res))
                  exact bodyPost_ret (ret_rt_2 rfl rfl rfl ((H.out.rr.set0 0).set1 0)) rfl ⟨by rw [HLO.out, if_neg (fun h => HF2.out h.2)]; rfl, bel_set (bel_set H.out.bel (by omega) _ _) (by omega) _ _⟩
              · by_cases hf2 : Fit Y
                · have e1 : decide (Fit X) = false := decide_eq_false hf1
                  have e2 : decide (Fit Y) = true := decide_eq_true hf2
                  have HF1 := Lib.hid hf1
                  have HF2 := Lib.hid hf2
                  have E1 := Lib.hid e1
                  have E2 := Lib.hid e2
                  clear hf1 hf2 e1 e2
                  go_wp2_with (first
                    | (go_at_call 57; (with_reducible refine (smalln_any (.agg #[.bool bx, .slice Cx rx qx]) X l _ H.out.NX (by omega)).mono ?_); rintro e w9 ⟨⟨v1, he, hv1, _⟩, hb⟩; rw [E1.out] at he; subst he; have HV1 := Lib.hid hv1; have H := Lib.hid (H.out.next hb); clear k1 k2 k3 k4 k5 k6 hv1 hb; obtain ⟨k1, k2, k3, k4, k5, k6⟩ := H.out.xy)
                    | (go_at_call 57; (with_reducible refine (smalln_any (.agg #[.bool b_y, .slice Cy ry qy]) Y l _ H.out.NY (by omega)).mono ?_); rintro e w10 ⟨⟨v2, he, hv2, _⟩, hb⟩; rw [E2.out] at he; subst he; have HV2 := Lib.hid hv2; have H := Lib.hid (H.out.next hb); clear k1 k2 k3 k4 k5 k6 hv2 hb; obtain ⟨k1, k2, k3, k4⟩ := H.out.res))
                  exact bodyPost_ret (ret_rt_2 rfl rfl rfl ((H.out.rr.set0 0).set1 0)) rfl ⟨by rw [HLO.out, if_neg (fun h => HF1.out h.1)]; rfl, bel_set (bel_set H.out.bel (by omega) _ _) (by omega) _ _⟩
                · have e1 : decide (Fit X) = false := decide_eq_false hf1
                  have e2 : decide (Fit Y) = false := decide_eq_false hf2
                  have HF1 := Lib.hid hf1
                  have HF2 := Lib.hid hf2
                  have E1 := Lib.hid e1
                  have E2 := Lib.hid e2
                  clear hf1 hf2 e1 e2
                  go_wp2_with (first
                    | (go_at_call 57; (with_reducible refine (smalln_any (.agg #[.bool bx, .slice Cx rx qx]) X l _ H.out.NX (by omega)).mono ?_); rintro e w9 ⟨⟨v1, he, hv1, _⟩, hb⟩; rw [E1.out] at he; subst he; have HV1 := Lib.hid hv1; have H := Lib.hid (H.out.next hb); clear k1 k2 k3 k4 k5 k6 hv1 hb; obtain ⟨k1, k2, k3, k4, k5, k6⟩ := H.out.xy)
                    | (go_at_call 57; (with_reducible refine (smalln_any (.agg #[.bool b_y, .slice Cy ry qy]) Y l _ H.out.NY (by omega)).mono ?_); rintro e w10 ⟨⟨v2, he, hv2, _⟩, hb⟩; rw [E2.out] at he; subst he; have HV2 := Lib.hid hv2; have H := Lib.hid (H.out.next hb); clear k1 k2 k3 k4 k5 k6 hv2 hb; obtain ⟨k1, k2, k3, k4⟩ := H.out.res))
                  exact bodyPost_ret (ret_rt_2 rfl rfl rfl ((H.out.rr.set0 0).set1 0)) rfl ⟨by rw [HLO.out, if_neg (fun h => HF1.out h.1)]; rfl, bel_set (bel_set H.out.bel (by omega) _ _) (by omega) _ _⟩
    · obtain ⟨sb, hsb⟩ : ∃ sb, sb = sgn (B : Int) := ⟨_, rfl⟩
      have hs1 : sb = 1 := by rw [hsb]; exact sgn_pos (by omega)
      have HSB := Lib.hid hsb
      subst hs1
      have HB0 := Lib.hid hB
      clear hB hsb
      go_wp2_with (first
        | (go_at_call 63; (with_reducible refine (rsign_any (.agg #[.bool bb, .slice Cb rb qb]) (B : Int) l _ L.out.Nb).mono ?_); rintro e w3 ⟨he, hb⟩; rw [← HSB.out] at he; subst he; have L := Lib.hid (L.out.next hb); clear f1 f2 f3 f4 f5 f6 f7 f8 hb; obtain ⟨f1, f2, f3, f4, f5, f6, f7, f8⟩ := L.out.facts)
        | (go_at_call 64; (with_reducible refine (divide_pt (.agg #[.bool ba, .slice Ca ra qa]) (.agg #[.bool bb, .slice Cb rb qb]) A B l l _ L.out.Na L.out.Nb hl hl HB0.out).mono ?_); rintro e w4 ⟨bx, Cx, rx, qx, b_y, Cy, ry, qy, rfl, hX, hY, hb⟩;
           have HY := Lib.hid (NumC.bel (NumC.bel hY (bel_a w4 (.cells #[.bool bx, .slice Cx rx qx] 65))) (bel_a _ (.cells #[.bool b_y, .slice Cy ry qy] 65)));
           have na1 := L.out.a.lt; have nb1 := L.out.b.lt; have hsz := hb.size;
           have L := Lib.hid (((L.out.next hb).next (bel_a w4 (.cells #[.bool bx, .slice Cx rx qx] 65))).next (bel_a _ (.cells #[.bool b_y, .slice Cy ry qy] 65)));
           have HZ := Lib.hid (Bx.newq (W := w4.alloc (.cells #[.bool bx, .slice Cx rx qx] 65)) (T := 65) (G := w4.heap.size + 1) (n := b_y) (z := .slice Cy ry qy) (by simp));
           clear f1 f2 f3 f4 f5 f6 f7 f8 hX hY hb; obtain ⟨f1, f2, f3, f4, f5, f6, f7, f8⟩ := L.out.facts; obtain ⟨g1, g2, g3, g4⟩ := L.out.frs; have z1 := HZ.out.c0; have z2 := HZ.out.c1;
           have ne1 : ¬ w1.heap.size = w4.heap.size + 1 := (by omega); have ne2 : ¬ w4.heap.size + 1 = w1.heap.size := (by omega); have hgb := L.out.hgb; have ne3 : ¬ w1.heap.size = w2.heap.size := (by omega); have ne4 : ¬ w2.heap.size = w1.heap.size := (by omega)))
      go_roundg (A % B)
      case measure => rw [HK.out.1]; exact Nat.mod_lt _ HB0.out
      case rel => exact ⟨bb, Cb, rb, qb, b_y, Cy, ry, qy, B, A % B, rfl, by rw [gcd_step]; exact HK.out.2, L.out.step HY.out⟩
theorem lowest_any (X Y : Value) (n d : Int) (l : Nat) (w : World) (hN : NumC w X n l) (hD : NumC w Y d l) (hl : l ≤ 1000) (hd : d ≠ 0) : Calls Tryd.prog 44 #[X, Y] w (RatE (low n d) w) := by
  obtain ⟨nn, v, xs, rfl, a1, a2⟩ := hN
  obtain ⟨nd, u, ys, rfl, c1, c2⟩ := hD
  obtain ⟨An, qn, rfl⟩ := a1.slice
  obtain ⟨Ad, qd, rfl⟩ := c1.slice
  exact lowest_core nn nd An Ad _ qn _ qd n d l w ⟨nn, _, xs, rfl, a1, a2⟩ ⟨nd, _, ys, rfl, c1, c2⟩ hl hd
end Go.Proofs.YtjjinncecfilpaaDoor
