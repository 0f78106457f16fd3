/- Proved here: what BigParts answers: true. Condition: a number in any form that lies in memory, and the library's table of powers of ten at its place. -/
import Derived.Test.YthmpkejdficmgaaDoorVb
import Derived.Test.YthmpkejdficmgaaDoorSc
namespace Go.Proofs.YthmpkejdficmgaaDoor
open Go.RowKit

theorem Bx.newp {W : World} {T : TypeId} {G : Nat} {n : Bool} {z : Value} (hG : G = W.heap.size) : Bx T (W.alloc (.cells #[.bool n, z] T)) G n z := hG ▸ Bx.new T W n z
set_option maxHeartbeats 2000000 in
theorem bdiv_zero (b : Bool) (v : Value) (xs : List Nat) (w : World) (hv : Arr w .u32 v xs) : Calls Tryd.prog 34 #[.agg #[.bool b, v], .int .i64 0] w fun e w' => e = .returned (.tuple #[.agg #[.bool false, .slice none 0 0], .int .i64 0, .int .i64 13]) ∧ Below w.heap.size w w' := by
  obtain ⟨A, c, rfl⟩ := hv.slice
  obtain ⟨p, hp⟩ : ∃ p, p = xs.length := ⟨_, rfl⟩
  rw [← hp]
  clear hv hp
  go_enter Tryd.func34, Tryd.ntmps34
  go_wp2_with fail
  exact bodyPost_ret (ret_bx24_3 rfl rfl rfl rfl (Bx.newp (by simp))) rfl ⟨rfl, bel_tr (bel_a w _) (bel_a _ _)⟩
theorem tmod_small (x n : Int) (hn : n ≠ 0) (h1 : -9223372036854775808 ≤ n) (h2 : n ≤ 9223372036854775807) : -9223372036854775808 ≤ x.tmod n ∧ x.tmod n ≤ 9223372036854775807 := by
  have h := Int.natAbs_tmod x n
  have h3 : x.natAbs % n.natAbs < n.natAbs := Nat.mod_lt _ (by omega)
  omega
/-- What stands in memory: a number, its quotient, and the document's quotient and rest. -/
structure PtH (w W : World) (b : Bool) (v : Value) (gq : Nat) (bq : Bool) (vq : Value) (gx : Nat) (bx : Bool) (vx : Value) (b_y : Bool) (vy : Value) (x d t : Int) : Prop where
  ba : Bx 24 W w.heap.size b v
  A : BigA W (.agg #[.bool b, v]) x 40
  qb : Bx 24 W gq bq vq
  D : BigC W (.agg #[.bool bq, vq]) d 40
  X : Bx 28 W gx bx vx
  N : NumC W (.agg #[.bool bx, vx]) d 80
  Y : Bx 28 W (gx + 1) b_y vy
  M : NumC W (.agg #[.bool b_y, vy]) t 4
  bel : Below w.heap.size w W
section
variable {w W W' : World} {b bq bx b_y : Bool} {v vq vx vy : Value} {gq gx : Nat} {x d t : Int}
theorem PtH.next (h : PtH w W b v gq bq vq gx bx vx b_y vy x d t) (hb : Below W.heap.size W W') : PtH w W' b v gq bq vq gx bx vx b_y vy x d t :=
  ⟨h.ba.bel hb, h.A.bel hb, h.qb.bel hb, h.D.bel hb, h.X.bel hb, h.N.bel hb, h.Y.bel hb, h.M.bel hb, bel_tr h.bel hb⟩
theorem PtH.drew (h : PtH w W b v gq bq vq gx bx vx b_y vy x d t) : PtH w W.drew b v gq bq vq gx bx vx b_y vy x d t := ⟨h.ba, h.A, h.qb, h.D, h.X, h.N, h.Y, h.M, h.bel.drew⟩
theorem PtH.facts (h : PtH w W b v gq bq vq gx bx vx b_y vy x d t) : W.cell? ⟨w.heap.size, 0, none⟩ = some (.bool b) ∧ W.cell? ⟨w.heap.size, 1, none⟩ = some v ∧ W.cell? ⟨gq, 0, none⟩ = some (.bool bq) ∧ W.cell? ⟨gq, 1, none⟩ = some vq ∧
    W.cell? ⟨gx, 0, none⟩ = some (.bool bx) ∧ W.cell? ⟨gx, 1, none⟩ = some vx ∧ W.cell? ⟨gx + 1, 0, none⟩ = some (.bool b_y) ∧ W.cell? ⟨gx + 1, 1, none⟩ = some vy :=
  ⟨h.ba.c0, h.ba.c1, h.qb.c0, h.qb.c1, h.X.c0, h.X.c1, h.Y.c0, h.Y.c1⟩
end
theorem pt_sum (x n : Int) : x.tdiv n * n + x.tmod n = x := by rw [Int.mul_comm]; exact Int.mul_tdiv_add_tmod x n
theorem bdiv_pt (x n d t : Int) (hd : d = x.tdiv n) (ht : t = x.tmod n) (hn : n ≠ 0) (h1 : -9223372036854775808 ≤ n) (h2 : n ≤ 9223372036854775807) (X : Value) (w : World) (hX : BigA w X x 40) :
    Calls Tryd.prog 34 #[X, .int .i64 n] w fun e w' => ∃ bq C r q, e = .returned (.tuple #[.agg #[.bool bq, .slice C r q], .int .i64 t, .int .i64 0]) ∧ BigC w' (.agg #[.bool bq, .slice C r q]) d 40 ∧ Below w.heap.size w w' := by
  subst hd ht
  exact (bdiv_any X x n 40 w hX (by decide) hn h1 h2).mono fun _ _ ⟨Z, he, ⟨bq, v, zs, hZ, a1, a2⟩, hb⟩ => by
    subst hZ
    obtain ⟨C, q, rfl⟩ := a1.slice
    exact ⟨bq, C, _, q, he, ⟨bq, _, zs, rfl, a1, a2⟩, hb⟩
theorem rdiv_pt (x n d t : Int) (hd : d = x.tdiv n) (ht : t = x.tmod n) (hn : n ≠ 0) (h1 : -9223372036854775808 ≤ n) (h2 : n ≤ 9223372036854775807) (X : Value) (w : World) (hX : NumC w X x 80) :
    Calls Tryd.prog 35 #[X, .int .i64 n] w fun e w' => ∃ bx C r q b_y C' r' q', e = .returned (.tuple #[.agg #[.bool bx, .slice C r q], .agg #[.bool b_y, .slice C' r' q']]) ∧ NumC w' (.agg #[.bool bx, .slice C r q]) d 80 ∧ NumC w' (.agg #[.bool b_y, .slice C' r' q']) t 4 ∧ Below w.heap.size w w' := by
  subst hd ht
  exact (rdiv_any X x n 80 w hX (by decide) hn h1 h2).mono fun _ _ ⟨X, Y, he, ⟨bx, v, zs, hX, a1, a2⟩, ⟨b_y, u, ys, hY, c1, c2⟩, hb⟩ => by
    subst hX hY
    obtain ⟨C, q, rfl⟩ := a1.slice
    obtain ⟨C', q', rfl⟩ := c1.slice
    exact ⟨bx, C, _, q, b_y, C', _, q', he, ⟨bx, _, zs, rfl, a1, a2⟩, ⟨b_y, _, ys, rfl, c1, c2⟩, hb⟩
set_option maxHeartbeats 2000000 in
theorem parts_long (n : Int) (b : Bool) (v : Value) (xs : List Nat) (w : World) (hv : Arr w .u32 v xs) (hxl : 40 < xs.length) (ht : Tab w) :
    Calls Tryd.prog 7 #[.agg #[.bool b, v], .int .i64 n] w fun e w' => e = .returned (.bool true) ∧ Below w.heap.size w w' := by
  obtain ⟨A, c, rfl⟩ := hv.slice
  obtain ⟨p, hp⟩ : ∃ p, p = xs.length := ⟨_, rfl⟩
  have hbel0 : Below w.heap.size w (w.alloc (.cells #[.bool b, .slice A p c] 24)) := bel_a w _
  rw [← hp] at hxl ⊢
  have HB := Lib.hid (And.intro (Bx.new 24 w b (.slice A p c)) hbel0)
  have HT := Lib.hid (ht.below hbel0)
  have hd : decide (40 < (p : Int)) = true := decide_eq_true (by omega)
  clear hv hp hbel0 ht
  go_enter Tryd.func7, Tryd.ntmps7
  go_wp2_with (go_at_call 8; (with_reducible refine (awake_any _ HT.out).mono ?_); rintro e w1 ⟨rfl, hb⟩; have HB := Lib.hid (And.intro (HB.out.1.bel hb) (bel_tr HB.out.2 hb)); have f1 := HB.out.1.c0; have f2 := HB.out.1.c1; clear hb)
  go_ret
  exact ⟨rfl, HB.out.2⟩
set_option maxHeartbeats 2000000 in
theorem parts_zero (b : Bool) (v : Value) (xs : List Nat) (w : World) (hv : Arr w .u32 v xs) (hxl : xs.length ≤ 40) (ht : Tab w) :
    Calls Tryd.prog 7 #[.agg #[.bool b, v], .int .i64 0] w fun e w' => e = .returned (.bool true) ∧ Below w.heap.size w w' := by
  obtain ⟨A, c, rfl⟩ := hv.slice
  obtain ⟨p, hp⟩ : ∃ p, p = xs.length := ⟨_, rfl⟩
  have hbel0 : Below w.heap.size w (w.alloc (.cells #[.bool b, .slice A p c] 24)) := bel_a w _
  rw [← hp] at hv hxl ⊢
  have HV := Lib.hid (And.intro (hv.bel hbel0) hp)
  have HB := Lib.hid (And.intro (Bx.new 24 w b (.slice A p c)) hbel0)
  have HT := Lib.hid (ht.below hbel0)
  have hd : decide (40 < (p : Int)) = false := decide_eq_false (by omega)
  clear hv hp hbel0 ht
  go_enter Tryd.func7, Tryd.ntmps7
  go_wp2_with (first
    | (go_at_call 8; (with_reducible refine (awake_any _ HT.out).mono ?_); rintro e w1 ⟨rfl, hb⟩; have HV := Lib.hid (And.intro (HV.out.1.bel hb) HV.out.2); have HB := Lib.hid (And.intro (HB.out.1.bel hb) (bel_tr HB.out.2 hb)); have f1 := HB.out.1.c0; have f2 := HB.out.1.c1; clear hb)
    | (go_at_call 34; (with_reducible refine (bdiv_zero b _ xs _ HV.out.1).mono ?_); rintro e w2 ⟨rfl, hb⟩; have HB := Lib.hid (And.intro (HB.out.1.bel hb) (bel_tr HB.out.2 hb)); clear f1 f2 hb))
  go_ret
  exact ⟨rfl, bel_tr HB.out.2 (bel_a _ _)⟩
set_option maxHeartbeats 4000000 in
theorem parts_core (x n : Int) (b : Bool) (v : Value) (xs : List Nat) (w : World) (hv : Arr w .u32 v xs) (hx : Eg xs) (hxl : xs.length ≤ 40) (hxv : x = sv b (dw xs)) (hn : n ≠ 0) (h1 : -9223372036854775808 ≤ n) (h2 : n ≤ 9223372036854775807) (ht : Tab w) :
    Calls Tryd.prog 7 #[.agg #[.bool b, v], .int .i64 n] w fun e w' => e = .returned (.bool true) ∧ Below w.heap.size w w' := by
  obtain ⟨A, c, rfl⟩ := hv.slice
  obtain ⟨p, hp⟩ : ∃ p, p = xs.length := ⟨_, rfl⟩
  have hbel0 : Below w.heap.size w (w.alloc (.cells #[.bool b, .slice A p c] 24)) := bel_a w _
  rw [← hp] at hv hxl ⊢
  have HA := Lib.hid (show BigA (w.alloc (.cells #[.bool b, .slice A p c] 24)) (.agg #[.bool b, .slice A p c]) x 40 from ⟨b, _, xs, rfl, hv.bel hbel0, hx, by omega, hxv.symm⟩)
  have HB := Lib.hid (And.intro (Bx.new 24 w b (.slice A p c)) hbel0)
  have HT := Lib.hid (ht.below hbel0)
  have hd0 : decide (40 < (p : Int)) = false := decide_eq_false (by omega)
  have hn0 : (n == 0) = false := by simp [hn]
  obtain ⟨d, hd⟩ : ∃ d, d = x.tdiv n := ⟨_, rfl⟩
  obtain ⟨t, ht2⟩ : ∃ t, t = x.tmod n := ⟨_, rfl⟩
  have HD := Lib.hid (fun X W hX => bdiv_pt x n d t hd ht2 hn h1 h2 X W hX)
  have HR := Lib.hid (fun X W hX => rdiv_pt x n d t hd ht2 hn h1 h2 X W hX)
  have HSUM := Lib.hid (show d * n + t = x by rw [hd, ht2]; exact pt_sum x n)
  have htb := tmod_small x n hn h1 h2
  rw [← ht2] at htb
  have HON := Lib.hid (fun W => of_any n W h1 h2)
  have HOT := Lib.hid (fun W => of_any t W htb.1 htb.2)
  have HRT := Lib.hid (fun W => rof_any t W htb.1 htb.2)
  clear hv hx hp hxv hbel0 ht hd ht2 hn h1 h2 htb
  go_enter Tryd.func7, Tryd.ntmps7
  go_wp2_with (first
    | (go_at_call 8; (with_reducible refine (awake_any _ HT.out).mono ?_); rintro e w1 ⟨rfl, hb⟩; have HA := Lib.hid (HA.out.bel hb); have HB := Lib.hid (And.intro (HB.out.1.bel hb) (bel_tr HB.out.2 hb)); have f1 := HB.out.1.c0; have f2 := HB.out.1.c1; clear hb)
    | (go_at_call 34; (with_reducible refine (HD.out _ _ HA.out).mono ?_); rintro e w2 ⟨bq, Cq, rq, qq, rfl, hQ, hb⟩; have HA := Lib.hid ((HA.out.bel hb).bel (bel_a w2 (.cells #[.bool bq, .slice Cq rq qq] 24))); have HB := Lib.hid (And.intro ((HB.out.1.bel hb).bel (bel_a w2 (.cells #[.bool bq, .slice Cq rq qq] 24))) (bel_tr (bel_tr HB.out.2 hb) (bel_a w2 (.cells #[.bool bq, .slice Cq rq qq] 24)))); have HQ := Lib.hid (And.intro (Bx.new 24 w2 bq (.slice Cq rq qq)) (BigC.bel hQ (bel_a w2 (.cells #[.bool bq, .slice Cq rq qq] 24)))); clear f1 f2; have f1 := HB.out.1.c0; have f2 := HB.out.1.c1; clear hQ hb)
    | (go_at_call 9; (with_reducible refine (from_any _ x 40 _ HA.out (by decide)).mono ?_); rintro e w3 ⟨Z, rfl, hZ, hb⟩; have HZ := Lib.hid hZ; have HA := Lib.hid (HA.out.bel hb); have HB := Lib.hid (And.intro (HB.out.1.bel hb) (bel_tr HB.out.2 hb)); have HQ := Lib.hid (And.intro (HQ.out.1.bel hb) (HQ.out.2.bel hb)); clear hZ hb)
    | (go_at_call 35; (with_reducible refine (HR.out _ _ HZ.out).mono ?_); rintro e w4 ⟨bx, Cx, rx, qx, b_y, Cy, ry, qy, rfl, hX, hY, hb⟩;
       have H := Lib.hid (show PtH w ((w4.alloc (.cells #[.bool bx, .slice Cx rx qx] 28)).alloc (.cells #[.bool b_y, .slice Cy ry qy] 28)) b (.slice A p c) w2.heap.size bq (.slice Cq rq qq) w4.heap.size bx (.slice Cx rx qx) b_y (.slice Cy ry qy) x d t from
         ⟨((HB.out.1.bel hb).alloc _).alloc _, ((HA.out.bel hb).bel (bel_a _ _)).bel (bel_a _ _), ((HQ.out.1.bel hb).alloc _).alloc _, ((HQ.out.2.bel hb).bel (bel_a _ _)).bel (bel_a _ _), (Bx.new 28 w4 _ _).alloc _, (hX.bel (bel_a _ _)).bel (bel_a _ _), Bx.newp (by simp), (hY.bel (bel_a _ _)).bel (bel_a _ _), bel_tr (bel_tr (bel_tr HB.out.2 hb) (bel_a _ _)) (bel_a _ _)⟩);
       clear hX hY hb f1 f2; obtain ⟨f1, f2, f3, f4, f5, f6, f7, f8⟩ := H.out.facts))
  go_region_held3 (fun w' => w'.cell? ⟨w.heap.size, 0, none⟩ = some (.bool b) ∧ w'.cell? ⟨w.heap.size, 1, none⟩ = some (.slice A p c) ∧ w'.cell? ⟨w2.heap.size, 0, none⟩ = some (.bool bq) ∧ w'.cell? ⟨w2.heap.size, 1, none⟩ = some (.slice Cq rq qq) ∧ w'.cell? ⟨w4.heap.size, 0, none⟩ = some (.bool bx) ∧ w'.cell? ⟨w4.heap.size, 1, none⟩ = some (.slice Cx rx qx) ∧ w'.cell? ⟨w4.heap.size + 1, 0, none⟩ = some (.bool b_y) ∧ w'.cell? ⟨w4.heap.size + 1, 1, none⟩ = some (.slice Cy ry qy))
    (first | with_reducible exact H.out.facts | with_reducible exact H.out.drew.facts | go_keep)
    (first
      | (go_at_call 12; (with_reducible refine (to_any _ d 80 _ H.out.drew.N (by decide)).mono ?_); rintro e w7 ⟨Z, rfl, hZ, hb⟩; have HO := Lib.hid hZ; have H := Lib.hid (H.out.drew.next hb); clear hZ hb)
      | (go_at_call 10; (with_reducible refine (same_any _ _ d _ _ _ H.out.D HO.out (by decide)).mono ?_); rintro e w7 ⟨rfl, hb⟩; have H := Lib.hid (H.out.next hb); clear hb)
      | (go_at_call 26; (with_reducible refine (HRT.out _).mono ?_); rintro e w7 ⟨Z, rfl, hZ, hb⟩; have HU := Lib.hid hZ; have H := Lib.hid (H.out.next hb); clear hZ hb)
      | (go_at_call 21; (with_reducible refine (rcmp_any _ _ t t _ _ _ HU.out H.out.M (by decide) (by decide)).mono ?_); rintro e w7 ⟨he, hb⟩; rw [cmpI_same] at he; subst he; have H := Lib.hid (H.out.next hb); clear hb)
      | (go_at_call 25; (with_reducible refine (HON.out _).mono ?_); rintro e w7 ⟨Z, rfl, hZ, hb⟩; have HO1 := Lib.hid hZ; have H := Lib.hid (H.out.next hb); clear hZ hb)
      | (go_at_call 16; (with_reducible refine (mul_any _ _ d n 40 2 _ H.out.D.any HO1.out.any (by decide) (by decide)).mono ?_); rintro e w7 ⟨Z, rfl, hZ, hb⟩; have HM := Lib.hid hZ; have H := Lib.hid (H.out.next hb); clear hZ hb)
      | (go_at_call 25; (with_reducible refine (HOT.out _).mono ?_); rintro e w7 ⟨Z, rfl, hZ, hb⟩; have HO2 := Lib.hid hZ; have HM := Lib.hid (HM.out.bel hb); have H := Lib.hid (H.out.next hb); clear hZ hb)
      | (go_at_call 11; (with_reducible refine (add_any _ _ (d * n) t _ _ _ HM.out.any HO2.out.any (by decide) (by decide)).mono ?_); rintro e w7 ⟨Z, rfl, hZ, hb⟩; rw [HSUM.out] at hZ; have HS := Lib.hid hZ; have H := Lib.hid (H.out.next hb); clear hZ hb)
      | (go_at_call 20; (with_reducible refine (cmp_any _ _ x x _ _ _ HS.out.any H.out.A (by decide)).mono ?_); rintro e w7 ⟨he, hb⟩; rw [cmpI_same] at he; subst he; have H := Lib.hid (H.out.next hb); clear hb))
  all_goals
    go_wp2_with fail
    go_ret
    exact ⟨rfl, H.out.bel⟩
theorem law_parts (n : Int) (b : Bool) (v : Value) (xs : List Nat) (w : World) (hv : Arr w .u32 v xs) (hx : Eg xs) (h1 : -9223372036854775808 ≤ n) (h2 : n ≤ 9223372036854775807) (ht : Tab w) :
    Calls Tryd.prog 7 #[.agg #[.bool b, v], .int .i64 n] w fun e w' => e = .returned (.bool true) ∧ Below w.heap.size w w' := by
  by_cases h3 : 40 < xs.length
  · exact parts_long n b v xs w hv h3 ht
  · by_cases hn : n = 0
    · subst hn
      exact parts_zero b v xs w hv (by omega) ht
    · exact parts_core _ n b v xs w hv hx (by omega) rfl hn h1 h2 ht
end Go.Proofs.YthmpkejdficmgaaDoor
