/- Proved here: what the document's Add, Sub, Mul and Div of layer 3 answer. Condition: numbers of 64 bits. -/
import Derived.Test.YtjjinncecfilpaaDoorXk
namespace Go.Proofs.YtjjinncecfilpaaDoor
open Go.RowKit

/-- Two fractions in boxes, and the answer's box. -/
structure BuH (w W : World) (n d m c p q : Int) : Prop where
  ba : Rt W w.heap.size n d
  bb : Rt W (w.heap.size + 1) m c
  rr : Rt W (w.heap.size + 1 + 1) p q
  bel : Below w.heap.size w W
section
variable {w W W' : World} {n d m c p q : Int}
theorem BuH.start (w : World) (n d m c : Int) : BuH w (((w.alloc (.cells #[.int .i64 n, .int .i64 d] 24)).alloc (.cells #[.int .i64 m, .int .i64 c] 24)).alloc (.cells #[.int .i64 0, .int .i64 0] 24)) n d m c 0 0 :=
  ⟨((Rt.new w n d).alloc _).alloc _, (Rt.newg (by simp)).alloc _, Rt.newg (by simp), bel_tr (bel_tr (bel_a w _) (bel_a _ _)) (bel_a _ _)⟩
theorem BuH.next (h : BuH w W n d m c p q) (hb : Below W.heap.size W W') : BuH w W' n d m c p q := ⟨h.ba.bel hb, h.bb.bel hb, h.rr.bel hb, bel_tr h.bel hb⟩
theorem BuH.drew (h : BuH w W n d m c p q) : BuH w W.drew n d m c p q := ⟨h.ba, h.bb, h.rr, h.bel.drew⟩
theorem BuH.facts (h : BuH w W n d m c p q) : W.cell? ⟨w.heap.size, 0, none⟩ = some (.int .i64 n) ∧ W.cell? ⟨w.heap.size, 1, none⟩ = some (.int .i64 d) ∧ W.cell? ⟨w.heap.size + 1, 0, none⟩ = some (.int .i64 m) ∧ W.cell? ⟨w.heap.size + 1, 1, none⟩ = some (.int .i64 c) :=
  ⟨h.ba.c0, h.ba.c1, h.bb.c0, h.bb.c1⟩
theorem BuH.res (h : BuH w W n d m c p q) : W.cell? ⟨w.heap.size + 1 + 1, 0, none⟩ = some (.int .i64 p) ∧ W.cell? ⟨w.heap.size + 1 + 1, 1, none⟩ = some (.int .i64 q) ∧ W.frozen? ⟨w.heap.size + 1 + 1, 0, none⟩ = false ∧ W.frozen? ⟨w.heap.size + 1 + 1, 1, none⟩ = false :=
  ⟨h.rr.c0, h.rr.c1, h.rr.fr 0, h.rr.fr 1⟩
theorem BuH.put (h : BuH w W n d m c p q) (x y : Int) : BuH w ((W.setCell ⟨w.heap.size + 1 + 1, 0, none⟩ (.int .i64 x)).setCell ⟨w.heap.size + 1 + 1, 1, none⟩ (.int .i64 y)) n d m c x y :=
  ⟨h.ba.far2 (by omega), h.bb.far2 (by omega), (h.rr.set0 x).set1 y, bel_set (bel_set h.bel (by omega) _ _) (by omega) _ _⟩
end
theorem lowest_pt (n d p q k : Int) (hr : (p, q, k) = low n d) (hd : d ≠ 0) (X Y : Value) (w : World) (hN : NumC w X n 10) (hD : NumC w Y d 10) : Calls Tryd.prog 44 #[X, Y] w fun e w' => e = .returned (.tuple #[.agg #[.int .i64 p, .int .i64 q], .int .i64 k]) ∧ Below w.heap.size w w' :=
  (lowest_any X Y n d 10 w hN hD (by decide) hd).mono fun _ _ ⟨he, hb⟩ => ⟨by rw [he, ← hr], hb⟩
theorem mul_ne {a b : Int} (ha : a ≠ 0) (hb : b ≠ 0) : a * b ≠ 0 := Int.mul_ne_zero ha hb
def addR (n d m c : Int) : Int × Int × Int := if Maybe n d ∧ Maybe m c then low (n * c + m * d) (d * c) else (0, 0, 1)
set_option maxHeartbeats 4000000 in
theorem ratadd_any (n d m c : Int) (w : World) (hn : Fit n) (hd : Fit d) (hm : Fit m) (hc : Fit c) : Calls Tryd.prog 17 #[.agg #[.int .i64 n, .int .i64 d], .agg #[.int .i64 m, .int .i64 c]] w (RatE (addR n d m c) w) := by
  have H := Lib.hid (BuH.start w n d m c)
  have HO := Lib.hid (fun W => both_any n d m c W hn hd hm hc)
  obtain ⟨f1, f2, f3, f4⟩ := H.out.facts
  by_cases hmb : Maybe n d ∧ Maybe m c
  · have hb1 : decide (Maybe n d ∧ Maybe m c) = true := decide_eq_true hmb
    have HE := Lib.hid (show addR n d m c = low (n * c + m * d) (d * c) from if_pos hmb)
    rw [hb1] at HO
    have hd0 : d ≠ 0 := by have := hmb.1.1; omega
    have hc0 : c ≠ 0 := by have := hmb.2.1; omega
    clear hmb hb1
    rw [HE.out]
    have T0 := Lib.hid (fun W => times_any n c W hn hc)
    have T1 := Lib.hid (fun W => times_any m d W hm hd)
    have T2 := Lib.hid (fun W => times_any d c W hd hc)
    obtain ⟨⟨p, q, k⟩, hr⟩ : ∃ r, r = low (n * c + m * d) (d * c) := ⟨_, rfl⟩
    rw [← hr]
    have HL := Lib.hid (lowest_pt (n * c + m * d) (d * c) p q k hr (mul_ne hd0 hc0))
    clear hr hn hd hm hc hd0 hc0
    go_enter Tryd.func17, Tryd.ntmps17
    go_wp2_with (go_at_call 43; (with_reducible refine (HO.out _).mono ?_); rintro e w1 ⟨rfl, hb⟩; have H := Lib.hid (H.out.next hb); clear f1 f2 f3 f4 hb; obtain ⟨f1, f2, f3, f4⟩ := H.out.facts; obtain ⟨k1, k2, k3, k4⟩ := H.out.res)
    clear k1 k2 k3 k4
    go_region_held3 (fun w' => w'.cell? ⟨w.heap.size, 0, none⟩ = some (.int .i64 n) ∧ w'.cell? ⟨w.heap.size, 1, none⟩ = some (.int .i64 d) ∧ w'.cell? ⟨w.heap.size + 1, 0, none⟩ = some (.int .i64 m) ∧ w'.cell? ⟨w.heap.size + 1, 1, none⟩ = some (.int .i64 c))
      (first | with_reducible exact H.out.facts | with_reducible exact H.out.drew.facts | with_reducible exact (H.out.put p q).facts | go_keep)
      (first
        | (go_at_call 46; (with_reducible refine (T0.out _).mono ?_); rintro e w2 ⟨V0, rfl, hz, hb⟩; have Z0 := Lib.hid hz; have H := Lib.hid (H.out.drew.next hb); clear hz hb)
        | (go_at_call 46; (with_reducible refine (T1.out _).mono ?_); rintro e w2 ⟨V1, rfl, hz, hb⟩; have Z1 := Lib.hid hz; have Z0 := Lib.hid (Z0.out.bel hb); have H := Lib.hid (H.out.next hb); clear hz hb)
        | (go_at_call 45; (with_reducible refine (radd_any _ _ _ _ 9 9 _ Z0.out Z1.out (by decide) (by decide)).mono ?_); rintro e w3 ⟨V9, rfl, hz, hb⟩; have Z9 := Lib.hid hz; have H := Lib.hid (H.out.next hb); clear hz hb)
        | (go_at_call 46; (with_reducible refine (T2.out _).mono ?_); rintro e w2 ⟨V2, rfl, hz, hb⟩; have Z2 := Lib.hid hz; have Z9 := Lib.hid (Z9.out.bel hb); have H := Lib.hid (H.out.next hb); clear hz hb)
        | (go_at_call 44; (with_reducible refine (HL.out _ _ _ (Z9.out) (Z2.out.le (by decide))).mono ?_); rintro e w4 ⟨rfl, hb⟩; have H := Lib.hid (H.out.next hb); (try clear k1 k2 k3 k4); obtain ⟨k1, k2, k3, k4⟩ := H.out.res; clear hb))
    all_goals
      go_wp2_with fail
      exact bodyPost_ret (ret_rt_2 rfl rfl rfl (H.out.put p q).rr) rfl ⟨rfl, (H.out.put p q).bel⟩
  · have hb1 : decide (Maybe n d ∧ Maybe m c) = false := decide_eq_false hmb
    have HE := Lib.hid (show addR n d m c = (0, 0, 1) from if_neg hmb)
    rw [hb1] at HO
    clear hmb hb1 hn hd hm hc
    rw [HE.out]
    go_enter Tryd.func17, Tryd.ntmps17
    go_wp2_with (go_at_call 43; (with_reducible refine (HO.out _).mono ?_); rintro e w1 ⟨rfl, hb⟩; have H := Lib.hid (H.out.next hb); clear f1 f2 f3 f4 hb; obtain ⟨f1, f2, f3, f4⟩ := H.out.facts; obtain ⟨k1, k2, k3, k4⟩ := H.out.res)
    exact bodyPost_ret (ret_rt_2 rfl rfl rfl (H.out.put 0 0).rr) rfl ⟨rfl, (H.out.put 0 0).bel⟩
def subR (n d m c : Int) : Int × Int × Int := if Maybe n d ∧ Maybe m c then low (n * c - m * d) (d * c) else (0, 0, 1)
set_option maxHeartbeats 4000000 in
theorem ratsub_any (n d m c : Int) (w : World) (hn : Fit n) (hd : Fit d) (hm : Fit m) (hc : Fit c) : Calls Tryd.prog 18 #[.agg #[.int .i64 n, .int .i64 d], .agg #[.int .i64 m, .int .i64 c]] w (RatE (subR n d m c) w) := by
  have H := Lib.hid (BuH.start w n d m c)
  have HO := Lib.hid (fun W => both_any n d m c W hn hd hm hc)
  obtain ⟨f1, f2, f3, f4⟩ := H.out.facts
  by_cases hmb : Maybe n d ∧ Maybe m c
  · have hb1 : decide (Maybe n d ∧ Maybe m c) = true := decide_eq_true hmb
    have HE := Lib.hid (show subR n d m c = low (n * c - m * d) (d * c) from if_pos hmb)
    rw [hb1] at HO
    have hd0 : d ≠ 0 := by have := hmb.1.1; omega
    have hc0 : c ≠ 0 := by have := hmb.2.1; omega
    clear hmb hb1
    rw [HE.out]
    have T0 := Lib.hid (fun W => times_any n c W hn hc)
    have T1 := Lib.hid (fun W => times_any m d W hm hd)
    have T2 := Lib.hid (fun W => times_any d c W hd hc)
    obtain ⟨⟨p, q, k⟩, hr⟩ : ∃ r, r = low (n * c - m * d) (d * c) := ⟨_, rfl⟩
    rw [← hr]
    have HL := Lib.hid (lowest_pt (n * c - m * d) (d * c) p q k hr (mul_ne hd0 hc0))
    clear hr hn hd hm hc hd0 hc0
    go_enter Tryd.func18, Tryd.ntmps18
    go_wp2_with (go_at_call 43; (with_reducible refine (HO.out _).mono ?_); rintro e w1 ⟨rfl, hb⟩; have H := Lib.hid (H.out.next hb); clear f1 f2 f3 f4 hb; obtain ⟨f1, f2, f3, f4⟩ := H.out.facts; obtain ⟨k1, k2, k3, k4⟩ := H.out.res)
    clear k1 k2 k3 k4
    go_region_held3 (fun w' => w'.cell? ⟨w.heap.size, 0, none⟩ = some (.int .i64 n) ∧ w'.cell? ⟨w.heap.size, 1, none⟩ = some (.int .i64 d) ∧ w'.cell? ⟨w.heap.size + 1, 0, none⟩ = some (.int .i64 m) ∧ w'.cell? ⟨w.heap.size + 1, 1, none⟩ = some (.int .i64 c))
      (first | with_reducible exact H.out.facts | with_reducible exact H.out.drew.facts | with_reducible exact (H.out.put p q).facts | go_keep)
      (first
        | (go_at_call 46; (with_reducible refine (T0.out _).mono ?_); rintro e w2 ⟨V0, rfl, hz, hb⟩; have Z0 := Lib.hid hz; have H := Lib.hid (H.out.drew.next hb); clear hz hb)
        | (go_at_call 46; (with_reducible refine (T1.out _).mono ?_); rintro e w2 ⟨V1, rfl, hz, hb⟩; have Z1 := Lib.hid hz; have Z0 := Lib.hid (Z0.out.bel hb); have H := Lib.hid (H.out.next hb); clear hz hb)
        | (go_at_call 47; (with_reducible refine (rsub_any _ _ _ _ 9 9 _ Z0.out Z1.out (by decide) (by decide)).mono ?_); rintro e w3 ⟨V9, rfl, hz, hb⟩; have Z9 := Lib.hid hz; have H := Lib.hid (H.out.next hb); clear hz hb)
        | (go_at_call 46; (with_reducible refine (T2.out _).mono ?_); rintro e w2 ⟨V2, rfl, hz, hb⟩; have Z2 := Lib.hid hz; have Z9 := Lib.hid (Z9.out.bel hb); have H := Lib.hid (H.out.next hb); clear hz hb)
        | (go_at_call 44; (with_reducible refine (HL.out _ _ _ (Z9.out) (Z2.out.le (by decide))).mono ?_); rintro e w4 ⟨rfl, hb⟩; have H := Lib.hid (H.out.next hb); (try clear k1 k2 k3 k4); obtain ⟨k1, k2, k3, k4⟩ := H.out.res; clear hb))
    all_goals
      go_wp2_with fail
      exact bodyPost_ret (ret_rt_2 rfl rfl rfl (H.out.put p q).rr) rfl ⟨rfl, (H.out.put p q).bel⟩
  · have hb1 : decide (Maybe n d ∧ Maybe m c) = false := decide_eq_false hmb
    have HE := Lib.hid (show subR n d m c = (0, 0, 1) from if_neg hmb)
    rw [hb1] at HO
    clear hmb hb1 hn hd hm hc
    rw [HE.out]
    go_enter Tryd.func18, Tryd.ntmps18
    go_wp2_with (go_at_call 43; (with_reducible refine (HO.out _).mono ?_); rintro e w1 ⟨rfl, hb⟩; have H := Lib.hid (H.out.next hb); clear f1 f2 f3 f4 hb; obtain ⟨f1, f2, f3, f4⟩ := H.out.facts; obtain ⟨k1, k2, k3, k4⟩ := H.out.res)
    exact bodyPost_ret (ret_rt_2 rfl rfl rfl (H.out.put 0 0).rr) rfl ⟨rfl, (H.out.put 0 0).bel⟩
def mulR (n d m c : Int) : Int × Int × Int := if Maybe n d ∧ Maybe m c then low (n * m) (d * c) else (0, 0, 1)
set_option maxHeartbeats 4000000 in
theorem ratmul_any (n d m c : Int) (w : World) (hn : Fit n) (hd : Fit d) (hm : Fit m) (hc : Fit c) : Calls Tryd.prog 19 #[.agg #[.int .i64 n, .int .i64 d], .agg #[.int .i64 m, .int .i64 c]] w (RatE (mulR n d m c) w) := by
  have H := Lib.hid (BuH.start w n d m c)
  have HO := Lib.hid (fun W => both_any n d m c W hn hd hm hc)
  obtain ⟨f1, f2, f3, f4⟩ := H.out.facts
  by_cases hmb : Maybe n d ∧ Maybe m c
  · have hb1 : decide (Maybe n d ∧ Maybe m c) = true := decide_eq_true hmb
    have HE := Lib.hid (show mulR n d m c = low (n * m) (d * c) from if_pos hmb)
    rw [hb1] at HO
    have hd0 : d ≠ 0 := by have := hmb.1.1; omega
    have hc0 : c ≠ 0 := by have := hmb.2.1; omega
    clear hmb hb1
    rw [HE.out]
    have T0 := Lib.hid (fun W => times_any n m W hn hm)
    have T1 := Lib.hid (fun W => times_any d c W hd hc)
    obtain ⟨⟨p, q, k⟩, hr⟩ : ∃ r, r = low (n * m) (d * c) := ⟨_, rfl⟩
    rw [← hr]
    have HL := Lib.hid (lowest_pt (n * m) (d * c) p q k hr (mul_ne hd0 hc0))
    clear hr hn hd hm hc hd0 hc0
    go_enter Tryd.func19, Tryd.ntmps19
    go_wp2_with (go_at_call 43; (with_reducible refine (HO.out _).mono ?_); rintro e w1 ⟨rfl, hb⟩; have H := Lib.hid (H.out.next hb); clear f1 f2 f3 f4 hb; obtain ⟨f1, f2, f3, f4⟩ := H.out.facts; obtain ⟨k1, k2, k3, k4⟩ := H.out.res)
    clear k1 k2 k3 k4
    go_region_held3 (fun w' => w'.cell? ⟨w.heap.size, 0, none⟩ = some (.int .i64 n) ∧ w'.cell? ⟨w.heap.size, 1, none⟩ = some (.int .i64 d) ∧ w'.cell? ⟨w.heap.size + 1, 0, none⟩ = some (.int .i64 m) ∧ w'.cell? ⟨w.heap.size + 1, 1, none⟩ = some (.int .i64 c))
      (first | with_reducible exact H.out.facts | with_reducible exact H.out.drew.facts | with_reducible exact (H.out.put p q).facts | go_keep)
      (first
        | (go_at_call 46; (with_reducible refine (T0.out _).mono ?_); rintro e w2 ⟨V0, rfl, hz, hb⟩; have Z0 := Lib.hid hz; have H := Lib.hid (H.out.drew.next hb); clear hz hb)
        | (go_at_call 46; (with_reducible refine (T1.out _).mono ?_); rintro e w2 ⟨V1, rfl, hz, hb⟩; have Z1 := Lib.hid hz; have Z0 := Lib.hid (Z0.out.bel hb); have H := Lib.hid (H.out.next hb); clear hz hb)
        | (go_at_call 44; (with_reducible refine (HL.out _ _ _ (Z0.out.le (by decide)) (Z1.out.le (by decide))).mono ?_); rintro e w4 ⟨rfl, hb⟩; have H := Lib.hid (H.out.next hb); (try clear k1 k2 k3 k4); obtain ⟨k1, k2, k3, k4⟩ := H.out.res; clear hb))
    all_goals
      go_wp2_with fail
      exact bodyPost_ret (ret_rt_2 rfl rfl rfl (H.out.put p q).rr) rfl ⟨rfl, (H.out.put p q).bel⟩
  · have hb1 : decide (Maybe n d ∧ Maybe m c) = false := decide_eq_false hmb
    have HE := Lib.hid (show mulR n d m c = (0, 0, 1) from if_neg hmb)
    rw [hb1] at HO
    clear hmb hb1 hn hd hm hc
    rw [HE.out]
    go_enter Tryd.func19, Tryd.ntmps19
    go_wp2_with (go_at_call 43; (with_reducible refine (HO.out _).mono ?_); rintro e w1 ⟨rfl, hb⟩; have H := Lib.hid (H.out.next hb); clear f1 f2 f3 f4 hb; obtain ⟨f1, f2, f3, f4⟩ := H.out.facts; obtain ⟨k1, k2, k3, k4⟩ := H.out.res)
    exact bodyPost_ret (ret_rt_2 rfl rfl rfl (H.out.put 0 0).rr) rfl ⟨rfl, (H.out.put 0 0).bel⟩
def divR (n d m c : Int) : Int × Int × Int := if Maybe n d ∧ Maybe m c then if m = 0 then (0, 0, 13) else low (n * c) (d * m) else (0, 0, 1)
set_option maxHeartbeats 4000000 in
theorem ratdiv_any (n d m c : Int) (w : World) (hn : Fit n) (hd : Fit d) (hm : Fit m) (hc : Fit c) : Calls Tryd.prog 20 #[.agg #[.int .i64 n, .int .i64 d], .agg #[.int .i64 m, .int .i64 c]] w (RatE (divR n d m c) w) := by
  have H := Lib.hid (BuH.start w n d m c)
  have HO := Lib.hid (fun W => both_any n d m c W hn hd hm hc)
  obtain ⟨f1, f2, f3, f4⟩ := H.out.facts
  by_cases hmb : Maybe n d ∧ Maybe m c
  · have hb1 : decide (Maybe n d ∧ Maybe m c) = true := decide_eq_true hmb
    have HE := Lib.hid (show divR n d m c = if m = 0 then (0, 0, 13) else low (n * c) (d * m) from if_pos hmb)
    rw [hb1] at HO
    have hd0 : d ≠ 0 := by have := hmb.1.1; omega
    have hc0 : c ≠ 0 := by have := hmb.2.1; omega
    clear hmb hb1
    rw [HE.out]
    by_cases hm0 : m = 0
    · have hz : (m == 0) = true := by simp [hm0]
      rw [if_pos hm0]
      clear hm0 hn hd hm hc hd0 hc0
      go_enter Tryd.func20, Tryd.ntmps20
      go_wp2_with (go_at_call 43; (with_reducible refine (HO.out _).mono ?_); rintro e w1 ⟨rfl, hb⟩; have H := Lib.hid (H.out.next hb); clear f1 f2 f3 f4 hb; obtain ⟨f1, f2, f3, f4⟩ := H.out.facts; obtain ⟨k1, k2, k3, k4⟩ := H.out.res)
      exact bodyPost_ret (ret_rt_2 rfl rfl rfl (H.out.put 0 0).rr) rfl ⟨rfl, (H.out.put 0 0).bel⟩
    · have hz : (m == 0) = false := by simp [hm0]
      rw [if_neg hm0]
      have T0 := Lib.hid (fun W => times_any n c W hn hc)
      have T1 := Lib.hid (fun W => times_any d m W hd hm)
      obtain ⟨⟨p, q, k⟩, hr⟩ : ∃ r, r = low (n * c) (d * m) := ⟨_, rfl⟩
      rw [← hr]
      have HL := Lib.hid (lowest_pt (n * c) (d * m) p q k hr (mul_ne hd0 hm0))
      clear hr hn hd hm hc hd0 hc0 hm0
      go_enter Tryd.func20, Tryd.ntmps20
      go_wp2_with (go_at_call 43; (with_reducible refine (HO.out _).mono ?_); rintro e w1 ⟨rfl, hb⟩; have H := Lib.hid (H.out.next hb); clear f1 f2 f3 f4 hb; obtain ⟨f1, f2, f3, f4⟩ := H.out.facts; obtain ⟨k1, k2, k3, k4⟩ := H.out.res)
      clear k1 k2 k3 k4
      go_region_held3 (fun w' => w'.cell? ⟨w.heap.size, 0, none⟩ = some (.int .i64 n) ∧ w'.cell? ⟨w.heap.size, 1, none⟩ = some (.int .i64 d) ∧ w'.cell? ⟨w.heap.size + 1, 0, none⟩ = some (.int .i64 m) ∧ w'.cell? ⟨w.heap.size + 1, 1, none⟩ = some (.int .i64 c))
        (first | with_reducible exact H.out.facts | with_reducible exact H.out.drew.facts | with_reducible exact (H.out.put p q).facts | go_keep)
        (first
          | (go_at_call 46; (with_reducible refine (T0.out _).mono ?_); rintro e w2 ⟨V0, rfl, hz, hb⟩; have Z0 := Lib.hid hz; have H := Lib.hid (H.out.drew.next hb); clear hz hb)
          | (go_at_call 46; (with_reducible refine (T1.out _).mono ?_); rintro e w2 ⟨V1, rfl, hz, hb⟩; have Z1 := Lib.hid hz; have Z0 := Lib.hid (Z0.out.bel hb); have H := Lib.hid (H.out.next hb); clear hz hb)
          | (go_at_call 44; (with_reducible refine (HL.out _ _ _ (Z0.out.le (by decide)) (Z1.out.le (by decide))).mono ?_); rintro e w4 ⟨rfl, hb⟩; have H := Lib.hid (H.out.next hb); (try clear k1 k2 k3 k4); obtain ⟨k1, k2, k3, k4⟩ := H.out.res; clear hb))
      all_goals
        go_wp2_with fail
        exact bodyPost_ret (ret_rt_2 rfl rfl rfl (H.out.put p q).rr) rfl ⟨rfl, (H.out.put p q).bel⟩
  · have hb1 : decide (Maybe n d ∧ Maybe m c) = false := decide_eq_false hmb
    have HE := Lib.hid (show divR n d m c = (0, 0, 1) from if_neg hmb)
    rw [hb1] at HO
    clear hmb hb1 hn hd hm hc
    rw [HE.out]
    go_enter Tryd.func20, Tryd.ntmps20
    go_wp2_with (go_at_call 43; (with_reducible refine (HO.out _).mono ?_); rintro e w1 ⟨rfl, hb⟩; have H := Lib.hid (H.out.next hb); clear f1 f2 f3 f4 hb; obtain ⟨f1, f2, f3, f4⟩ := H.out.facts; obtain ⟨k1, k2, k3, k4⟩ := H.out.res)
    exact bodyPost_ret (ret_rt_2 rfl rfl rfl (H.out.put 0 0).rr) rfl ⟨rfl, (H.out.put 0 0).bel⟩
end Go.Proofs.YtjjinncecfilpaaDoor
