/- Proved here: what the document's numbers of any size answer and leave in memory (ported). Conditions stand at each. -/
import Derived.Test.YtpobhegllhhdgaaGreatVB
import Derived.Test.YtpobhegllhhdgaaGreatQf
import Derived.IntWalk
import Derived.BigQuiet
import Derived.Deep.QuietTactic
import Derived.Deep.CutBlock
import Derived.Deep.CutRange
import Derived.Deep.DeepCutAuto
namespace Go.Proofs.YtpobhegllhhdgaaGreat
open Go.RowKit

theorem signed_any (neg : Bool) (u : Nat) (w : World) (hu : u < 18446744073709551616) : Calls Tryz.prog 57 #[.bool neg, .int .u64 (u : Int)] w fun e w' => (∃ v : Int, e = .returned (.tuple #[.int .i64 v, .bool (decide (Fit (sv neg u)))]) ∧ (Fit (sv neg u) → v = sv neg u) ∧ Fit v) ∧ w = w' := by
  cases neg
  · go_enter Tryz.func57, Tryz.ntmps57
    go_wp2_with fail
    go_ret2
    have e : decide ((u : Int) < 9223372036854775808) = decide (Fit (sv false u)) := by rw [decide_eq_decide]; simp [Fit, sv]; try omega
    exact ⟨⟨wrap64 (u : Int), by rw [e]; rfl, fun h => by simp only [Fit, sv] at h ⊢; unfold wrap64; simp at h ⊢; omega, by unfold Fit wrap64; omega⟩, rfl⟩
  · go_enter Tryz.func57, Tryz.ntmps57
    go_wp2_with fail
    go_ret2
    have e : decide ((u : Int) ≤ 9223372036854775808) = decide (Fit (sv true u)) := by rw [decide_eq_decide]; simp [Fit, sv]; try omega
    exact ⟨⟨wrap64 (IntKind.u64.wrap (-(u : Int))), by rw [e]; rfl, fun h => by simp only [Fit, sv] at h ⊢; rw [wrap_u64m]; unfold wrap64; simp at h ⊢; omega, by rw [wrap_u64m]; unfold Fit wrap64; omega⟩, rfl⟩
section
variable {w w' : World} {g : Nat} {n d : Int}
theorem Rt.fr (h : Rt w g n d) (j : Nat) : w.frozen? ⟨g, j, none⟩ = false := by
  unfold Rt at h
  simp [World.frozen?, h]
theorem Rt.bel (h : Rt w g n d) (hb : Below w.heap.size w w') : Rt w' g n d := h.below hb h.lt
theorem Rt.newg {G : Nat} (hG : G = w.heap.size) : Rt (w.alloc (.cells #[.int .i64 n, .int .i64 d] 24)) G n d := hG ▸ Rt.new w n d
theorem Rt.set0 (h : Rt w g n d) (m : Int) : Rt (w.setCell ⟨g, 0, none⟩ (.int .i64 m)) g m d := by
  unfold Rt at h ⊢
  simp [World.setCell, Array.getElem?_modify, h]
theorem Rt.set1 (h : Rt w g n d) (m : Int) : Rt (w.setCell ⟨g, 1, none⟩ (.int .i64 m)) g n m := by
  unfold Rt at h ⊢
  simp [World.setCell, Array.getElem?_modify, h]
end
theorem both_any (n d m c : Int) (w : World) (hn : Fit n) (hd : Fit d) (hm : Fit m) (hc : Fit c) : Calls Tryz.prog 60 #[.agg #[.int .i64 n, .int .i64 d], .agg #[.int .i64 m, .int .i64 c]] w fun e w' => e = .returned (.bool (decide (Maybe n d ∧ Maybe m c))) ∧ Below w.heap.size w w' := by
  have HA := Lib.hid (fun W => may_any n d W hn hd)
  have HC := Lib.hid (fun W => may_any m c W hm hc)
  have b0 := bel_tr (bel_a w (.cells #[.int .i64 n, .int .i64 d] 24)) (bel_a _ (.cells #[.int .i64 m, .int .i64 c] 24))
  have x0 : Rt ((w.alloc (.cells #[.int .i64 n, .int .i64 d] 24)).alloc (.cells #[.int .i64 m, .int .i64 c] 24)) (w.heap.size + 1) m c := Rt.newg (by simp)
  have y0 : Rt ((w.alloc (.cells #[.int .i64 n, .int .i64 d] 24)).alloc (.cells #[.int .i64 m, .int .i64 c] 24)) w.heap.size n d := (Rt.new w n d).alloc _
  have HB := Lib.hid (And.intro b0 (And.intro x0 y0))
  clear hn hd hm hc b0 x0 y0
  by_cases h1 : Maybe n d
  · have hd1 : decide (Maybe n d) = true := decide_eq_true h1
    have HE := Lib.hid (show decide (Maybe m c) = decide (Maybe n d ∧ Maybe m c) by rw [decide_eq_decide]; exact ⟨fun h => ⟨h1, h⟩, fun h => h.2⟩)
    go_enter Tryz.func60, Tryz.ntmps60
    go_wp2_with (first
      | (go_at_call 42; (with_reducible refine (HA.out _).mono ?_); rintro e w1 ⟨he, hb⟩; rw [hd1] at he; subst he; have HB := Lib.hid (And.intro (bel_tr HB.out.1 hb) (And.intro (HB.out.2.1.bel hb) (HB.out.2.2.bel hb))); have f1 := HB.out.2.1.c0; have f2 := HB.out.2.1.c1; clear hb)
      | (go_at_call 42; (with_reducible refine (HC.out _).mono ?_); rintro e w2 ⟨he, hb⟩; subst he; have HB := Lib.hid (bel_tr HB.out.1 hb); clear hb))
    go_ret
    exact ⟨by rw [← HE.out]; rfl, HB.out⟩
  · have hd1 : decide (Maybe n d) = false := decide_eq_false h1
    have HE := Lib.hid (show decide (Maybe n d ∧ Maybe m c) = false from decide_eq_false fun h => h1 h.1)
    go_enter Tryz.func60, Tryz.ntmps60
    go_wp2_with (go_at_call 42; (with_reducible refine (HA.out _).mono ?_); rintro e w1 ⟨he, hb⟩; rw [hd1] at he; subst he; have HB := Lib.hid (bel_tr HB.out.1 hb); clear hb)
    go_ret
    exact ⟨by rw [HE.out]; rfl, HB.out⟩
end Go.Proofs.YtpobhegllhhdgaaGreat

namespace Go.Proofs.YtpobhegllhhdgaaGreat
open Go.RowKit

theorem ret_rt_2 {fn : Func} {p u : Tmp} {tmps : Array Value} {W : World} {g : Nat} {n d : Int} {x : Value} (h : fn.results = #[.cell p 24, .tmp u]) (hp : tmps.getD p undef = .pointer (some ⟨g, 0, none⟩)) (hx : tmps.getD u undef = x) (hb : Rt W g n d) :
    (results fn tmps).run Tryz.prog W = .ok (.tuple #[.agg #[.int .i64 n, .int .i64 d], x]) W := by
  have hc0 := hb.c0
  have hc1 := hb.c1
  rw [Array.getD_eq_getD_getElem?] at hp hx
  simp [results, h, hp, hx, go_sem, hc0, hc1]
/-- In lowest terms. -/
def lowN (n d : Int) : Int := sv (!(decide (n < 0) == decide (d < 0))) (n.natAbs / n.natAbs.gcd d.natAbs)
def lowD (n d : Int) : Int := ((d.natAbs / n.natAbs.gcd d.natAbs : Nat) : Int)
/-- A fraction, and a code. -/
def low (n d : Int) : Int × Int × Int := if Fit (lowN n d) ∧ Fit (lowD n d) then (lowN n d, lowD n d, 0) else (0, 0, 2)
def newR (n d : Int) : Int × Int × Int := if d = 0 then (0, 0, 13) else low n d
/-- What a call answers that makes a fraction or tells a code. -/
def RatE (r : Int × Int × Int) (w : World) (e : Ending) (w' : World) : Prop := e = .returned (.tuple #[.agg #[.int .i64 r.1, .int .i64 r.2.1], .int .i64 r.2.2]) ∧ Below w.heap.size w w'
theorem new_zero (n : Int) (w : World) : Calls Tryz.prog 22 #[.int .i64 n, .int .i64 0] w (RatE (0, 0, 13) w) := by
  go_enter Tryz.func22, Tryz.ntmps22
  go_wp2_with fail
  exact bodyPost_ret (ret_rt_2 rfl rfl rfl (Rt.new w 0 0)) rfl ⟨rfl, bel_a w _⟩
set_option maxHeartbeats 4000000 in
theorem new_core (n d : Int) (s : Bool) (N D g P Q : Nat) (w : World) (hN : N = n.natAbs) (hD : D = d.natAbs) (hg : g = N.gcd D) (hP : P = N / g) (hQ : Q = D / g) (hs : s = (!(decide (n < 0) == decide (d < 0)) && !(n == 0))) (hn : Fit n) (hd : Fit d) (h0 : d ≠ 0) :
    Calls Tryz.prog 22 #[.int .i64 n, .int .i64 d] w (RatE (if Fit (sv s P) ∧ Fit (Q : Int) then (sv s P, (Q : Int), 0) else (0, 0, 2)) w) := by
  have hNl : N < 18446744073709551616 := by have := hn.1; have := hn.2; omega
  have hDl : D < 18446744073709551616 := by have := hd.1; have := hd.2; omega
  have hg0 : 0 < g := by rw [hg]; exact Nat.gcd_pos_of_pos_right _ (by omega)
  have hPl : P < 18446744073709551616 := by rw [hP]; exact Nat.lt_of_le_of_lt (Nat.div_le_self _ _) hNl
  have hQl : Q < 18446744073709551616 := by rw [hQ]; exact Nat.lt_of_le_of_lt (Nat.div_le_self _ _) hDl
  have HN := Lib.hid (fun W => size_any n W hn.1 hn.2)
  have HD := Lib.hid (fun W => size_any d W hd.1 hd.2)
  have HG := Lib.hid (fun W => common_any N D W hNl hDl)
  rw [← hN] at HN
  rw [← hD] at HD
  rw [← hg] at HG
  have HS := Lib.hid (fun W => signed_any s P W hPl)
  have HT := Lib.hid (fun W => signed_any false Q W hQl)
  have F1 : (N : Int) / (g : Int) = (P : Int) := by rw [hP]; simp
  have F2 : (D : Int) / (g : Int) = (Q : Int) := by rw [hQ]; simp
  have F3 : IntKind.u64.wrap (P : Int) = (P : Int) := wrap_nat rfl hPl
  have F4 : IntKind.u64.wrap (Q : Int) = (Q : Int) := wrap_nat rfl hQl
  have hgz : ¬ (g : Int) = 0 := by omega
  have hdz : (d == 0) = false := by simp [h0]
  have HB := Lib.hid (And.intro (bel_a w (.cells #[.int .i64 0, .int .i64 0] 24)) (Rt.new w 0 0))
  have k1 := HB.out.2.c0
  have k2 := HB.out.2.c1
  have k3 := HB.out.2.fr 0
  have k4 := HB.out.2.fr 1
  clear hN hD hg hP hQ hg0 hNl hDl hPl hQl
  have main : ∀ (b1 b2 : Bool) (z1 z2 : Int), decide (Fit (sv s P)) = b1 → decide (Fit (sv false Q)) = b2 → sv s P = z1 → sv false Q = z2 → Calls Tryz.prog 22 #[.int .i64 n, .int .i64 d] w (RatE (if b1 = true ∧ b2 = true then (z1, z2, 0) else (0, 0, 2)) w) := by
    intro b1 b2 z1 z2 e1 e2 e3 e4
    have HS := Lib.hid (show ∀ W, Calls Tryz.prog 57 #[.bool s, .int .u64 (P : Int)] W fun e w' => (∃ v : Int, e = .returned (.tuple #[.int .i64 v, .bool b1]) ∧ (b1 = true → v = z1)) ∧ W = w' from fun W => (HS.out W).mono fun _ _ ⟨⟨v, he, hv, _⟩, hw⟩ => ⟨⟨v, by rw [he, e1], fun h => by rw [hv (of_decide_eq_true (e1.trans h)), e3]⟩, hw⟩)
    have HT := Lib.hid (show ∀ W, Calls Tryz.prog 57 #[.bool false, .int .u64 (Q : Int)] W fun e w' => (∃ v : Int, e = .returned (.tuple #[.int .i64 v, .bool b2]) ∧ (b2 = true → v = z2)) ∧ W = w' from fun W => (HT.out W).mono fun _ _ ⟨⟨v, he, hv, _⟩, hw⟩ => ⟨⟨v, by rw [he, e2], fun h => by rw [hv (of_decide_eq_true (e2.trans h)), e4]⟩, hw⟩)
    clear e1 e2 e3 e4
    rcases Int.lt_trichotomy n 0 with hn1 | hn1 | hn1
    all_goals by_cases hd1 : d < 0
    all_goals
      first
        | have hn2 : decide (n < 0) = true := decide_eq_true (by omega)
        | have hn2 : decide (n < 0) = false := decide_eq_false (by omega)
      first
        | have hn3 : (n == 0) = true ∧ (n != 0) = false := by simp; omega
        | have hn3 : (n == 0) = false ∧ (n != 0) = true := by simp; omega
      obtain ⟨hn3, hn4⟩ := hn3
      first
        | have hd2 : decide (d < 0) = true := decide_eq_true (by omega)
        | have hd2 : decide (d < 0) = false := decide_eq_false (by omega)
      simp [hn2, hn3, hd2] at hs
      subst hs
      clear hn1 hd1
    all_goals cases b1
    all_goals cases b2
    all_goals
      have hnn := Lib.hid h0
      clear h0 hn hd
      go_enter Tryz.func22, Tryz.ntmps22
      go_wp2_with (first
        | (go_at_call 56; (with_reducible refine (HN.out _).mono ?_); rintro e w1 ⟨rfl, rfl⟩)
        | (go_at_call 56; (with_reducible refine (HD.out _).mono ?_); rintro e w1 ⟨rfl, rfl⟩)
        | (go_at_call 55; (with_reducible refine (HG.out _).mono ?_); rintro e w1 ⟨rfl, rfl⟩)
        | (go_at_call 57; (with_reducible refine (HS.out _).mono ?_); rintro e w1 ⟨⟨v1, rfl, hv1⟩, rfl⟩; have HV1 := Lib.hid hv1; clear hv1)
        | (go_at_call 57; (with_reducible refine (HT.out _).mono ?_); rintro e w1 ⟨⟨v2, rfl, hv2⟩, rfl⟩; have HV2 := Lib.hid hv2; clear hv2))
      first
        | exact bodyPost_ret (ret_rt_2 rfl rfl rfl (Rt.new w _ _)) rfl ⟨rfl, bel_a w _⟩
        | (have x1 := HV1.out trivial; have x2 := HV2.out trivial; rw [← x1, ← x2]; exact bodyPost_ret (ret_rt_2 rfl rfl rfl (Rt.new w _ _)) rfl ⟨rfl, bel_a w _⟩)

  have e : (if Fit (sv s P) ∧ Fit (Q : Int) then (sv s P, (Q : Int), 0) else (0, 0, 2)) = (if decide (Fit (sv s P)) = true ∧ decide (Fit (sv false Q)) = true then (sv s P, sv false Q, 0) else ((0, 0, 2) : Int × Int × Int)) := by
    have hq : sv false Q = (Q : Int) := sv_false Q
    rw [← hq]
    by_cases h1 : Fit (sv s P) <;> by_cases h2 : Fit (sv false Q) <;> simp only [h1, h2, decide_true, decide_false, and_true, and_false, if_true, if_false, Bool.false_eq_true]
  rw [e]
  exact main _ _ _ _ rfl rfl rfl rfl
theorem new_any (n d : Int) (w : World) (hn : Fit n) (hd : Fit d) : Calls Tryz.prog 22 #[.int .i64 n, .int .i64 d] w (RatE (newR n d) w) := by
  by_cases h0 : d = 0
  · subst h0
    exact new_zero n w
  · have h := new_core n d _ _ _ _ _ _ w rfl rfl rfl rfl rfl rfl hn hd h0
    have e : sv (!(decide (n < 0) == decide (d < 0)) && !(n == 0)) (n.natAbs / n.natAbs.gcd d.natAbs) = lowN n d := by
      unfold lowN
      by_cases hz : n = 0
      · subst hz
        have e0 : Int.natAbs 0 / (Int.natAbs 0).gcd d.natAbs = 0 := by rw [Int.natAbs_zero, Nat.zero_div]
        have e1 : ∀ b, sv b 0 = 0 := fun b => by cases b <;> rfl
        rw [e0, e1, e1]
      · have hb : (n == 0) = false := by simpa using hz
        rw [hb, Bool.not_false, Bool.and_true]
    rw [e] at h
    unfold newR low
    rw [if_neg h0]
    exact h
end Go.Proofs.YtpobhegllhhdgaaGreat

namespace Go.Proofs.YtpobhegllhhdgaaGreat
open Go.RowKit

set_option maxHeartbeats 1000000 in
theorem times_any (a b : Int) (w : World) (ha : Fit a) (hb : Fit b) : Calls Tryz.prog 62 #[.int .i64 a, .int .i64 b] w (NumE (a * b) 9 w) := by
  have H0 := Lib.hid (B0.start 69 w)
  have HA := Lib.hid (fun W => rof_any a W ha.1 ha.2)
  have HB := Lib.hid (fun W => rof_any b W hb.1 hb.2)
  clear ha hb
  go_enter Tryz.func62, Tryz.ntmps62
  go_wp2_with (first
    | (go_at_call 71; (with_reducible refine (HA.out _).mono ?_); rintro e w1 ⟨Z1, rfl, hz, hb1⟩; have HZ1 := Lib.hid hz; have H0 := Lib.hid (H0.out.next hb1); clear hz hb1)
    | (go_at_call 71; (with_reducible refine (HB.out _).mono ?_); rintro e w2 ⟨Z2, rfl, hz, hb1⟩; have HZ2 := Lib.hid hz; have HZ1 := Lib.hid (HZ1.out.bel hb1); have H0 := Lib.hid (H0.out.next hb1); clear hz hb1)
    | (go_at_call 70; (with_reducible refine (rmul_any Z1 Z2 a b 4 4 _ HZ1.out HZ2.out (by decide) (by decide)).mono ?_); rintro e w3 he; obtain ⟨b4, C4, p4, q4, zs, rfl, hs, hb4⟩ := he.open_; have HS := Lib.hid hs; have H0 := Lib.hid (H0.out.next hb4); obtain ⟨f1, f2, f3, f4⟩ := H0.out.facts; clear he hs hb4))
  exact bodyPost_ret (ret_bx28 rfl rfl (H0.out.fin b4 _)) rfl (num_fin0 H0.out HS.out rfl (Nat.le_refl _))
end Go.Proofs.YtpobhegllhhdgaaGreat

namespace Go.Proofs.YtpobhegllhhdgaaGreat
open Go.RowKit

/-- Two fractions in boxes. -/
structure BtH (w W : World) (n d m c : Int) : Prop where
  ba : Rt W w.heap.size n d
  bb : Rt W (w.heap.size + 1) m c
  bel : Below w.heap.size w W
section
variable {w W W' : World} {n d m c : Int}
theorem BtH.start (w : World) (n d m c : Int) : BtH w ((w.alloc (.cells #[.int .i64 n, .int .i64 d] 24)).alloc (.cells #[.int .i64 m, .int .i64 c] 24)) n d m c :=
  ⟨(Rt.new w n d).alloc _, Rt.newg (by simp), bel_tr (bel_a w _) (bel_a _ _)⟩
theorem BtH.next (h : BtH w W n d m c) (hb : Below W.heap.size W W') : BtH w W' n d m c := ⟨h.ba.bel hb, h.bb.bel hb, bel_tr h.bel hb⟩
theorem BtH.drew (h : BtH w W n d m c) : BtH w W.drew n d m c := ⟨h.ba, h.bb, h.bel.drew⟩
theorem BtH.facts (h : BtH w W n d m c) : W.cell? ⟨w.heap.size, 0, none⟩ = some (.int .i64 n) ∧ W.cell? ⟨w.heap.size, 1, none⟩ = some (.int .i64 d) ∧ W.cell? ⟨w.heap.size + 1, 0, none⟩ = some (.int .i64 m) ∧ W.cell? ⟨w.heap.size + 1, 1, none⟩ = some (.int .i64 c) :=
  ⟨h.ba.c0, h.ba.c1, h.bb.c0, h.bb.c1⟩
end
def cmpR (n d m c : Int) : Int × Int := if Maybe n d ∧ Maybe m c then (cmpI (n * c) (m * d), 0) else (0, 1)
set_option maxHeartbeats 2000000 in
theorem cmpn_any (n d m c : Int) (w : World) (hn : Fit n) (hd : Fit d) (hm : Fit m) (hc : Fit c) : Calls Tryz.prog 24 #[.agg #[.int .i64 n, .int .i64 d], .agg #[.int .i64 m, .int .i64 c]] w fun e w' => e = .returned (.tuple #[.int .i64 (cmpR n d m c).1, .int .i64 (cmpR n d m c).2]) ∧ Below w.heap.size w w' := by
  have H := Lib.hid (BtH.start w n d m c)
  have HO := Lib.hid (fun W => both_any n d m c W hn hd hm hc)
  have H1 := Lib.hid (fun W => times_any n c W hn hc)
  have H2 := Lib.hid (fun W => times_any m d W hm hd)
  obtain ⟨f1, f2, f3, f4⟩ := H.out.facts
  clear hn hd hm hc
  by_cases hmb : Maybe n d ∧ Maybe m c
  · have hb1 : decide (Maybe n d ∧ Maybe m c) = true := decide_eq_true hmb
    have HM := Lib.hid (show cmpR n d m c = (cmpI (n * c) (m * d), 0) from if_pos hmb)
    rw [hb1] at HO
    clear hmb hb1
    obtain ⟨v, hv⟩ : ∃ v, v = cmpI (n * c) (m * d) := ⟨_, rfl⟩
    rw [← hv] at HM
    have HC := Lib.hid hv
    clear hv
    rw [HM.out]
    go_enter Tryz.func24, Tryz.ntmps24
    go_wp2_with (go_at_call 60; (with_reducible refine (HO.out _).mono ?_); rintro e w1 ⟨rfl, hb⟩; have H := Lib.hid (H.out.next hb); clear f1 f2 f3 f4 hb)
    go_region_held3 (fun w' => w'.cell? ⟨w.heap.size, 0, none⟩ = some (.int .i64 n) ∧ w'.cell? ⟨w.heap.size, 1, none⟩ = some (.int .i64 d) ∧ w'.cell? ⟨w.heap.size + 1, 0, none⟩ = some (.int .i64 m) ∧ w'.cell? ⟨w.heap.size + 1, 1, none⟩ = some (.int .i64 c))
      (first | with_reducible exact H.out.facts | with_reducible exact H.out.drew.facts | go_keep)
      (first
        | (go_at_call 62; (with_reducible refine (H1.out _).mono ?_); rintro e w2 ⟨Z1, rfl, hz, hb⟩; have HZ1 := Lib.hid hz; have H := Lib.hid (H.out.drew.next hb); clear hz hb)
        | (go_at_call 62; (with_reducible refine (H2.out _).mono ?_); rintro e w3 ⟨Z2, rfl, hz, hb⟩; have HZ2 := Lib.hid hz; have HZ1 := Lib.hid (HZ1.out.bel hb); have H := Lib.hid (H.out.next hb); clear hz hb)
        | (go_at_call 61; (with_reducible refine (rcmp_any _ _ _ _ 9 9 _ HZ1.out HZ2.out (by decide) (by decide)).mono ?_); rintro e w4 ⟨he, hb⟩; rw [← HC.out] at he; subst he; have H := Lib.hid (H.out.next hb); clear hb))
    all_goals
      go_wp2_with fail
      go_ret2
      exact ⟨rfl, H.out.bel⟩
  · have hb1 : decide (Maybe n d ∧ Maybe m c) = false := decide_eq_false hmb
    have HM := Lib.hid (show cmpR n d m c = (0, 1) from if_neg hmb)
    rw [hb1] at HO
    clear hmb hb1
    rw [HM.out]
    go_enter Tryz.func24, Tryz.ntmps24
    go_wp2_with (go_at_call 60; (with_reducible refine (HO.out _).mono ?_); rintro e w1 ⟨rfl, hb⟩; have H := Lib.hid (H.out.next hb); clear f1 f2 f3 f4 hb)
    go_ret2
    exact ⟨rfl, H.out.bel⟩
end Go.Proofs.YtpobhegllhhdgaaGreat

namespace Go.Proofs.YtpobhegllhhdgaaGreat
open Go.RowKit

theorem size_a (w : World) (o : Obj) : (w.alloc o).heap.size = w.heap.size + 1 := by simp
theorem Rt.far2 {W : World} {G g : Nat} {n d : Int} {x y : Value} (h : Rt W G n d) (hg : G ≠ g) : Rt ((W.setCell ⟨g, 0, none⟩ x).setCell ⟨g, 1, none⟩ y) G n d := (h.far hg _).far hg _
/-- A fraction in a box, and boxes that are yet empty. -/
structure RqH (L : List Nat) (w W : World) (n d : Int) : Prop where
  ba : Rt W w.heap.size n d
  bxs : ∀ g ∈ L, w.heap.size < g ∧ Bx 69 W g false (.slice none 0 0)
  bel : Below w.heap.size w W
section
variable {L : List Nat} {w W W' : World} {n d : Int} {g : Nat}
theorem RqH.next (h : RqH L w W n d) (hb : Below W.heap.size W W') : RqH L w W' n d := ⟨h.ba.bel hb, fun g hg => ⟨(h.bxs g hg).1, (h.bxs g hg).2.bel hb⟩, bel_tr h.bel hb⟩
theorem RqH.drew (h : RqH L w W n d) : RqH L w W.drew n d := ⟨h.ba, h.bxs, h.bel.drew⟩
theorem RqH.alloc (h : RqH L w W n d) : RqH (W.heap.size :: L) w (W.alloc (.cells #[.bool false, .slice none 0 0] 69)) n d :=
  ⟨h.ba.alloc _, fun g hg => by
    rcases List.mem_cons.1 hg with rfl | hg
    · exact ⟨h.ba.lt, Bx.new 69 W _ _⟩
    · exact ⟨(h.bxs g hg).1, (h.bxs g hg).2.alloc _⟩, bel_tr h.bel (bel_a _ _)⟩
theorem RqH.fs (h : RqH L w W n d) : ∀ g ∈ L, W.cell? ⟨g, 0, none⟩ = some (.bool false) ∧ W.cell? ⟨g, 1, none⟩ = some (.slice none 0 0) ∧ W.frozen? ⟨g, 0, none⟩ = false ∧ W.frozen? ⟨g, 1, none⟩ = false := fun g hg =>
  have hB := (h.bxs g hg).2
  ⟨hB.c0, hB.c1, hB.fr 0, hB.fr 1⟩
end
/-- A fraction in a box, and what is over. -/
structure RoH (w W : World) (n d : Int) (g : Nat) (b : Bool) (v : Value) (x : Int) : Prop where
  ba : Rt W w.heap.size n d
  X : Bx 69 W g b v
  N : NumC W (.agg #[.bool b, v]) x 10
  bel : Below w.heap.size w W
section
variable {L : List Nat} {w W W' : World} {n d x : Int} {g : Nat} {b : Bool} {v : Value}
theorem RoH.next (h : RoH w W n d g b v x) (hb : Below W.heap.size W W') : RoH w W' n d g b v x := ⟨h.ba.bel hb, h.X.bel hb, h.N.bel hb, bel_tr h.bel hb⟩
theorem RoH.drew (h : RoH w W n d g b v x) : RoH w W.drew n d g b v x := ⟨h.ba, h.X, h.N, h.bel.drew⟩
theorem RoH.facts (h : RoH w W n d g b v x) : W.cell? ⟨w.heap.size, 1, none⟩ = some (.int .i64 d) ∧ W.cell? ⟨g, 0, none⟩ = some (.bool b) ∧ W.cell? ⟨g, 1, none⟩ = some v := ⟨h.ba.c1, h.X.c0, h.X.c1⟩
theorem RqH.finA (h : RqH L w W n d) (hN : NumC W (.agg #[.bool b, v]) x 10) : RoH w (W.alloc (.cells #[.bool b, v] 69)) n d W.heap.size b v x := ⟨h.ba.alloc _, Bx.new 69 W b v, hN.bel (bel_a _ _), bel_tr h.bel (bel_a _ _)⟩
theorem RqH.finB (h : RqH L w W n d) (hg : g ∈ L) (hN : NumC W (.agg #[.bool b, v]) x 10) : RoH w ((W.setCell ⟨g, 0, none⟩ (.bool b)).setCell ⟨g, 1, none⟩ v) n d g b v x :=
  have hB := (h.bxs g hg).2
  have hl := (h.bxs g hg).1
  ⟨h.ba.far2 (by omega), (hB.set0 b).set1 v, (hN.box_ hB 0 _).box_ (hB.set0 b) 1 _, bel_set (bel_set h.bel (by omega) _ _) (by omega) _ _⟩
end
end Go.Proofs.YtpobhegllhhdgaaGreat

namespace Go.Proofs.YtpobhegllhhdgaaGreat
open Go.RowKit

/-- Two fractions in boxes, and the answer's box. -/
structure BuH (w W : World) (n d m c p q : Int) : Prop where
  ba : Rt W w.heap.size n d
  bb : Rt W (w.heap.size + 1) m c
  rr : Rt W (w.heap.size + 1 + 1) p q
  bel : Below w.heap.size w W
section
variable {w W W' : World} {n d m c p q : Int}
theorem BuH.start (w : World) (n d m c : Int) : BuH w (((w.alloc (.cells #[.int .i64 n, .int .i64 d] 24)).alloc (.cells #[.int .i64 m, .int .i64 c] 24)).alloc (.cells #[.int .i64 0, .int .i64 0] 24)) n d m c 0 0 :=
  ⟨((Rt.new w n d).alloc _).alloc _, (Rt.newg (by simp)).alloc _, Rt.newg (by simp), bel_tr (bel_tr (bel_a w _) (bel_a _ _)) (bel_a _ _)⟩
theorem BuH.next (h : BuH w W n d m c p q) (hb : Below W.heap.size W W') : BuH w W' n d m c p q := ⟨h.ba.bel hb, h.bb.bel hb, h.rr.bel hb, bel_tr h.bel hb⟩
theorem BuH.drew (h : BuH w W n d m c p q) : BuH w W.drew n d m c p q := ⟨h.ba, h.bb, h.rr, h.bel.drew⟩
theorem BuH.facts (h : BuH w W n d m c p q) : W.cell? ⟨w.heap.size, 0, none⟩ = some (.int .i64 n) ∧ W.cell? ⟨w.heap.size, 1, none⟩ = some (.int .i64 d) ∧ W.cell? ⟨w.heap.size + 1, 0, none⟩ = some (.int .i64 m) ∧ W.cell? ⟨w.heap.size + 1, 1, none⟩ = some (.int .i64 c) :=
  ⟨h.ba.c0, h.ba.c1, h.bb.c0, h.bb.c1⟩
theorem BuH.res (h : BuH w W n d m c p q) : W.cell? ⟨w.heap.size + 1 + 1, 0, none⟩ = some (.int .i64 p) ∧ W.cell? ⟨w.heap.size + 1 + 1, 1, none⟩ = some (.int .i64 q) ∧ W.frozen? ⟨w.heap.size + 1 + 1, 0, none⟩ = false ∧ W.frozen? ⟨w.heap.size + 1 + 1, 1, none⟩ = false :=
  ⟨h.rr.c0, h.rr.c1, h.rr.fr 0, h.rr.fr 1⟩
theorem BuH.put (h : BuH w W n d m c p q) (x y : Int) : BuH w ((W.setCell ⟨w.heap.size + 1 + 1, 0, none⟩ (.int .i64 x)).setCell ⟨w.heap.size + 1 + 1, 1, none⟩ (.int .i64 y)) n d m c x y :=
  ⟨h.ba.far2 (by omega), h.bb.far2 (by omega), (h.rr.set0 x).set1 y, bel_set (bel_set h.bel (by omega) _ _) (by omega) _ _⟩
end
def addR (n d m c : Int) : Int × Int × Int := if Maybe n d ∧ Maybe m c then low (n * c + m * d) (d * c) else (0, 0, 1)
def subR (n d m c : Int) : Int × Int × Int := if Maybe n d ∧ Maybe m c then low (n * c - m * d) (d * c) else (0, 0, 1)
def mulR (n d m c : Int) : Int × Int × Int := if Maybe n d ∧ Maybe m c then low (n * m) (d * c) else (0, 0, 1)
end Go.Proofs.YtpobhegllhhdgaaGreat
