/- Proved here: what the reference package's New answers. Condition: numbers of 64 bits. -/
import Derived.Test.YtjjinncecfilpaaDoorXa
namespace Go.Proofs.YtjjinncecfilpaaDoor
open Go.RowKit

theorem ret_rt_2 {fn : Func} {p u : Tmp} {tmps : Array Value} {W : World} {g : Nat} {n d : Int} {x : Value} (h : fn.results = #[.cell p 24, .tmp u]) (hp : tmps.getD p undef = .pointer (some ⟨g, 0, none⟩)) (hx : tmps.getD u undef = x) (hb : Rt W g n d) :
    (results fn tmps).run Tryd.prog W = .ok (.tuple #[.agg #[.int .i64 n, .int .i64 d], x]) W := by
  have hc0 := hb.c0
  have hc1 := hb.c1
  rw [Array.getD_eq_getD_getElem?] at hp hx
  simp [results, h, hp, hx, go_sem, hc0, hc1]
/-- In lowest terms. -/
def lowN (n d : Int) : Int := sv (!(decide (n < 0) == decide (d < 0))) (n.natAbs / n.natAbs.gcd d.natAbs)
def lowD (n d : Int) : Int := ((d.natAbs / n.natAbs.gcd d.natAbs : Nat) : Int)
/-- A fraction, and a code. -/
def low (n d : Int) : Int × Int × Int := if Fit (lowN n d) ∧ Fit (lowD n d) then (lowN n d, lowD n d, 0) else (0, 0, 2)
def newR (n d : Int) : Int × Int × Int := if d = 0 then (0, 0, 13) else low n d
/-- What a call answers that makes a fraction or tells a code. -/
def RatE (r : Int × Int × Int) (w : World) (e : Ending) (w' : World) : Prop := e = .returned (.tuple #[.agg #[.int .i64 r.1, .int .i64 r.2.1], .int .i64 r.2.2]) ∧ Below w.heap.size w w'
theorem new_zero (n : Int) (w : World) : Calls Tryd.prog 10 #[.int .i64 n, .int .i64 0] w (RatE (0, 0, 13) w) := by
  go_enter Tryd.func10, Tryd.ntmps10
  go_wp2_with fail
  exact bodyPost_ret (ret_rt_2 rfl rfl rfl (Rt.new w 0 0)) rfl ⟨rfl, bel_a w _⟩
set_option maxHeartbeats 4000000 in
theorem new_core (n d : Int) (s : Bool) (N D g P Q : Nat) (w : World) (hN : N = n.natAbs) (hD : D = d.natAbs) (hg : g = N.gcd D) (hP : P = N / g) (hQ : Q = D / g) (hs : s = (!(decide (n < 0) == decide (d < 0)) && !(n == 0))) (hn : Fit n) (hd : Fit d) (h0 : d ≠ 0) :
    Calls Tryd.prog 10 #[.int .i64 n, .int .i64 d] w (RatE (if Fit (sv s P) ∧ Fit (Q : Int) then (sv s P, (Q : Int), 0) else (0, 0, 2)) w) := by
  have hNl : N < 18446744073709551616 := by have := hn.1; have := hn.2; omega
  have hDl : D < 18446744073709551616 := by have := hd.1; have := hd.2; omega
  have hg0 : 0 < g := by rw [hg]; exact Nat.gcd_pos_of_pos_right _ (by omega)
  have hPl : P < 18446744073709551616 := by rw [hP]; exact Nat.lt_of_le_of_lt (Nat.div_le_self _ _) hNl
  have hQl : Q < 18446744073709551616 := by rw [hQ]; exact Nat.lt_of_le_of_lt (Nat.div_le_self _ _) hDl
  have HN := Lib.hid (fun W => size_any n W hn.1 hn.2)
  have HD := Lib.hid (fun W => size_any d W hd.1 hd.2)
  have HG := Lib.hid (fun W => common_any N D W hNl hDl)
  rw [← hN] at HN
  rw [← hD] at HD
  rw [← hg] at HG
  have HS := Lib.hid (fun W => signed_any s P W hPl)
  have HT := Lib.hid (fun W => signed_any false Q W hQl)
  have F1 : (N : Int) / (g : Int) = (P : Int) := by rw [hP]; simp
  have F2 : (D : Int) / (g : Int) = (Q : Int) := by rw [hQ]; simp
  have F3 : IntKind.u64.wrap (P : Int) = (P : Int) := wrap_nat rfl hPl
  have F4 : IntKind.u64.wrap (Q : Int) = (Q : Int) := wrap_nat rfl hQl
  have hgz : ¬ (g : Int) = 0 := by omega
  have hdz : (d == 0) = false := by simp [h0]
  have HB := Lib.hid (And.intro (bel_a w (.cells #[.int .i64 0, .int .i64 0] 24)) (Rt.new w 0 0))
  have k1 := HB.out.2.c0
  have k2 := HB.out.2.c1
  have k3 := HB.out.2.fr 0
  have k4 := HB.out.2.fr 1
  clear hN hD hg hP hQ hg0 hNl hDl hPl hQl
  have main : ∀ (b1 b2 : Bool) (z1 z2 : Int), decide (Fit (sv s P)) = b1 → decide (Fit (sv false Q)) = b2 → sv s P = z1 → sv false Q = z2 → Calls Tryd.prog 10 #[.int .i64 n, .int .i64 d] w (RatE (if b1 = true ∧ b2 = true then (z1, z2, 0) else (0, 0, 2)) w) := by
    intro b1 b2 z1 z2 e1 e2 e3 e4
    have HS := Lib.hid (show ∀ W, Calls Tryd.prog 37 #[.bool s, .int .u64 (P : Int)] W fun e w' => (∃ v : Int, e = .returned (.tuple #[.int .i64 v, .bool b1]) ∧ (b1 = true → v = z1)) ∧ W = w' from fun W => (HS.out W).mono fun _ _ ⟨⟨v, he, hv, _⟩, hw⟩ => ⟨⟨v, by rw [he, e1], fun h => by rw [hv (of_decide_eq_true (e1.trans h)), e3]⟩, hw⟩)
    have HT := Lib.hid (show ∀ W, Calls Tryd.prog 37 #[.bool false, .int .u64 (Q : Int)] W fun e w' => (∃ v : Int, e = .returned (.tuple #[.int .i64 v, .bool b2]) ∧ (b2 = true → v = z2)) ∧ W = w' from fun W => (HT.out W).mono fun _ _ ⟨⟨v, he, hv, _⟩, hw⟩ => ⟨⟨v, by rw [he, e2], fun h => by rw [hv (of_decide_eq_true (e2.trans h)), e4]⟩, hw⟩)
    clear e1 e2 e3 e4
    rcases Int.lt_trichotomy n 0 with hn1 | hn1 | hn1
    all_goals by_cases hd1 : d < 0
    all_goals
      first
        | have hn2 : decide (n < 0) = true := decide_eq_true (by omega)
        | have hn2 : decide (n < 0) = false := decide_eq_false (by omega)
      first
        | have hn3 : (n == 0) = true ∧ (n != 0) = false := by simp; omega
        | have hn3 : (n == 0) = false ∧ (n != 0) = true := by simp; omega
      obtain ⟨hn3, hn4⟩ := hn3
      first
        | have hd2 : decide (d < 0) = true := decide_eq_true (by omega)
        | have hd2 : decide (d < 0) = false := decide_eq_false (by omega)
      simp [hn2, hn3, hd2] at hs
      subst hs
      clear hn1 hd1
    all_goals cases b1
    all_goals cases b2
    all_goals
      have hnn := Lib.hid h0
      clear h0 hn hd
      go_enter Tryd.func10, Tryd.ntmps10
      go_wp2_with (first
        | (go_at_call 36; (with_reducible refine (HN.out _).mono ?_); rintro e w1 ⟨rfl, rfl⟩)
        | (go_at_call 36; (with_reducible refine (HD.out _).mono ?_); rintro e w1 ⟨rfl, rfl⟩)
        | (go_at_call 35; (with_reducible refine (HG.out _).mono ?_); rintro e w1 ⟨rfl, rfl⟩)
        | (go_at_call 37; (with_reducible refine (HS.out _).mono ?_); rintro e w1 ⟨⟨v1, rfl, hv1⟩, rfl⟩; have HV1 := Lib.hid hv1; clear hv1)
        | (go_at_call 37; (with_reducible refine (HT.out _).mono ?_); rintro e w1 ⟨⟨v2, rfl, hv2⟩, rfl⟩; have HV2 := Lib.hid hv2; clear hv2))
      first
        | exact bodyPost_ret (ret_rt_2 rfl rfl rfl (Rt.new w _ _)) rfl ⟨rfl, bel_a w _⟩
        | (have x1 := HV1.out trivial; have x2 := HV2.out trivial; rw [← x1, ← x2]; exact bodyPost_ret (ret_rt_2 rfl rfl rfl (Rt.new w _ _)) rfl ⟨rfl, bel_a w _⟩)

  have e : (if Fit (sv s P) ∧ Fit (Q : Int) then (sv s P, (Q : Int), 0) else (0, 0, 2)) = (if decide (Fit (sv s P)) = true ∧ decide (Fit (sv false Q)) = true then (sv s P, sv false Q, 0) else ((0, 0, 2) : Int × Int × Int)) := by
    have hq : sv false Q = (Q : Int) := sv_false Q
    rw [← hq]
    by_cases h1 : Fit (sv s P) <;> by_cases h2 : Fit (sv false Q) <;> simp only [h1, h2, decide_true, decide_false, and_true, and_false, if_true, if_false, Bool.false_eq_true]
  rw [e]
  exact main _ _ _ _ rfl rfl rfl rfl
theorem new_any (n d : Int) (w : World) (hn : Fit n) (hd : Fit d) : Calls Tryd.prog 10 #[.int .i64 n, .int .i64 d] w (RatE (newR n d) w) := by
  by_cases h0 : d = 0
  · subst h0
    exact new_zero n w
  · have h := new_core n d _ _ _ _ _ _ w rfl rfl rfl rfl rfl rfl hn hd h0
    have e : sv (!(decide (n < 0) == decide (d < 0)) && !(n == 0)) (n.natAbs / n.natAbs.gcd d.natAbs) = lowN n d := by
      unfold lowN
      by_cases hz : n = 0
      · subst hz
        have e0 : Int.natAbs 0 / (Int.natAbs 0).gcd d.natAbs = 0 := by rw [Int.natAbs_zero, Nat.zero_div]
        have e1 : ∀ b, sv b 0 = 0 := fun b => by cases b <;> rfl
        rw [e0, e1, e1]
      · have hb : (n == 0) = false := by simpa using hz
        rw [hb, Bool.not_false, Bool.and_true]
    rw [e] at h
    unfold newR low
    rw [if_neg h0]
    exact h
end Go.Proofs.YtjjinncecfilpaaDoor
