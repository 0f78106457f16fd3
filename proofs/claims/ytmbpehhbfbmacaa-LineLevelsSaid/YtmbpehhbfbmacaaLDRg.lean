/- Proved here: what the reference package's Less, Minus and Digits answer and leave in memory. Condition: digits below 65536, as lists that lie in memory. -/
import Derived.Test.YtmbpehhbfbmacaaLDRf
namespace Go.Proofs.Ytmbpehhbfbmacaa
open Go.RowKit

/-- -1, 0, 1: the first number is less, the same, greater. -/
def cmpI (a b : Nat) : Int := if a < b then -1 else if b < a then 1 else 0
theorem cmpI_lt {a b : Nat} (h : a < b) : cmpI a b = -1 := by simp [cmpI, h]
theorem cmpI_gt {a b : Nat} (h : b < a) : cmpI a b = 1 := by simp [cmpI, h, Nat.not_lt_of_gt h]
theorem cmpI_eq {a b : Nat} (h : a = b) : cmpI a b = 0 := by simp [cmpI, h]

/-- From k on the digits are the same. -/
def SameFrom (xs ys : List Nat) (k : Nat) : Prop := ∀ j, k ≤ j → dat xs j = dat ys j
def LessR (xs ys : List Nat) (m n : Nat) (i : Value) : Prop := ∃ k : Nat, i = .int .i64 ((k : Int) - 1) ∧ k ≤ max m n ∧ SameFrom xs ys k
set_option maxHeartbeats 1000000 in
set_option maxRecDepth 100000 in
theorem less_any (v u : Value) (xs ys : List Nat) (w : World) (hv : Row w v xs) (hu : Row w u ys) (hx : Dg xs) (hy : Dg ys) (hxl : xs.length ≤ 1000) (hyl : ys.length ≤ 1000) :
    Calls Try.prog 45 #[v, u] w fun e w' => e = .returned (.int .i64 (cmpI (dv xs) (dv ys))) ∧ w = w' := by
  obtain ⟨Av, cv, rfl⟩ := hv.slice
  obtain ⟨Au, cu, rfl⟩ := hu.slice
  obtain ⟨m, hm⟩ : ∃ m, m = xs.length := ⟨_, rfl⟩
  obtain ⟨n, hn⟩ : ∃ n, n = ys.length := ⟨_, rfl⟩
  rw [← hm] at hv hxl ⊢
  rw [← hn] at hu hyl ⊢
  have HV := Lib.hid hv
  have HU := Lib.hid hu
  have HX := Lib.hid hx
  have HY := Lib.hid hy
  have HM := Lib.hid hm
  have HN := Lib.hid hn
  clear hv hu hx hy hm hn
  cases hd : decide (m < n)
  all_goals
    have hmn := hd
    simp only [decide_eq_true_eq, decide_eq_false_iff_not] at hmn
    go_enter Try.func45, Try.ntmps45
    go_wp2_with fail
    go_loop [6] (fun i => LessR xs ys m n i) (fun i => (intOf i + 1).toNat)
    case atStart =>
      refine ⟨max m n, ?_, Nat.le_refl _, fun j hj => ?_⟩
      · congr 1; omega
      · rw [dat_beyond (by rw [← HM.out]; omega), dat_beyond (by rw [← HN.out]; omega)]
    case round =>
      obtain ⟨k, hk, hkm, hs⟩ := hrel
      have HS := Lib.hid hs
      clear hs
      rcases k with _ | k
      · obtain rfl : u6 = .int .i64 (-1) := hk
        go_wp2_with fail
        go_ret
        exact ⟨ret_int (cmpI_eq (dv_ext fun j => HS.out j (Nat.zero_le _))).symm, rfl⟩
      · obtain rfl : u6 = .int .i64 (k : Int) := by rw [hk]; congr 1; omega
        clear hk
        rcases Nat.lt_trichotomy (dat xs k) (dat ys k) with hlt | heq | hgt
        · go_wp2_with (first | (go_at_call 46; (with_reducible refine (at_any (.slice Av m cv) xs k w HV.out).mono ?_); rintro e w' ⟨rfl, rfl⟩) | (go_at_call 46; (with_reducible refine (at_any (.slice Au n cu) ys k w HU.out).mono ?_); rintro e w' ⟨rfl, rfl⟩))
          go_ret
          exact ⟨ret_int (cmpI_lt (less_of HX.out hlt fun j hj => HS.out j hj)).symm, rfl⟩
        · have h1 : ¬ dat xs k < dat ys k := by omega
          have h2 : ¬ dat ys k < dat xs k := by omega
          have hR : LessR xs ys m n (.int .i64 ((k : Int) - 1)) := by
            refine ⟨k, rfl, by omega, fun j hj => ?_⟩
            rcases Nat.lt_or_ge k j with h | h
            · exact HS.out j h
            · obtain rfl : j = k := by omega
              exact heq
          have HR := Lib.hid hR
          clear hR
          clear heq
          go_wp2_with (first | (go_at_call 46; (with_reducible refine (at_any (.slice Av m cv) xs k w HV.out).mono ?_); rintro e w' ⟨rfl, rfl⟩) | (go_at_call 46; (with_reducible refine (at_any (.slice Au n cu) ys k w HU.out).mono ?_); rintro e w' ⟨rfl, rfl⟩))
          go_round
          case rel => exact HR.out
          case measure => simp [intOf]
        · have h1 : ¬ dat xs k < dat ys k := by omega
          go_wp2_with (first | (go_at_call 46; (with_reducible refine (at_any (.slice Av m cv) xs k w HV.out).mono ?_); rintro e w' ⟨rfl, rfl⟩) | (go_at_call 46; (with_reducible refine (at_any (.slice Au n cu) ys k w HU.out).mono ?_); rintro e w' ⟨rfl, rfl⟩))
          go_ret
          exact ⟨ret_int (cmpI_gt (less_of HY.out hgt fun j hj => (HS.out j hj).symm)).symm, rfl⟩

theorem at_q (v : Value) (xs : List Nat) (i : Nat) (w : World) (h : Row w v xs) :
    Calls Try.prog 46 #[v, .int .i64 (i : Int)] w fun e w' => e = .returned (.int .u64 (dat xs i : Int)) ∧ w' = w := (at_any v xs i w h).mono fun _ _ h => ⟨h.1, h.2.symm⟩
theorem Row.drewN {w : World} {v : Value} {xs : List Nat} (h : Row w v xs) (n : Nat) : Row (w.drewN n) v xs := h
theorem Row.get {w : World} {A : Option Addr} {n c : Nat} {xs : List Nat} (h : Row w (.slice A n c) xs) (i : Nat) (hi : i < xs.length) : ∃ g, A = some ⟨g, 0, none⟩ ∧ w.cell? ⟨g, i, none⟩ = some (.int .u64 (dat xs i : Int)) := by
  rcases h.form with ⟨_, rfl⟩ | ⟨g, cap, hv, _, _, _, hc, _⟩
  · simp at hi
  · injection hv with h1
    exact ⟨g, h1, hc i hi⟩
end Go.Proofs.Ytmbpehhbfbmacaa
