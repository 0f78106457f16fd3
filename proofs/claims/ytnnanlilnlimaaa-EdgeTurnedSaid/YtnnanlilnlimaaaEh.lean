/- Proved here: where a way begins (the document's begin). Condition: points that lie in memory. -/
import Derived.Test.YtnnanlilnlimaaaEg
namespace Go.Proofs.Ytnnanlilnlimaaa
open Go.RowKit

def pq (L : List Pt) (i : Nat) : Pt := L.getD i (0, 0, false)
theorem pq_drop (L : List Pt) (k : Nat) (h : k < L.length) : L.drop k = pq L k :: L.drop (k + 1) := by
  rw [List.drop_eq_getElem_cons h]
  congr 1
  simp [pq, h]
theorem lstD_take : ∀ (q : Pt) (c : List Pt) (i : Nat), i < c.length → lstD q (c.take (i + 1)) = pq c i
  | _, [], i, h => absurd h (by simp)
  | _, p :: r, 0, _ => rfl
  | q, p :: r, i + 1, h => by
    show lstD p (r.take (i + 1)) = pq r i
    exact lstD_take p r i (by simp at h; omega)
/-- The point ahead of point k. -/
def prv (c : List Pt) (k : Nat) : Pt := lstD (lstD (0, 0, false) c) (c.take k)
theorem prv_eq (c : List Pt) (k : Nat) (h : k < c.length) : prv c k = pq c ((k + c.length - 1) % c.length) := by
  unfold prv
  cases k with
  | zero =>
    have e : lstD (0, 0, false) c = pq c (c.length - 1) := by
      have := lstD_take (0, 0, false) c (c.length - 1) (by omega)
      rw [Nat.sub_add_cancel (by omega), List.take_length] at this
      exact this
    rw [List.take_zero, Nat.zero_add, Nat.mod_eq_of_lt (by omega)]
    exact e
  | succ i =>
    rw [lstD_take _ c i (by omega), show i + 1 + c.length - 1 = i + c.length by omega, Nat.add_mod_right, Nat.mod_eq_of_lt (by omega)]
theorem prv_next (c : List Pt) (k : Nat) (h : k < c.length) : prv c (k + 1) = pq c k := by unfold prv; exact lstD_take _ c k h
set_option maxHeartbeats 8000000 in
set_option maxRecDepth 100000 in
theorem begin_any (A B : Option Addr) (m c kn cn : Nat) (L : List Pt) (w : World) (hL : Ptl w A m L) (hm : m ≤ 100000) :
    Calls Try.prog 35 #[.slice A m c, .slice B kn cn] w fun e w' => e = .returned (.int .i64 (beg L : Int)) ∧ Below w.heap.size w w' := by
  have HLen := Lib.hid hL.len
  have HL := Lib.hid hL
  have H0 := Lib.hid (show bgR (prv L 0) 0 (L.drop 0) = beg L from rfl)
  clear hL
  go_enter Try.func35, Try.ntmps35
  go_wp2_with fail
  go_loopw [5, 7] (fun a i wr => ∃ k at_ : Nat, i = .int .i64 (k : Int) ∧ a = .int .i64 (at_ : Int) ∧ k ≤ m ∧ at_ ≤ 2 * k ∧ bgR (prv L k) at_ (L.drop k) = beg L ∧ Below w.heap.size w wr) (fun _ i _ => m - (intOf i).toNat)
  case atStart => exact ⟨0, 0, rfl, rfl, Nat.zero_le _, Nat.le_refl _, H0.out, Below.refl _ _⟩
  case round =>
    obtain ⟨k, a, rfl, rfl, hk, ha, hbg, hb⟩ := hrel
    have HB := Lib.hid hb
    by_cases hgo : k < m
    · obtain ⟨ad, hA, c0, c1, c2⟩ := HL.out.at_ hb hgo
      subst hA
      have hlen := HLen.out
      have hpv := prv_eq L k (by omega)
      rw [hlen] at hpv
      obtain ⟨j, hj⟩ : ∃ j, j = (k + m - 1) % m := ⟨_, rfl⟩
      have hjm : j < m := by rw [hj]; exact Nat.mod_lt _ (by omega)
      rw [← hj] at hpv
      obtain ⟨ad2, hA, d0, d1, d2⟩ := HL.out.at_ hb hjm
      injection hA with hA
      subst hA
      have w1 : IntKind.i64.wrap ((k : Int) + (m : Int)) = (k : Int) + (m : Int) := i64_in _ (by omega)
      have w2 : IntKind.i64.wrap ((k : Int) + (m : Int) - 1) = (k : Int) + (m : Int) - 1 := i64_in _ (by omega)
      have w3 : ((k : Int) + (m : Int) - 1).tmod (m : Int) = (j : Int) := by
        rw [Int.tmod_eq_emod_of_nonneg (by omega), hj]
        have : ((k : Int) + (m : Int) - 1) = ((k + m - 1 : Nat) : Int) := by omega
        rw [this]
        exact (Int.natCast_emod _ _).symm
      have w4 : IntKind.i64.wrap (j : Int) = (j : Int) := i64_in _ (by omega)
      have w5 : ((m : Int) == 0) = false := by simp; omega
      have w6 : IntKind.i64.wrap ((a : Int) + 1) = (a : Int) + 1 := i64_in _ (by omega)
      have w7 : IntKind.i64.wrap ((a : Int) + 1 + 1) = (a : Int) + 1 + 1 := i64_in _ (by omega)
      have g1 : (0 : Int) ≤ (j : Int) := by omega
      have g2 : (j : Int) < (m : Int) := by omega
      rw [pq_drop L k (by omega), hpv] at hbg
      have hnx := prv_next L k (by omega)
      have HNX := Lib.hid hnx
      have ep : ∀ i, px L i = (pq L i).1 ∧ py L i = (pq L i).2.1 ∧ po L i = (pq L i).2.2 := fun i => ⟨rfl, rfl, rfl⟩
      rw [(ep k).2.2] at c2
      rw [(ep j).2.2] at d2
      have HBg := Lib.hid (show (if (pq L k).2.2 = true then a else bgR (pq L k) (a + 1 + (if (pq L j).2.2 = false then 1 else 0)) (L.drop (k + 1))) = beg L from hbg)
      obtain ⟨o, ho⟩ : ∃ o, o = (pq L k).2.2 := ⟨_, rfl⟩
      obtain ⟨oq, hoq⟩ : ∃ o, o = (pq L j).2.2 := ⟨_, rfl⟩
      rw [← ho] at c2
      rw [← hoq] at d2
      have HO := Lib.hid ho
      have HOq := Lib.hid hoq
      clear hbg hnx hpv hj ho hoq ep c0 c1 d0 d1 hlen hb
      cases o with
      | true =>
        have HX := Lib.hid (show beg L = a from by have h := HBg.out; rw [if_pos HO.out.symm] at h; exact h.symm)
        go_wp2_with fail
        go_ret
        exact ⟨by rw [HX.out]; rfl, HB.out⟩
      | false =>
        cases oq with
        | true =>
          have HX := Lib.hid (show bgR (prv L (k + 1)) (a + 1) (L.drop (k + 1)) = beg L from by
            have h := HBg.out
            rw [if_neg (by rw [← HO.out]; decide), if_neg (by rw [← HOq.out]; decide)] at h
            rw [HNX.out]; exact h)
          go_wp2_with fail
          exact ⟨⟨k + 1, a + 1, by simp, by simp, by omega, by omega, HX.out, HB.out⟩, by simp [intOf]; omega⟩
        | false =>
          have HX := Lib.hid (show bgR (prv L (k + 1)) (a + 2) (L.drop (k + 1)) = beg L from by
            have h := HBg.out
            rw [if_neg (by rw [← HO.out]; decide), if_pos HOq.out.symm] at h
            rw [HNX.out]; exact h)
          go_wp2_with fail
          exact ⟨⟨k + 1, a + 2, by simp, by simp; omega, by omega, by omega, HX.out, HB.out⟩, by simp [intOf]; omega⟩
    · obtain rfl : k = m := by omega
      have HX := Lib.hid (show beg L = 0 from by rw [← hbg, List.drop_of_length_le (by rw [HLen.out]; exact Nat.le_refl _)]; rfl)
      clear hbg hb
      go_wp2_with fail
      go_ret
      exact ⟨by rw [HX.out]; rfl, HB.out⟩
end Go.Proofs.Ytnnanlilnlimaaa
