/- Proved here: whether two lists of edges are the same (the document's Same). Condition: edges that lie in memory. -/
import Derived.Test.YtnnanlilnlimaaaEd
import Derived.BigQuiet
namespace Go.Proofs.Ytnnanlilnlimaaa
open Go.RowKit

theorem eg_ext {L M : List Edg} (hl : L.length = M.length) (h : ∀ i, i < L.length → eg L i = eg M i) : L = M := by
  apply List.ext_getElem hl
  intro i h1 h2
  have := h i h1
  simpa [eg, h1, h2] using this
set_option maxHeartbeats 8000000 in
set_option maxRecDepth 100000 in
theorem esame_any (A B : Option Addr) (m n c d : Nat) (L M : List Edg) (w : World) (hL : Edl w A m L) (hM : Edl w B n M) (hm : m ≤ 100000) (hn : n ≤ 100000) :
    Calls Try.prog 10 #[.slice A m c, .slice B n d] w fun e w' => e = .returned (.bool (decide (L = M))) ∧ Below w.heap.size w w' := by
  have l1 := hL.len
  have l2 := hM.len
  by_cases hmn : m = n
  rotate_left
  · have e1 : ((m : Int) != (n : Int)) = true := by simp; omega
    rw [decide_eq_false (show ¬ L = M from fun h => hmn (by rw [← l1, ← l2, h]))]
    clear hL hM l1 l2
    go_enter Try.func10, Try.ntmps10
    go_wp2_with fail
    go_ret
    exact ⟨rfl, Below.refl _ _⟩
  subst hmn
  have e1 : ((m : Int) != (m : Int)) = false := by simp
  have HY := Lib.hid (show (∀ i, i < m → eg L i = eg M i) → decide (L = M) = true from fun h => decide_eq_true (eg_ext (by rw [l1, l2]) (by rw [l1]; exact h)))
  have HN := Lib.hid (show ∀ i, eg L i ≠ eg M i → decide (L = M) = false from fun i h => decide_eq_false fun h2 => h (by rw [h2]))
  have HL := Lib.hid hL
  have HM := Lib.hid hM
  clear hL hM l1 l2
  go_enter Try.func10, Try.ntmps10
  go_wp2_with fail
  go_loopw [5] (fun i wr => ∃ k : Nat, i = .int .i64 (k : Int) ∧ k ≤ m ∧ (∀ i, i < k → eg L i = eg M i) ∧ Below w.heap.size w wr) (fun i _ => m - (intOf i).toNat)
  case atStart => exact ⟨0, rfl, Nat.zero_le _, fun i hi => by omega, Below.refl _ _⟩
  case round =>
    obtain ⟨k, rfl, hk, hok, hb⟩ := hrel
    have HB := Lib.hid hb
    by_cases hgo : k < m
    · obtain ⟨ad, rfl, c0, c1, c2, c3, c4, c5, c6, c7⟩ := HL.out.at_ hb hgo
      obtain ⟨bd, rfl, d0, d1, d2, d3, d4, d5, d6, d7⟩ := HM.out.at_ hb hgo
      have HSU := Lib.hid (show eg L k = eg M k → ∀ i, i < k + 1 → eg L i = eg M i from all_succ hok)
      have HNk := Lib.hid (HN.out k)
      by_cases he : eg L k = eg M k
      · have HX := Lib.hid (HSU.out he)
        rw [he] at c0 c1 c2 c3 c4 c5 c6 c7
        obtain ⟨x, hx⟩ : ∃ x, x = eg M k := ⟨_, rfl⟩
        rw [← hx] at c0 c1 c2 c3 c4 c5 c6 c7 d0 d1 d2 d3 d4 d5 d6 d7
        obtain ⟨ek, eq, ⟨ax, ay⟩, ⟨bx, by_⟩, ⟨cx, cy⟩⟩ := x
        dsimp only at c0 c1 c2 c3 c4 c5 c6 c7 d0 d1 d2 d3 d4 d5 d6 d7
        clear he hx hok hb
        go_wp2_with fail
        go_quiet (fail)
        all_goals
          go_wp2_with fail
          exact ⟨⟨k + 1, by simp, by omega, HX.out, below_drewN HB.out _⟩, by simp [intOf]; omega⟩
      · have HX := Lib.hid (HNk.out he)
        obtain ⟨x, hx⟩ : ∃ x, x = eg L k := ⟨_, rfl⟩
        obtain ⟨y, hy⟩ : ∃ y, y = eg M k := ⟨_, rfl⟩
        rw [← hx] at c0 c1 c2 c3 c4 c5 c6 c7 he
        rw [← hy] at d0 d1 d2 d3 d4 d5 d6 d7 he
        obtain ⟨ek, eq, ⟨ax, ay⟩, ⟨bx, by_⟩, ⟨cx, cy⟩⟩ := x
        obtain ⟨fk, fq, ⟨px, py⟩, ⟨qx, qy⟩, ⟨rx, ry⟩⟩ := y
        dsimp only at c0 c1 c2 c3 c4 c5 c6 c7 d0 d1 d2 d3 d4 d5 d6 d7
        clear hx hy hok hb
        by_cases h : ek = fk
        rotate_left
        · clear he
          go_wp2_with fail
          go_quiet (fail)
          all_goals
            go_wp2_with fail
            go_ret
            exact ⟨by rw [HX.out]; rfl, below_drewN HB.out _⟩
        subst h
        by_cases h : eq = fq
        rotate_left
        · clear he
          go_wp2_with fail
          go_quiet (fail)
          all_goals
            go_wp2_with fail
            go_ret
            exact ⟨by rw [HX.out]; rfl, below_drewN HB.out _⟩
        subst h
        by_cases h : ax = px
        rotate_left
        · clear he
          go_wp2_with fail
          go_quiet (fail)
          all_goals
            go_wp2_with fail
            go_ret
            exact ⟨by rw [HX.out]; rfl, below_drewN HB.out _⟩
        subst h
        by_cases h : ay = py
        rotate_left
        · clear he
          go_wp2_with fail
          go_quiet (fail)
          all_goals
            go_wp2_with fail
            go_ret
            exact ⟨by rw [HX.out]; rfl, below_drewN HB.out _⟩
        subst h
        by_cases h : bx = qx
        rotate_left
        · clear he
          go_wp2_with fail
          go_quiet (fail)
          all_goals
            go_wp2_with fail
            go_ret
            exact ⟨by rw [HX.out]; rfl, below_drewN HB.out _⟩
        subst h
        by_cases h : by_ = qy
        rotate_left
        · clear he
          go_wp2_with fail
          go_quiet (fail)
          all_goals
            go_wp2_with fail
            go_ret
            exact ⟨by rw [HX.out]; rfl, below_drewN HB.out _⟩
        subst h
        by_cases h : cx = rx
        rotate_left
        · clear he
          go_wp2_with fail
          go_quiet (fail)
          all_goals
            go_wp2_with fail
            go_ret
            exact ⟨by rw [HX.out]; rfl, below_drewN HB.out _⟩
        subst h
        by_cases h : cy = ry
        rotate_left
        · clear he
          go_wp2_with fail
          go_quiet (fail)
          all_goals
            go_wp2_with fail
            go_ret
            exact ⟨by rw [HX.out]; rfl, below_drewN HB.out _⟩
        subst h
        exact absurd rfl he
    · obtain rfl : k = m := by omega
      have HX := Lib.hid (HY.out hok)
      clear hok hb
      go_wp2_with fail
      go_ret
      exact ⟨by rw [HX.out]; rfl, HB.out⟩
end Go.Proofs.Ytnnanlilnlimaaa
