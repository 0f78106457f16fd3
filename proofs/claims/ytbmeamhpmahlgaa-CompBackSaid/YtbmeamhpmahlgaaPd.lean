/- Proved here: which lists of parts may be: in the program and in the document. Condition: they lie in memory, at most 100000 of them. -/
import Derived.Test.YtbmeamhpmahlgaaPc
namespace Go.Proofs.Ytbmeamhpmahlgaa
open Go.RowKit

set_option maxHeartbeats 4000000 in
set_option maxRecDepth 100000 in
theorem may_any (A : Option Addr) (m c : Nat) (L : List Prt) (G : Int) (w : World) (hP : Prl w A m L) (hm : m ≤ 100000) :
    Calls Try.prog 9 #[.slice A m c, .int .i64 G] w fun e w' => e = .returned (.bool (decide (MayL L G))) ∧ Below w.heap.size w w' := by
  have hlen := hP.len
  have CG := Lib.hid (fun W => glyphs_any G W)
  by_cases hG : okG G
  · rw [decide_eq_true hG] at CG
    by_cases h0 : m = 0
    · rw [decide_eq_false (show ¬ MayL L G from fun h => by have := h.2.1.1; omega)]
      subst h0
      clear hlen hP hG
      go_enter Try.func9, Try.ntmps9
      go_wp2_with (go_at_call 23; (with_reducible refine (CG.out _).mono ?_); rintro e w1 ⟨rfl, rfl⟩)
      go_ret
      exact ⟨rfl, Below.refl _ _⟩
    · have e0 : ((m : Int) == 0) = false := by simp [h0]
      by_cases h64 : 64 < m
      · rw [decide_eq_false (show ¬ MayL L G from fun h => by have := h.2.1.2; omega)]
        clear hlen hP h0 hG
        go_enter Try.func9, Try.ntmps9
        go_wp2_with (go_at_call 23; (with_reducible refine (CG.out _).mono ?_); rintro e w1 ⟨rfl, rfl⟩)
        go_ret
        exact ⟨rfl, Below.refl _ _⟩
      · have HY := Lib.hid (show (∀ i, i < m → okP (qp L i) G) → decide (MayL L G) = true from fun h => decide_eq_true ⟨hG, by omega, by rw [hlen]; exact h⟩)
        have HN := Lib.hid (show ∀ k, k < m → ¬ okP (qp L k) G → decide (MayL L G) = false from fun k hk h => decide_eq_false fun h2 => h (h2.2.2 k (by omega)))
        have HI := Lib.hid hP
        clear hlen hP h0 hG
        go_enter Try.func9, Try.ntmps9
        go_wp2_with (go_at_call 23; (with_reducible refine (CG.out _).mono ?_); rintro e w1 ⟨rfl, rfl⟩)
        go_loopw [22] (fun i wr => ∃ k : Nat, i = .int .i64 (k : Int) ∧ k ≤ m ∧ (∀ i, i < k → okP (qp L i) G) ∧ Below w.heap.size w wr) (fun i _ => m - (intOf i).toNat)
        case atStart => exact ⟨0, rfl, Nat.zero_le _, fun i hi => by omega, Below.refl _ _⟩
        case round =>
          obtain ⟨k, rfl, hk, hok, hb⟩ := hrel
          have HB := Lib.hid hb
          by_cases hgo : k < m
          · obtain ⟨ad, rfl, hc⟩ := HI.out.at_ hb hgo
            have HSU := Lib.hid (show okP (qp L k) G → ∀ i, i < k + 1 → okP (qp L i) G from all_succ hok)
            have HNK := Lib.hid (HN.out k hgo)
            obtain ⟨p, hp⟩ : ∃ p, p = qp L k := ⟨_, rfl⟩
            rw [← hp] at hc HSU HNK
            obtain ⟨g, x, y, a, b, c, d⟩ := p
            obtain ⟨c0, c1, c2, c3, c4, c5, c6⟩ := hc
            dsimp only at c0 c1 c2 c3 c4 c5 c6
            have CP := Lib.hid (fun W => mayPart_any g x y a b c d G W)
            clear hp hb hok
            by_cases hp : okP (g, x, y, a, b, c, d) G
            · rw [decide_eq_true hp] at CP
              have HX := Lib.hid (HSU.out hp)
              clear hp
              go_wp2_with (go_at_call 24; (with_reducible refine (CP.out _).mono ?_); rintro e w2 ⟨rfl, hb2⟩; have HB2 := Lib.hid ((HB.out.alloc HB.out.size _).trans (hb2.mono (HB.out.alloc HB.out.size _).size)); clear hb2)
              exact ⟨⟨k + 1, by simp, by omega, HX.out, HB2.out⟩, by simp [intOf]; omega⟩
            · rw [decide_eq_false hp] at CP
              have HX := Lib.hid (HNK.out hp)
              clear hp
              go_wp2_with (go_at_call 24; (with_reducible refine (CP.out _).mono ?_); rintro e w2 ⟨rfl, hb2⟩; have HB2 := Lib.hid ((HB.out.alloc HB.out.size _).trans (hb2.mono (HB.out.alloc HB.out.size _).size)); clear hb2)
              go_ret
              exact ⟨by rw [HX.out]; rfl, HB2.out⟩
          · obtain rfl : k = m := by omega
            have HX := Lib.hid (HY.out hok)
            clear hb hok
            go_wp2_with fail
            go_ret
            exact ⟨by rw [HX.out]; rfl, HB.out⟩
  · rw [decide_eq_false hG] at CG
    rw [decide_eq_false (show ¬ MayL L G from fun h => hG h.1)]
    clear hlen hP hG
    go_enter Try.func9, Try.ntmps9
    go_wp2_with (go_at_call 23; (with_reducible refine (CG.out _).mono ?_); rintro e w1 ⟨rfl, rfl⟩)
    go_ret
    exact ⟨rfl, Below.refl _ _⟩
set_option maxHeartbeats 4000000 in
set_option maxRecDepth 100000 in
theorem rmay_any (A : Option Addr) (m c : Nat) (L : List Prt) (G : Int) (w : World) (hP : Prl w A m L) (hm : m ≤ 100000) :
    Calls Try.prog 10 #[.slice A m c, .int .i64 G] w fun e w' => e = .returned (.bool (decide (MayL L G))) ∧ Below w.heap.size w w' := by
  have hlen := hP.len
  by_cases hG1 : G < 1
  · rw [decide_eq_false (show ¬ MayL L G from fun h => by have := h.1.1; omega)]
    clear hlen hP
    go_enter Try.func10, Try.ntmps10
    go_wp2_with fail
    go_ret
    exact ⟨rfl, Below.refl _ _⟩
  · by_cases hG2 : 1024 < G
    · rw [decide_eq_false (show ¬ MayL L G from fun h => by have := h.1.2; omega)]
      clear hlen hP
      go_enter Try.func10, Try.ntmps10
      go_wp2_with fail
      go_ret
      exact ⟨rfl, Below.refl _ _⟩
    · have hG : okG G := ⟨by omega, by omega⟩
      by_cases h0 : m < 1
      · rw [decide_eq_false (show ¬ MayL L G from fun h => by have := h.2.1.1; omega)]
        clear hlen hP hG
        go_enter Try.func10, Try.ntmps10
        go_wp2_with fail
        go_ret
        exact ⟨rfl, Below.refl _ _⟩
      · by_cases h64 : 64 < m
        · rw [decide_eq_false (show ¬ MayL L G from fun h => by have := h.2.1.2; omega)]
          clear hlen hP hG
          go_enter Try.func10, Try.ntmps10
          go_wp2_with fail
          go_ret
          exact ⟨rfl, Below.refl _ _⟩
        · have HY := Lib.hid (show (∀ i, i < m → okP (qp L i) G) → decide (MayL L G) = true from fun h => decide_eq_true ⟨hG, by omega, by rw [hlen]; exact h⟩)
          have HN := Lib.hid (show ∀ k, k < m → ¬ okP (qp L k) G → decide (MayL L G) = false from fun k hk h => decide_eq_false fun h2 => h (h2.2.2 k (by omega)))
          have HI := Lib.hid hP
          clear hlen hP hG
          go_enter Try.func10, Try.ntmps10
          go_wp2_with fail
          go_loopw [5] (fun i wr => ∃ k : Nat, i = .int .i64 (k : Int) ∧ k ≤ m ∧ (∀ i, i < k → okP (qp L i) G) ∧ Below w.heap.size w wr) (fun i _ => m - (intOf i).toNat)
          case atStart => exact ⟨0, rfl, Nat.zero_le _, fun i hi => by omega, Below.refl _ _⟩
          case round =>
            obtain ⟨k, rfl, hk, hok, hb⟩ := hrel
            have HB := Lib.hid hb
            by_cases hgo : k < m
            · obtain ⟨ad, rfl, hc⟩ := HI.out.at_ hb hgo
              have HSU := Lib.hid (show okP (qp L k) G → ∀ i, i < k + 1 → okP (qp L i) G from all_succ hok)
              have HNK := Lib.hid (HN.out k hgo)
              obtain ⟨p, hp⟩ : ∃ p, p = qp L k := ⟨_, rfl⟩
              rw [← hp] at hc HSU HNK
              obtain ⟨g, x, y, a, b, c, d⟩ := p
              obtain ⟨c0, c1, c2, c3, c4, c5, c6⟩ := hc
              dsimp only at c0 c1 c2 c3 c4 c5 c6
              have CP := Lib.hid (fun W => rone_any g x y a b c d G W)
              clear hp hb hok
              by_cases hp : okP (g, x, y, a, b, c, d) G
              · rw [decide_eq_true hp] at CP
                have HX := Lib.hid (HSU.out hp)
                clear hp
                go_wp2_with (go_at_call 25; (with_reducible refine (CP.out _).mono ?_); rintro e w2 ⟨rfl, hb2⟩; have HB2 := Lib.hid (HB.out.trans (hb2.mono HB.out.size)); clear hb2)
                exact ⟨⟨k + 1, by simp, by omega, HX.out, HB2.out⟩, by simp [intOf]; omega⟩
              · rw [decide_eq_false hp] at CP
                have HX := Lib.hid (HNK.out hp)
                clear hp
                go_wp2_with (go_at_call 25; (with_reducible refine (CP.out _).mono ?_); rintro e w2 ⟨rfl, hb2⟩; have HB2 := Lib.hid (HB.out.trans (hb2.mono HB.out.size)); clear hb2)
                go_ret
                exact ⟨by rw [HX.out]; rfl, HB2.out⟩
            · obtain rfl : k = m := by omega
              have HX := Lib.hid (HY.out hok)
              clear hb hok
              go_wp2_with fail
              go_ret
              exact ⟨by rw [HX.out]; rfl, HB.out⟩
end Go.Proofs.Ytbmeamhpmahlgaa
