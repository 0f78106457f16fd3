/- Proved here: what BigAny answers of texts of numbers: true. Condition: a text of at most 600 bytes, and the library's table of powers of ten at its place. -/
import Derived.Test.YthmpkejdficmgaaDoorUd
import Derived.Test.YthmpkejdficmgaaDoorSa
namespace Go.Proofs.YthmpkejdficmgaaDoor
open Go.RowKit

/-- What stands in memory: the two numbers that were read. -/
structure AnH (w W : World) (h : Nat) (bb : Bool) (vb : Value) (g : Nat) (bx : Bool) (vx : Value) (x : Int) : Prop where
  B : Bx 24 W h bb vb
  M : BigC W (.agg #[.bool bb, vb]) x 400
  X : Bx 28 W g bx vx
  N : NumC W (.agg #[.bool bx, vx]) x 500
  bel : Below w.heap.size w W
section
variable {w W W' : World} {b bx bb : Bool} {v vx vb : Value} {g h : Nat} {x : Int}
theorem AnH.next (H : AnH w W h bb vb g bx vx x) (hb : Below W.heap.size W W') : AnH w W' h bb vb g bx vx x := ⟨H.B.bel hb, H.M.bel hb, H.X.bel hb, H.N.bel hb, bel_tr H.bel hb⟩
theorem AnH.drew (H : AnH w W h bb vb g bx vx x) : AnH w W.drew h bb vb g bx vx x := ⟨H.B, H.M, H.X, H.N, H.bel.drew⟩
theorem AnH.facts (H : AnH w W h bb vb g bx vx x) : W.cell? ⟨h, 0, none⟩ = some (.bool bb) ∧ W.cell? ⟨h, 1, none⟩ = some vb ∧ W.cell? ⟨g, 0, none⟩ = some (.bool bx) ∧ W.cell? ⟨g, 1, none⟩ = some vx :=
  ⟨H.B.c0, H.B.c1, H.X.c0, H.X.c1⟩
end
set_option maxHeartbeats 4000000 in
theorem any_good (s : ByteArray) (w : World) (h2 : s.size ≤ 600) (hc : pcode s.data.toList = 0) (ht : Tab w) : Calls Tryd.prog 6 #[.string s] w fun e w' => e = .returned (.bool true) ∧ Below w.heap.size w w' := by
  have hP := fun W => parse_any s W (by omega)
  have hR := fun W => rparse_any s W (by omega)
  have hok : okN s.data.toList = true := by
    unfold pcode at hc
    split at hc
    · cases hc
    · split at hc
      · assumption
      · cases hc
  have hx : txt (pnum s.data.toList) = s.data.toList := by
    unfold pnum
    rw [if_pos hc]
    exact back_txt _ hok
  have hT : ∀ (X : Value) (l : Nat) (W : World), BigA W X (pnum s.data.toList) l → l ≤ 50000 → Tab W → Calls Tryd.prog 30 #[X] W fun e w' => e = .returned (.string s) ∧ Below W.heap.size W w' := fun X l W hX hl ht => by
    have h := text_any X _ l W hX hl ht
    rw [hx] at h
    exact h
  rw [hc] at hP hR
  obtain ⟨x, hxe⟩ : ∃ x, x = pnum s.data.toList := ⟨_, rfl⟩
  rw [← hxe] at hP hR hT
  have hP2 : ∀ W, Calls Tryd.prog 31 #[.string s] W (ParE 0 x 400 W) := hP
  have HP := Lib.hid hP2
  have HR := Lib.hid (show ∀ W, Calls Tryd.prog 33 #[.string s] W (RPaE 0 x 500 W) from hR)
  have HTX := Lib.hid (fun X l W a b c => hT X l W a b c)
  obtain ⟨n, hn⟩ : ∃ n, n = s.size := ⟨_, rfl⟩
  have hsz : s.size = n := hn.symm
  rw [← hn] at h2
  have hd : decide (600 < (n : Int)) = false := decide_eq_false (by omega)
  have HT := Lib.hid ht
  clear hP hR hT hP2 hok hx hxe hc hn ht
  go_enter Tryd.func6, Tryd.ntmps6
  go_wp2_with (first
    | (go_at_call 8; (with_reducible refine (awake_any _ HT.out).mono ?_); rintro e w1 ⟨rfl, hb⟩; have HB := Lib.hid hb; clear hb)
    | (go_at_call 31; (with_reducible refine (HP.out _).mono ?_); rintro e w2 ⟨Z2, rfl, ⟨n2, v2, x2, rfl, hv2, h2'⟩, hb⟩; obtain ⟨A2, c2, rfl⟩ := hv2.slice; have HM := Lib.hid (show BigC w2 (.agg #[.bool n2, .slice A2 x2.length c2]) x 400 from ⟨n2, _, x2, rfl, hv2, h2'⟩); have HB := Lib.hid (bel_tr HB.out hb); clear hv2 h2' hb)
    | (go_at_call 33; (with_reducible refine (HR.out _).mono ?_); rintro e w3 ⟨Z3, rfl, ⟨n3, v3, x3, rfl, hv3, h3⟩, hb⟩; obtain ⟨A3, c3, rfl⟩ := hv3.slice; have H := Lib.hid (show AnH w (w3.alloc (.cells #[.bool n3, .slice A3 x3.length c3] 28)) w2.heap.size n2 (.slice A2 x2.length c2) w3.heap.size n3 (.slice A3 x3.length c3) x from ⟨((Bx.new 24 w2 _ _).bel hb).alloc _, (HM.out.bel (bel1 hb)).bel (bel_a _ _), Bx.new 28 w3 _ _, NumC.bel ⟨n3, _, x3, rfl, hv3, h3⟩ (bel_a _ _), bel_tr (bel_tr HB.out (bel1 hb)) (bel_a _ _)⟩); clear hv3 h3 hb))
  go_region_held3 (fun w' => w'.cell? ⟨w2.heap.size, 0, none⟩ = some (.bool n2) ∧ w'.cell? ⟨w2.heap.size, 1, none⟩ = some (.slice A2 x2.length c2) ∧ w'.cell? ⟨w3.heap.size, 0, none⟩ = some (.bool n3) ∧ w'.cell? ⟨w3.heap.size, 1, none⟩ = some (.slice A3 x3.length c3))
    (first | exact H.out.facts | exact H.out.drew.facts | go_keep)
    (first
      | (go_at_call 12; (with_reducible refine (to_any _ x 500 _ H.out.drew.N (by decide)).mono ?_); rintro e w6 ⟨Z6, rfl, hZ6, hb⟩; have HZ6 := Lib.hid hZ6; have H := Lib.hid (H.out.drew.next hb))
      | (go_at_call 10; (with_reducible refine (same_any _ Z6 x 400 _ _ H.out.M HZ6.out (by decide)).mono ?_); rintro e w7 ⟨rfl, hb⟩; have H := Lib.hid (H.out.next hb))
      | (go_at_call 30; (with_reducible refine (HTX.out _ 400 _ H.out.M.any (by decide) (HT.out.below H.out.bel)).mono ?_); rintro e w8 ⟨rfl, hb⟩; have H := Lib.hid (H.out.next hb)))
  all_goals
    go_wp2_with fail
    go_ret
    exact ⟨rfl, H.out.bel⟩
end Go.Proofs.YthmpkejdficmgaaDoor
