/- Proved here: the law CmapBack returns true, over what lies in memory. Condition: the list lies in memory. -/
import Derived.Test.YtbmpdpajnmjfpaaYa
namespace Go.Proofs.Ytbmpdpajnmjfpaa
open Go.RowKit

/-- While the law runs: the list, and the box of its two numbers. -/
structure LwS (w W : World) (b : Nat) (x y : Int) (A : Option Addr) (m : Nat) (L : List (Int × Int)) : Prop where
  bel : Below w.heap.size w W
  l : Pl W A m L
  box : W.heap[b]? = some (.cells #[.int .i64 x, .int .i64 y] 23 (0, 0))
section
variable {w W W' : World} {b m : Nat} {x y : Int} {A : Option Addr} {L : List (Int × Int)}
theorem LwS.next (h : LwS w W b x y A m L) (hb : Below W.heap.size W W') : LwS w W' b x y A m L := ⟨h.bel.trans (hb.mono h.bel.size), h.l.bel hb, (hb.block b (heap_lt h.box)).trans h.box⟩
theorem LwS.drew (h : LwS w W b x y A m L) : LwS w W.drew b x y A m L := h.next ((Below.refl _ _).drew)
theorem LwS.two (h : LwS w W b x y A m L) : W.cell? ⟨b, 0, none⟩ = some (.int .i64 x) ∧ W.cell? ⟨b, 1, none⟩ = some (.int .i64 y) := ⟨cell_of_row W b 0 _ 23 (0, 0) h.box, cell_of_row W b 1 _ 23 (0, 0) h.box⟩
end
theorem back_long (A : Option Addr) (m c : Nat) (long : Bool) (x y : Int) (w : World) (h : 200 < m) : Calls Try.prog 3 #[.slice A m c, .bool long, .agg #[.int .i64 x, .int .i64 y]] w fun e w' => e = .returned (.bool true) ∧ Below w.heap.size w w' := by
  have HB := Lib.hid ((Below.refl w.heap.size w).alloc (Nat.le_refl _) (.cells #[.int .i64 x, .int .i64 y] 23))
  go_enter Try.func3, Try.ntmps3
  go_wp2_with (go_at_call 5; (with_reducible refine (awake_any _).mono ?_); rintro e w1 ⟨rfl, hb⟩; have HB1 := Lib.hid (HB.out.trans (hb.mono HB.out.size)); clear hb)
  go_ret
  exact ⟨rfl, HB1.out⟩
theorem mk_size {L : List (Int × Int)} {long : Bool} (h : L.length ≤ 4096) : (mkB L long).length ≤ 1000000 := by
  have hr := runs_len_le L L.length
  cases long
  · have e : mkB L false = rowB 3 1 ++ sgB (runs L L.length ++ [lastR]) := rfl
    rw [e, List.length_append, rowB_len, sgB_len]; simp; omega
  · have e : mkB L true = rowB 3 10 ++ lnB (runs L L.length) := rfl
    rw [e, List.length_append, rowB_len, lnB_len]; omega
/-- What is made is parsed to what it was made of. -/
theorem parse_made {L : List (Int × Int)} {long : Bool} (h : okMk L long) (D : ByteArray) (hD : D = ⟨(mkS L long).toArray⟩) (W : World) : Calls Try.prog 12 #[.string D, .int .i64 1024] W fun e w' => ∃ A c, e = .returned (.tuple #[.slice A L.length c, .int .i64 0]) ∧ Pl w' A L.length L ∧ Below W.heap.size W w' := by
  obtain ⟨_, q2⟩ := mk_yes h
  have hDl : D.data.toList = mkB L long := by rw [hD, q2]
  have hs : D.size ≤ 1000000000 := by
    have := mk_size (L := L) (long := long) h.1.2.1
    rw [← size_list, hDl]; omega
  refine (parse_any D 1024 W hs).mono fun e w' ⟨h1, A, n, c, h2, h3⟩ => ?_
  rw [hDl, mk_back h] at h2 h3
  rw [if_pos rfl] at h3
  have hn := h3.len
  subst hn
  exact ⟨A, c, h2, h3, h1⟩
set_option maxHeartbeats 8000000 in
set_option maxRecDepth 100000 in
theorem back_main (A : Option Addr) (m c : Nat) (long : Bool) (x y : Int) (L : List (Int × Int)) (w : World) (hI : Pl w A m L) (h : m ≤ 200) : Calls Try.prog 3 #[.slice A m c, .bool long, .agg #[.int .i64 x, .int .i64 y]] w fun e w' => e = .returned (.bool true) ∧ Below w.heap.size w w' := by
  have hlen := hI.len
  have CM := Lib.hid (fun W (h : Pl W A m L) => make_any A m c L long W h)
  have CR := Lib.hid (fun W (h : Pl W A m L) => rmake_any A m c L long W h)
  unfold StE at CM CR
  have C8 := Lib.hid (fun W (h : Pl W A m L) => may_any A m c L x W h)
  have C9 := Lib.hid (fun W (h : Pl W A m L) => rmay_any A m c L x W h)
  have CQ := Lib.hid (fun W (h : Pl W A m L) => rmay_any A m c L 1024 W h)
  have CF := Lib.hid (fun W (h : Pl W A m L) (hM : MayP L 1024) => find_any A m c L y W h (by omega) hM.rise)
  have CG := Lib.hid (fun W (h : Pl W A m L) => rfind_any A m c L y W h (by omega))
  have CS := Lib.hid (fun A' c' W (h' : Pl W A' m L) (h : Pl W A m L) => same_any A' A m c' c L W h' h (by omega))
  have CP := Lib.hid (fun (h : okMk L long) D hD W => parse_made h D hD W)
  rw [hlen] at CP
  have HE1 := Lib.hid (fun h => (mk_no (L := L) (long := long) h).1)
  have HE0 := Lib.hid (fun h => (mk_yes (L := L) (long := long) h).1)
  obtain ⟨D, hD⟩ : ∃ D : ByteArray, D = ⟨(mkS L long).toArray⟩ := ⟨_, rfl⟩
  obtain ⟨f, hf⟩ : ∃ f, f = mkE L long := ⟨_, rfl⟩
  obtain ⟨q, hq⟩ : ∃ q, q = decide (MayP L x) := ⟨_, rfl⟩
  obtain ⟨u, hu⟩ : ∃ u, u = fnd L y := ⟨_, rfl⟩
  rw [← hD, ← hf] at CM CR
  rw [← hq] at C8 C9
  rw [← hu] at CF CG
  rw [← hf] at HE1 HE0
  have HD := Lib.hid hD
  have S0 := Lib.hid (show LwS w (w.alloc (.cells #[.int .i64 x, .int .i64 y] 23)) w.heap.size x y A m L from ⟨(Below.refl _ _).alloc (Nat.le_refl _) _, hI.bel ((Below.refl _ _).alloc (Nat.le_refl _) _), heap_alloc_new w _⟩)
  have h200 : ¬ 200 < m := by omega
  clear hD hf hq hu hI hlen
  go_enter Try.func3, Try.ntmps3
  go_upto_region 1 with fail
  obtain ⟨b, hb⟩ : ∃ b, b = w.heap.size := ⟨_, rfl⟩
  obtain ⟨W0, hW0⟩ : ∃ W, W = w.alloc (.cells #[.int .i64 x, .int .i64 y] 23) := ⟨_, rfl⟩
  rw [← hW0] at S0 ⊢
  rw [← hb] at S0 ⊢
  clear hb hW0
  go_upto_region 7 with (first
    | (go_at_call 5; (with_reducible refine (awake_any _).mono ?_); rintro e w1 ⟨rfl, hb⟩; have S := Lib.hid (S0.out.next hb); clear hb)
    | (go_at_call 6; (with_reducible refine (CM.out _ S.out.l).mono ?_); rintro e w2 ⟨rfl, hb⟩; have S := Lib.hid (S.out.next hb); clear hb)
    | (go_at_call 7; (with_reducible refine (CR.out _ S.out.l).mono ?_); rintro e w3 ⟨rfl, hb⟩; have S := Lib.hid (S.out.next hb); clear hb))
  obtain ⟨d0, d1⟩ := S.out.two
  go_region_held3 (fun w' => w'.cell? ⟨b, 0, none⟩ = some (.int .i64 x) ∧ w'.cell? ⟨b, 1, none⟩ = some (.int .i64 y))
    (first | with_reducible exact S.out.two | go_keep)
    (first
      | (go_at_call 8; (with_reducible refine (C8.out _ (by first | exact S.out.l | exact S.out.drew.l)).mono ?_); rintro e w4 ⟨rfl, hb⟩; (first | have S := Lib.hid (S.out.next hb) | have S := Lib.hid (S.out.drew.next hb)); clear hb)
      | (go_at_call 9; (with_reducible refine (C9.out _ (by first | exact S.out.l | exact S.out.drew.l)).mono ?_); rintro e w4 ⟨rfl, hb⟩; (first | have S := Lib.hid (S.out.next hb) | have S := Lib.hid (S.out.drew.next hb)); clear hb))
  clear d0 d1
  by_cases hM : MayP L 1024
  · rw [decide_eq_true hM] at CQ
    have CFM := Lib.hid (fun W h => CF.out W h hM)
    have HM := Lib.hid hM
    clear hM
    go_upto_region 11 with (go_at_call 9; (with_reducible refine (CQ.out _ S.out.l).mono ?_); rintro e w5 ⟨rfl, hb⟩; have S := Lib.hid (S.out.next hb); clear hb)
    obtain ⟨d0, d1⟩ := S.out.two
    go_region_held3 (fun w' => w'.cell? ⟨b, 0, none⟩ = some (.int .i64 x) ∧ w'.cell? ⟨b, 1, none⟩ = some (.int .i64 y))
      (first | with_reducible exact S.out.two | go_keep)
      (first
        | (go_at_call 10; (with_reducible refine (CFM.out _ (by first | exact S.out.l | exact S.out.drew.l)).mono ?_); rintro e w6 ⟨rfl, hb⟩; (first | have S := Lib.hid (S.out.next hb) | have S := Lib.hid (S.out.drew.next hb)); clear hb)
        | (go_at_call 11; (with_reducible refine (CG.out _ (by first | exact S.out.l | exact S.out.drew.l)).mono ?_); rintro e w6 ⟨rfl, hb⟩; (first | have S := Lib.hid (S.out.next hb) | have S := Lib.hid (S.out.drew.next hb)); clear hb))
    clear d0 d1
    by_cases hok : okMk L long
    · have hf0 := HE0.out hok
      have CPD := Lib.hid (CP.out hok D HD.out)
      subst hf0
      clear hok
      go_wp2_with (first
        | (go_at_call 12; (with_reducible refine (CPD.out _).mono ?_); rintro e w7 ⟨A', c', rfl, hp, hb⟩; have S := Lib.hid (S.out.next hb); have HPl := Lib.hid hp; clear hb hp)
        | (go_at_call 13; (with_reducible refine (CS.out _ _ _ HPl.out S.out.l).mono ?_); rintro e w8 ⟨rfl, hb⟩; have S := Lib.hid (S.out.next hb); clear hb))
      go_ret
      exact ⟨rfl, S.out.bel⟩
    · have hf1 := HE1.out hok
      subst hf1
      clear hok
      go_wp2_with fail
      go_ret
      exact ⟨rfl, S.out.bel⟩
  · rw [decide_eq_false hM] at CQ
    clear hM
    go_wp2_with (go_at_call 9; (with_reducible refine (CQ.out _ S.out.l).mono ?_); rintro e w5 ⟨rfl, hb⟩; have S := Lib.hid (S.out.next hb); clear hb)
    go_ret
    exact ⟨rfl, S.out.bel⟩
theorem law_back (A : Option Addr) (m c : Nat) (long : Bool) (x y : Int) (L : List (Int × Int)) (w : World) (hI : Pl w A m L) : Calls Try.prog 3 #[.slice A m c, .bool long, .agg #[.int .i64 x, .int .i64 y]] w fun e w' => e = .returned (.bool true) ∧ Below w.heap.size w w' := by
  rcases Nat.lt_or_ge 200 m with h | h
  · exact back_long A m c long x y w h
  · exact back_main A m c long x y L w hI h
end Go.Proofs.Ytbmpdpajnmjfpaa
