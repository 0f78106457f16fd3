/- Proved here: the law CmapKinds returns true, over what lies in memory. Condition: the list lies in memory. -/
import Derived.Test.YtbmpdpajnmjfpaaYb
namespace Go.Proofs.Ytbmpdpajnmjfpaa
open Go.RowKit

/-- While the law runs: the list. -/
structure LkS (w W : World) (A : Option Addr) (m : Nat) (L : List (Int × Int)) : Prop where
  bel : Below w.heap.size w W
  l : Pl W A m L
theorem LkS.next {w W W' : World} {A : Option Addr} {m : Nat} {L : List (Int × Int)} (h : LkS w W A m L) (hb : Below W.heap.size W W') : LkS w W' A m L := ⟨h.bel.trans (hb.mono h.bel.size), h.l.bel hb⟩
theorem kinds_long (A : Option Addr) (m c : Nat) (w : World) (h : 200 < m) : Calls Try.prog 4 #[.slice A m c] w fun e w' => e = .returned (.bool true) ∧ Below w.heap.size w w' := by
  go_enter Try.func4, Try.ntmps4
  go_wp2_with (go_at_call 5; (with_reducible refine (awake_any _).mono ?_); rintro e w1 ⟨rfl, hb⟩; have HB1 := Lib.hid hb; clear hb)
  go_ret
  exact ⟨rfl, HB1.out⟩
theorem kinds_not (A : Option Addr) (m c : Nat) (L : List (Int × Int)) (w : World) (hI : Pl w A m L) (h : m ≤ 200) (hM : ¬ MayP L 1024) : Calls Try.prog 4 #[.slice A m c] w fun e w' => e = .returned (.bool true) ∧ Below w.heap.size w w' := by
  have CQ := Lib.hid (fun W (h : Pl W A m L) => rmay_any A m c L 1024 W h)
  rw [decide_eq_false hM] at CQ
  have h200 : ¬ 200 < m := by omega
  have S := Lib.hid (show LkS w w A m L from ⟨Below.refl _ _, hI⟩)
  clear hI hM h
  go_enter Try.func4, Try.ntmps4
  go_wp2_with (first
    | (go_at_call 5; (with_reducible refine (awake_any _).mono ?_); rintro e w1 ⟨rfl, hb⟩; have S := Lib.hid (S.out.next hb); clear hb)
    | (go_at_call 9; (with_reducible refine (CQ.out _ S.out.l).mono ?_); rintro e w2 ⟨rfl, hb⟩; have S := Lib.hid (S.out.next hb); clear hb))
  go_ret
  exact ⟨rfl, S.out.bel⟩
set_option maxRecDepth 100000 in
theorem kinds_far (A : Option Addr) (m c : Nat) (L : List (Int × Int)) (w : World) (hI : Pl w A m L) (h : m ≤ 200) (hM : MayP L 1024) (h0 : 0 < m) (hx : 65534 < cd L (m - 1)) : Calls Try.prog 4 #[.slice A m c] w fun e w' => e = .returned (.bool true) ∧ Below w.heap.size w w' := by
  have CQ := Lib.hid (fun W (h : Pl W A m L) => rmay_any A m c L 1024 W h)
  rw [decide_eq_true hM] at CQ
  have h200 : ¬ 200 < m := by omega
  have S := Lib.hid (show LkS w w A m L from ⟨Below.refl _ _, hI⟩)
  obtain ⟨q, hq⟩ : ∃ q, m = q + 1 := ⟨m - 1, by omega⟩
  rw [show m - 1 = q by omega] at hx
  have e1 : IntKind.i64.wrap ((m : Int) - 1) = (q : Int) := by rw [i64_in _ (by omega)]; omega
  obtain ⟨x, hxx⟩ : ∃ x, x = cd L q := ⟨_, rfl⟩
  rw [← hxx] at hx
  have hqm : q < m := by omega
  have HCQ := Lib.hid (show ∀ W, Pl W A m L → ∃ a, A = some a ∧ W.cell? (a.add (q * 2)) = some (.int .i64 x) from fun W h => by
    obtain ⟨a, h1, h2, _⟩ := h.at_ (Below.refl _ _) hqm
    exact ⟨a, h1, by rw [hxx]; exact h2⟩)
  obtain ⟨a, hA, c0⟩ := HCQ.out w hI
  subst hA
  clear hI hM h hxx hq
  go_enter Try.func4, Try.ntmps4
  go_wp2_with (first
    | (go_at_call 5; (with_reducible refine (awake_any _).mono ?_); rintro e w1 ⟨rfl, hb⟩; have S := Lib.hid (S.out.next hb); clear hb)
    | (go_at_call 9; (with_reducible refine (CQ.out _ S.out.l).mono ?_); rintro e w2 ⟨rfl, hb⟩; have S := Lib.hid (S.out.next hb); obtain ⟨a', hA', c1⟩ := HCQ.out _ S.out.l; injection hA' with hA'; subst hA'; clear hb))
  go_ret
  exact ⟨rfl, S.out.bel⟩
/-- Two kinds of bytes, made of the same list. -/
structure KdD (D : ByteArray) (A : Option Addr) (m c : Nat) (L : List (Int × Int)) (long : Bool) : Prop where
  make : ∀ W, Pl W A m L → Calls Try.prog 6 #[.slice A m c, .bool long] W fun e w' => e = .returned (.tuple #[.string D, .int .i64 0]) ∧ Below W.heap.size W w'
  parse : ∀ W, Calls Try.prog 12 #[.string D, .int .i64 1024] W fun e w' => ∃ A' c', e = .returned (.tuple #[.slice A' m c', .int .i64 0]) ∧ Pl w' A' m L ∧ Below W.heap.size W w'
theorem kd_of {L : List (Int × Int)} {long : Bool} (hok : okMk L long) (A : Option Addr) (m c : Nat) (hm : L.length = m) : KdD ⟨(mkS L long).toArray⟩ A m c L long := by
  subst hm
  refine ⟨fun W h => ?_, fun W => parse_made hok _ rfl W⟩
  have h1 := make_any A L.length c L long W h
  unfold StE at h1
  rw [(mk_yes hok).1] at h1
  exact h1
/-- .. and what they are parsed to. -/
structure KdS (w W : World) (A A1 A2 : Option Addr) (m : Nat) (L : List (Int × Int)) : Prop where
  bel : Below w.heap.size w W
  l : Pl W A m L
  l1 : Pl W A1 m L
  l2 : Pl W A2 m L
theorem KdS.next {w W W' : World} {A A1 A2 : Option Addr} {m : Nat} {L : List (Int × Int)} (h : KdS w W A A1 A2 m L) (hb : Below W.heap.size W W') : KdS w W' A A1 A2 m L := ⟨h.bel.trans (hb.mono h.bel.size), h.l.bel hb, h.l1.bel hb, h.l2.bel hb⟩
set_option maxHeartbeats 4000000 in
set_option maxRecDepth 100000 in
theorem kinds_none (A : Option Addr) (m c : Nat) (L : List (Int × Int)) (w : World) (hI : Pl w A m L) (_h : m ≤ 200) (hM : MayP L 1024) (h0 : m = 0) : Calls Try.prog 4 #[.slice A m c] w fun e w' => e = .returned (.bool true) ∧ Below w.heap.size w w' := by
  have hlen := hI.len
  have CQ := Lib.hid (fun W (h : Pl W A m L) => rmay_any A m c L 1024 W h)
  rw [decide_eq_true hM] at CQ
  have h200 : ¬ 200 < m := by omega
  have S := Lib.hid (show LkS w w A m L from ⟨Below.refl _ _, hI⟩)
  obtain ⟨D1, hD1⟩ : ∃ D : ByteArray, D = ⟨(mkS L true).toArray⟩ := ⟨_, rfl⟩
  obtain ⟨D2, hD2⟩ : ∃ D : ByteArray, D = ⟨(mkS L false).toArray⟩ := ⟨_, rfl⟩
  have H1 := Lib.hid (show KdD D1 A m c L true by rw [hD1]; exact kd_of ⟨hM, .inl rfl⟩ A m c hlen)
  have H2 := Lib.hid (show KdD D2 A m c L false by rw [hD2]; exact kd_of ⟨hM, .inr (.inl (by omega))⟩ A m c hlen)
  have CS := Lib.hid (fun A1 A2 c1 c2 W (h1 : Pl W A1 m L) (h2 : Pl W A2 m L) => same_any A1 A2 m c1 c2 L W h1 h2 (by omega))
  have h0' : ¬ 0 < m := by omega
  clear hD1 hD2 hlen hI hM _h h0
  go_enter Try.func4, Try.ntmps4
  go_wp2_with (first
    | (go_at_call 5; (with_reducible refine (awake_any _).mono ?_); rintro e w1 ⟨rfl, hb⟩; have S := Lib.hid (S.out.next hb); clear hb)
    | (go_at_call 9; (with_reducible refine (CQ.out _ S.out.l).mono ?_); rintro e w2 ⟨rfl, hb⟩; have S := Lib.hid (S.out.next hb); clear hb)
    | (go_at_call 6; (with_reducible refine (H1.out.make _ S.out.l).mono ?_); rintro e w3 ⟨rfl, hb⟩; have S := Lib.hid (S.out.next hb); clear hb)
    | (go_at_call 6; (with_reducible refine (H2.out.make _ S.out.l).mono ?_); rintro e w4 ⟨rfl, hb⟩; have S := Lib.hid (S.out.next hb); clear hb)
    | (go_at_call 12; (with_reducible refine (H1.out.parse _).mono ?_); rintro e w5 ⟨A1, c1, rfl, hp, hb⟩; have S5 := Lib.hid (And.intro (S.out.next hb) hp); clear hb hp)
    | (go_at_call 12; (with_reducible refine (H2.out.parse _).mono ?_); rintro e w6 ⟨A2, c2, rfl, hp, hb⟩; have T := Lib.hid (show KdS w w6 A A1 A2 m L from ⟨(S5.out.1.next hb).bel, (S5.out.1.next hb).l, S5.out.2.bel hb, hp⟩); clear hb hp)
    | (go_at_call 13; (with_reducible refine (CS.out _ _ _ _ _ T.out.l1 T.out.l2).mono ?_); rintro e w7 ⟨rfl, hb⟩; have T2 := Lib.hid (T.out.next hb); clear hb)
    | (go_at_call 13; (with_reducible refine (CS.out _ _ _ _ _ T2.out.l1 T2.out.l).mono ?_); rintro e w8 ⟨rfl, hb⟩; have T3 := Lib.hid (T2.out.next hb); clear hb))
  go_ret
  exact ⟨rfl, T3.out.bel⟩
set_option maxHeartbeats 4000000 in
set_option maxRecDepth 100000 in
theorem kinds_some (A : Option Addr) (m c : Nat) (L : List (Int × Int)) (w : World) (hI : Pl w A m L) (h : m ≤ 200) (hM : MayP L 1024) (h0 : 0 < m) (hx : cd L (m - 1) ≤ 65534) : Calls Try.prog 4 #[.slice A m c] w fun e w' => e = .returned (.bool true) ∧ Below w.heap.size w w' := by
  have hlen := hI.len
  have CQ := Lib.hid (fun W (h : Pl W A m L) => rmay_any A m c L 1024 W h)
  rw [decide_eq_true hM] at CQ
  have h200 : ¬ 200 < m := by omega
  have S := Lib.hid (show LkS w w A m L from ⟨Below.refl _ _, hI⟩)
  obtain ⟨D1, hD1⟩ : ∃ D : ByteArray, D = ⟨(mkS L true).toArray⟩ := ⟨_, rfl⟩
  obtain ⟨D2, hD2⟩ : ∃ D : ByteArray, D = ⟨(mkS L false).toArray⟩ := ⟨_, rfl⟩
  have H1 := Lib.hid (show KdD D1 A m c L true by rw [hD1]; exact kd_of ⟨hM, .inl rfl⟩ A m c hlen)
  have H2 := Lib.hid (show KdD D2 A m c L false by rw [hD2]; exact kd_of ⟨hM, .inr (.inr (by rw [hlen]; exact hx))⟩ A m c hlen)
  have CS := Lib.hid (fun A1 A2 c1 c2 W (h1 : Pl W A1 m L) (h2 : Pl W A2 m L) => same_any A1 A2 m c1 c2 L W h1 h2 (by omega))
  obtain ⟨q, hq⟩ : ∃ q, m = q + 1 := ⟨m - 1, by omega⟩
  rw [show m - 1 = q by omega] at hx
  have e1 : IntKind.i64.wrap ((m : Int) - 1) = (q : Int) := by rw [i64_in _ (by omega)]; omega
  obtain ⟨x, hxx⟩ : ∃ x, x = cd L q := ⟨_, rfl⟩
  rw [← hxx] at hx
  have hx' : ¬ 65534 < x := by omega
  have hqm : q < m := by omega
  have HCQ := Lib.hid (show ∀ W, Pl W A m L → ∃ a, A = some a ∧ W.cell? (a.add (q * 2)) = some (.int .i64 x) from fun W h => by
    obtain ⟨a, h1, h2, _⟩ := h.at_ (Below.refl _ _) hqm
    exact ⟨a, h1, by rw [hxx]; exact h2⟩)
  obtain ⟨a, hA, c0⟩ := HCQ.out w hI
  subst hA
  clear hD1 hD2 hlen hI hM h hxx hq hx
  go_enter Try.func4, Try.ntmps4
  go_wp2_with (first
    | (go_at_call 5; (with_reducible refine (awake_any _).mono ?_); rintro e w1 ⟨rfl, hb⟩; have S := Lib.hid (S.out.next hb); clear hb)
    | (go_at_call 9; (with_reducible refine (CQ.out _ S.out.l).mono ?_); rintro e w2 ⟨rfl, hb⟩; have S := Lib.hid (S.out.next hb); obtain ⟨a', hA', c1'⟩ := HCQ.out _ S.out.l; injection hA' with hA'; subst hA'; clear hb)
    | (go_at_call 6; (with_reducible refine (H1.out.make _ S.out.l).mono ?_); rintro e w3 ⟨rfl, hb⟩; have S := Lib.hid (S.out.next hb); clear hb)
    | (go_at_call 6; (with_reducible refine (H2.out.make _ S.out.l).mono ?_); rintro e w4 ⟨rfl, hb⟩; have S := Lib.hid (S.out.next hb); clear hb)
    | (go_at_call 12; (with_reducible refine (H1.out.parse _).mono ?_); rintro e w5 ⟨A1, c1, rfl, hp, hb⟩; have S5 := Lib.hid (And.intro (S.out.next hb) hp); clear hb hp)
    | (go_at_call 12; (with_reducible refine (H2.out.parse _).mono ?_); rintro e w6 ⟨A2, c2, rfl, hp, hb⟩; have T := Lib.hid (show KdS w w6 (some a) A1 A2 m L from ⟨(S5.out.1.next hb).bel, (S5.out.1.next hb).l, S5.out.2.bel hb, hp⟩); clear hb hp)
    | (go_at_call 13; (with_reducible refine (CS.out _ _ _ _ _ T.out.l1 T.out.l2).mono ?_); rintro e w7 ⟨rfl, hb⟩; have T2 := Lib.hid (T.out.next hb); clear hb)
    | (go_at_call 13; (with_reducible refine (CS.out _ _ _ _ _ T2.out.l1 T2.out.l).mono ?_); rintro e w8 ⟨rfl, hb⟩; have T3 := Lib.hid (T2.out.next hb); clear hb))
  go_ret
  exact ⟨rfl, T3.out.bel⟩
theorem law_kinds (A : Option Addr) (m c : Nat) (L : List (Int × Int)) (w : World) (hI : Pl w A m L) : Calls Try.prog 4 #[.slice A m c] w fun e w' => e = .returned (.bool true) ∧ Below w.heap.size w w' := by
  rcases Nat.lt_or_ge 200 m with h | h
  · exact kinds_long A m c w h
  · by_cases hM : MayP L 1024
    · rcases Nat.eq_zero_or_pos m with h0 | h0
      · exact kinds_none A m c L w hI h hM h0
      · by_cases hx : 65534 < cd L (m - 1)
        · exact kinds_far A m c L w hI h hM h0 hx
        · exact kinds_some A m c L w hI h hM h0 (by omega)
    · exact kinds_not A m c L w hI h hM
end Go.Proofs.Ytbmpdpajnmjfpaa
