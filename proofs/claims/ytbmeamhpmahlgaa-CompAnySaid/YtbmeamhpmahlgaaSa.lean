/- Proved here: what the document's reader's calls answer, in any case; byte1; Is. Condition: a reader of a text of at most a billion bytes. -/
import Derived.Test.YtbmeamhpmahlgaaQf
namespace Go.Proofs.Ytbmeamhpmahlgaa
open Go.RowKit

theorem rr8_any (g : Nat) (s : ByteArray) (a : Nat) (f : Bool) (w : World) (h : Rd 62 w g s a f) (hs : s.size ≤ 1000000000) (ha : a ≤ s.size) :
    Calls Try.prog 51 #[.pointer (some ⟨g, 0, none⟩), .int .i64 1] w fun e w' => ∃ (v a' : Nat) (f' : Bool), e = .returned (.int .u32 (v : Int)) ∧ v < 256 ∧ NxS s.size a f 1 a' f' ∧ (f' = false → v = bat s.data.toList a) ∧ Rd 62 w' g s a' f' ∧ Onl g w w' := by
  refine (rnum_read g s a f 1 w h hs ha (by omega)).mono fun e w' ⟨h1, h2, h3⟩ => ⟨_, _, _, h1, bv_le _ 1 (outR_len s.data.toList a f 1), NxS.of (n := 1) ha, fun hf => ?_, h2, h3⟩
  obtain ⟨_, h4, _, h5⟩ := pass_false (n := 1) hf
  rw [show s.size = s.data.toList.length from (size_list s).symm] at h4 h5
  rw [outR_yes h5]
  exact piece_one h4
set_option maxHeartbeats 2000000 in
set_option maxRecDepth 100000 in
theorem byte1_any (g : Nat) (s : ByteArray) (a : Nat) (f : Bool) (w : World) (h : Rd 62 w g s a f) (hs : s.size ≤ 1000000000) (ha : a ≤ s.size) :
    Calls Try.prog 53 #[.pointer (some ⟨g, 0, none⟩)] w fun e w' => ∃ (v a' : Nat) (f' : Bool), e = .returned (.int .i64 (sg8 v)) ∧ v < 256 ∧ NxS s.size a f 1 a' f' ∧ (f' = false → v = bat s.data.toList a) ∧ Rd 62 w' g s a' f' ∧ Onl g w w' := by
  have C := Lib.hid (rr8_any g s a f w h hs ha)
  clear h hs ha
  go_enter Try.func53, Try.ntmps53
  go_wp2_with (go_at_call 51; (with_reducible refine C.out.mono ?_); rintro e w1 ⟨v, a1, f1, rfl, hv, n1, q1, rd1, o1⟩; have z1 : IntKind.i64.wrap (v : Int) = (v : Int) := (i64_in _ (by omega)); have H := Lib.hid (And.intro n1 (And.intro q1 (And.intro rd1 o1))); clear n1 q1 rd1 o1)
  all_goals go_ret
  · refine ⟨v, a1, f1, ?_, hv, H.out⟩
    unfold sg8; rw [if_pos (by omega)]; rfl
  · refine ⟨v, a1, f1, ?_, hv, H.out⟩
    unfold sg8; rw [if_neg (by omega)]; rfl
theorem isN_b (l : List UInt8) : isN l ↔ 2 ≤ l.length ∧ 128 ≤ bat l 0 := by
  unfold isN
  refine ⟨fun ⟨h1, h2⟩ => ⟨h1, ?_⟩, fun ⟨h1, h2⟩ => ⟨h1, ?_⟩⟩
  · match l, h1 with
    | x :: y :: r, _ =>
      have e1 : n2 (x :: y :: r) 0 = x.toNat * 256 + y.toNat := by unfold n2 piece; simp [bv]
      have e2 : bat (x :: y :: r) 0 = x.toNat := rfl
      have := y.toNat_lt
      omega
  · match l, h1 with
    | x :: y :: r, _ =>
      have e1 : n2 (x :: y :: r) 0 = x.toNat * 256 + y.toNat := by unfold n2 piece; simp [bv]
      have e2 : bat (x :: y :: r) 0 = x.toNat := rfl
      have := y.toNat_lt
      omega
set_option maxHeartbeats 2000000 in
set_option maxRecDepth 100000 in
theorem ris_any (s : ByteArray) (w : World) (hs : s.size ≤ 1000000000) : Calls Try.prog 15 #[.string s] w fun e w' => e = .returned (.bool (decide (isN s.data.toList))) ∧ w = w' := by
  have hsz := size_list s
  have hi := isN_b s.data.toList
  by_cases h1 : 2 ≤ s.size
  · have hx := idx_run s 0 (by rw [hsz]; omega)
    have hv : bat s.data.toList 0 < 256 := bat_lt _ _
    by_cases h2 : 128 ≤ bat s.data.toList 0
    · rw [decide_eq_true (hi.2 ⟨by rw [hsz]; exact h1, h2⟩)]
      obtain ⟨v, hvv⟩ : ∃ v, v = bat s.data.toList 0 := ⟨_, rfl⟩
      rw [← hvv] at hx hv h2
      have hx := hx 0 rfl
      have e2 : decide (128 ≤ (v : Int)) = true := decide_eq_true (by omega)
      clear hsz hi hvv
      go_enter Try.func15, Try.ntmps15
      go_wp2_with fail
      go_ret
      exact ⟨rfl, rfl⟩
    · rw [decide_eq_false (fun h => h2 (hi.1 h).2)]
      obtain ⟨v, hvv⟩ : ∃ v, v = bat s.data.toList 0 := ⟨_, rfl⟩
      rw [← hvv] at hx hv h2
      have hx := hx 0 rfl
      have e2 : decide (128 ≤ (v : Int)) = false := decide_eq_false (by omega)
      clear hsz hi hvv
      go_enter Try.func15, Try.ntmps15
      go_wp2_with fail
      go_ret
      exact ⟨rfl, rfl⟩
  · rw [decide_eq_false (fun h => h1 (by rw [← hsz]; exact h.1))]
    clear hsz hi
    go_enter Try.func15, Try.ntmps15
    go_wp2_with fail
    go_ret
    exact ⟨rfl, rfl⟩
end Go.Proofs.Ytbmeamhpmahlgaa
