/- Proved here: what U16 and U32 answer, and the document's Cut, U16 and U32. Condition: a text of at most a billion bytes, places of 64 bits. -/
import Derived.Test.YtbmeamhpmahlgaaOb
namespace Go.Proofs.Ytbmeamhpmahlgaa
open Go.RowKit

theorem bv_le (l : List UInt8) (k : Nat) (h : l.length ≤ k) : bv l 0 < 256 ^ k := by
  have h1 := bv_lt l 0
  have h2 : 256 ^ l.length ≤ 256 ^ k := Nat.pow_le_pow_right (by decide) h
  omega
theorem wrap_u16n (n : Nat) (h : n < 65536) : IntKind.u16.wrap (n : Int) = (n : Int) := by rw [IntKind.wrap_u16]; omega
theorem wrap_u8n (n : Nat) (h : n < 256) : IntKind.u8.wrap (n : Int) = (n : Int) := by rw [IntKind.wrap_u8]; omega
set_option maxHeartbeats 2000000 in
theorem rcut_any (s : ByteArray) (a n : Int) (w : World) (hs : s.size ≤ 1000000000) (ha : a < 9223372036854775808) :
    Calls Try.prog 74 #[.string s, .int .i64 a, .int .i64 n] w fun e w' => e = .returned (.tuple #[.string ⟨(cutL s.data.toList a n).toArray⟩, .int .i64 (cutE s.data.toList a n)]) ∧ w = w' := by
  have hsz : s.data.toList.length = s.size := by simp
  unfold cutL cutE
  rw [hsz]
  by_cases h : Has s.size a n
  · rw [if_pos h, if_pos h]
    obtain ⟨h0, h1, h2⟩ := h
    have hsub := fun W => sub_run s a (a + n) h0 (by omega) (by omega) W
    rw [show a + n - a = n by omega] at hsub
    have hwr := i64_in (a + n) (by omega)
    have hwr2 := i64_in ((s.size : Int) - a) (by omega)
    obtain ⟨D, hD⟩ : ∃ D : ByteArray, D = ⟨(piece s.data.toList a.toNat n.toNat).toArray⟩ := ⟨_, rfl⟩
    rw [← hD] at hsub ⊢
    have d1 : decide (a < 0) = false := decide_eq_false (by omega)
    have d2 : decide (n < 0) = false := decide_eq_false (by omega)
    have d3 : decide ((s.size : Int) < a) = false := decide_eq_false (by omega)
    have d4 : decide ((s.size : Int) - a < n) = false := decide_eq_false (by omega)
    clear hD hsz h0 h1 h2
    go_enter Try.func74, Try.ntmps74
    go_wp2_with fail
    go_ret2
    exact ⟨rfl, rfl⟩
  · rw [if_neg h, if_neg h]
    by_cases h0 : 0 ≤ a
    · have d1 : decide (a < 0) = false := decide_eq_false (by omega)
      by_cases h1 : 0 ≤ n
      · have d2 : decide (n < 0) = false := decide_eq_false (by omega)
        have hwr2 := i64_in ((s.size : Int) - a) (by omega)
        by_cases h2 : (s.size : Int) < a
        · have d3 : decide ((s.size : Int) < a) = true := decide_eq_true h2
          clear hsz h
          go_enter Try.func74, Try.ntmps74
          go_wp2_with fail
          go_ret2
          exact ⟨rfl, rfl⟩
        · have d3 : decide ((s.size : Int) < a) = false := decide_eq_false h2
          have d4 : decide ((s.size : Int) - a < n) = true := decide_eq_true (Int.not_le.1 (fun h5 => h ⟨h0, h1, h5⟩))
          clear hsz h
          go_enter Try.func74, Try.ntmps74
          go_wp2_with fail
          go_ret2
          exact ⟨rfl, rfl⟩
      · have d2 : decide (n < 0) = true := decide_eq_true (by omega)
        clear hsz h
        go_enter Try.func74, Try.ntmps74
        go_wp2_with fail
        go_ret2
        exact ⟨rfl, rfl⟩
    · have d1 : decide (a < 0) = true := decide_eq_true (by omega)
      clear hsz h
      go_enter Try.func74, Try.ntmps74
      go_wp2_with fail
      go_ret2
      exact ⟨rfl, rfl⟩
end Go.Proofs.Ytbmeamhpmahlgaa
