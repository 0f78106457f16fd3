/- Proved here: what the reference package's Digits, Value and fit answer and leave in memory. Condition: digits below 65536, as lists that lie in memory. -/
import Derived.Test.YtmbpehhbfbmacaaLDRg
import Derived.StillTailTactics
namespace Go.Proofs.Ytmbpehhbfbmacaa
open Go.RowKit

/-- The first k digits of a number of 64 bits. -/
def digs (x k : Nat) : List Nat := (List.range k).map fun j => x / 2 ^ (16 * j) % 65536
theorem digs_succ (x k : Nat) : digs x (k + 1) = digs x k ++ [x / 2 ^ (16 * k) % 65536] := by simp [digs, List.range_succ]
theorem digs_len (x k : Nat) : (digs x k).length = k := by simp [digs]
/-- What holds at each round's head of Digits: the row so far is 'pre' and k digits of x. -/
def DigR (w wr : World) (hi lo x : Nat) (pre : List Nat) (k : Nat) (z : Value) : Prop :=
  wr.ownsRow (w.heap.size + 1) 35 1 z (pre ++ digs x k).length (dc (pre ++ digs x k)) ∧ wr.cell? ⟨w.heap.size, 0, none⟩ = some (.int .u64 (hi : Int)) ∧ wr.cell? ⟨w.heap.size, 1, none⟩ = some (.int .u64 (lo : Int)) ∧ Below w.heap.size w wr ∧ w.heap.size + 1 ≤ wr.heap.size
theorem DigR.step {w wr w' : World} {hi lo x : Nat} {pre : List Nat} {k : Nat} {z z' : Value} (h : DigR w wr hi lo x pre k z) (hown : w'.ownsRow (w.heap.size + 1) 35 1 z' ((pre ++ digs x k).length + 1) (dc ((pre ++ digs x k) ++ [x / 2 ^ (16 * k) % 65536])))
    (hb : Below (w.heap.size + 1) wr w') : DigR w w' hi lo x pre (k + 1) z' := by
  obtain ⟨_, h2, h3, h4, h5⟩ := h
  refine ⟨?_, ?_, ?_, h4.trans (hb.mono (by omega)), Nat.le_trans h5 hb.size⟩
  · rw [digs_succ, ← List.append_assoc, List.length_append (bs := [_])]
    exact hown
  · rw [hb.cell (by simp)]; exact h2
  · rw [hb.cell (by simp)]; exact h3
theorem DigR.next {w wr : World} {hi lo k : Nat} {z : Value} (h : DigR w wr hi lo lo [] k z) (hk : k = 4) : DigR w wr hi lo hi (digs lo 4) 0 z := by
  subst hk
  have e : digs lo 4 ++ digs hi 0 = [] ++ digs lo 4 := by simp [digs]
  unfold DigR at h ⊢
  rw [e]
  exact h
theorem dig_cast (x k : Nat) : ((x : Int) / 2 ^ (16 * k)).tmod 65536 = ((x / 2 ^ (16 * k) % 65536 : Nat) : Int) := by
  have h : (x : Int) / 2 ^ (16 * k) = ((x / 2 ^ (16 * k) : Nat) : Int) := by simp
  rw [h, Int.tmod_eq_emod_of_nonneg (Int.natCast_nonneg _)]
  simp
set_option maxHeartbeats 1000000 in
set_option maxRecDepth 100000 in
theorem digits_any (hi lo : Nat) (w : World) (hh : hi < 18446744073709551616) (hl : lo < 18446744073709551616) :
    Calls Try.prog 31 #[.agg #[.int .u64 (hi : Int), .int .u64 (lo : Int)]] w fun e w' => ∃ z, e = .returned z ∧ Row w' z (digs lo 4 ++ digs hi 4) ∧ Below w.heap.size w w' := by
  have HH := Lib.hid hh
  have HL := Lib.hid hl
  clear hh hl
  go_enter Try.func31, Try.ntmps31
  go_wp2_with fail
  go_loopw [3, 4] (fun z i wr => ∃ k : Nat, i = .int .i64 (k : Int) ∧ k ≤ 4 ∧ DigR w wr hi lo lo [] k z) (fun _ i _ => 4 - (intOf i).toNat)
  case atStart => exact ⟨0, rfl, by omega, World.ownsRow_nil _ _ _ _, by go_simp, by go_simp, (Below.refl _ _).alloc (Nat.le_refl _) _, by simp⟩
  case round =>
    obtain ⟨k, rfl, hk, hr⟩ := hrel
    have hown := Lib.hid hr.1
    have hc1 := hr.2.2.1
    have hbas := hr.2.2.2.2
    have HR := Lib.hid hr
    clear hr
    by_cases hgo : k < 4
    · go_wp2_with (at_builtin; go_must (refine push_own rfl (.tmp 10) (.tmp 17) rfl (w.heap.size + 1) u3 _ ([] ++ digs lo k) (lo / 2 ^ (16 * k) % 65536) rfl hown.out _ ?_ hbas ?_ rfl ?_); rotate_left 2; intro z' w' hown' hb')
      case roundEnd => exact ⟨⟨k + 1, by simp, by omega, HR.out.step hown' hb'⟩, by simp [intOf]; omega⟩
      · exact dig_cast _ _
      · simp [digs_len]; omega
    · have hk4 : 4 ≤ k := by omega
      go_wp2_with fail
      have HR2 := Lib.hid (HR.out.next (by omega))
      clear HR hown hc1
      go_loopw [3, 5] (fun z i wr => ∃ k : Nat, i = .int .i64 (k : Int) ∧ k ≤ 4 ∧ DigR w wr hi lo hi (digs lo 4) k z) (fun _ i _ => 4 - (intOf i).toNat)
      case atStart => exact ⟨0, rfl, by omega, HR2.out⟩
      case round =>
        obtain ⟨k2, rfl, hk2, hr⟩ := hrel
        have hown := Lib.hid hr.1
        have hc1 := hr.2.1
        have hbas := hr.2.2.2.2
        have HR := Lib.hid hr
        clear hr
        by_cases hgo : k2 < 4
        · go_wp2_with (at_builtin; go_must (refine push_own rfl (.tmp 23) (.tmp 30) rfl (w.heap.size + 1) u3 _ (digs lo 4 ++ digs hi k2) (hi / 2 ^ (16 * k2) % 65536) rfl hown.out _ ?_ hbas ?_ rfl ?_); rotate_left 2; intro z' w' hown' hb')
          case refine_1 => exact dig_cast _ _
          case refine_2 => simp [digs_len]; omega
          exact ⟨⟨k2 + 1, by simp, by omega, HR.out.step hown' hb'⟩, by simp [intOf]; omega⟩
        · obtain rfl : k2 = 4 := by omega
          go_wp2_with fail
          go_ret
          exact ⟨_, rfl, Row.of_own HR.out.1, HR.out.2.2.2.1⟩
theorem p4 : (65536 ^ 4 : Nat) = 18446744073709551616 := by decide
end Go.Proofs.Ytmbpehhbfbmacaa
