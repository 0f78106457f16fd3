/- Proved here: that TableTurned's law answers true, over every list of tables, all places and every byte. Condition: the list lies in memory. -/
import Derived.Test.YtlidagofjkilgaaXc
namespace Go.Proofs.Ytlidagofjkilgaa
open Go.RowKit

theorem turn_facts (s : ByteArray) (k c : Nat) (hc : c < 256) (hk : k < s.size) (w : World) : ∃ (C : Array Value) (cap : Nat) (v0 : Value),
    (convert 9 39 (.string s)).run Try.prog w = .ok (.slice (some ⟨w.heap.size, 0, none⟩) s.size cap) (w.drew.alloc (.cells C 5 (C.size, C.size + 1)))
    ∧ (w.alloc (.cells C 5 (C.size, C.size + 1))).cell? ⟨w.heap.size, k, none⟩ = some v0 ∧ (w.alloc (.cells C 5 (C.size, C.size + 1))).frozen? ⟨w.heap.size, k, none⟩ = false
    ∧ (convert 39 9 (.slice (some ⟨w.heap.size, 0, none⟩) s.size cap)).run Try.prog ((w.alloc (.cells C 5 (C.size, C.size + 1))).setCell ⟨w.heap.size, k, none⟩ (.int .u8 (c : Int))).drew = .ok (.string ⟨(s.data.toList.set k (UInt8.ofNat c)).toArray⟩) ((w.alloc (.cells C 5 (C.size, C.size + 1))).setCell ⟨w.heap.size, k, none⟩ (.int .u8 (c : Int))).drew := by
  have hcv := run_bytes_of_string (P := Try.prog) w 9 39 5 s Try.underlying9 Try.underlying39 Try.underlying5
  obtain ⟨C, hC⟩ : ∃ C, C = bytesRow s (grownCap w s.size 0 5) := ⟨_, rfl⟩
  have hat : ∀ j (hj : j < s.data.size), C[j]? = some (.int .u8 (s.data[j].toNat : Int)) := fun j hj => by rw [hC]; exact bytesRow_at s _ j hj
  have hCs : s.size ≤ C.size := by
    rw [hC]
    show s.data.size ≤ _
    simp [bytesRow]
  rw [← hC] at hcv
  have hsd : s.data.size = s.size := rfl
  have hc0 : (w.alloc (.cells C 5 (C.size, C.size + 1))).cell? ⟨w.heap.size, k, none⟩ = some (.int .u8 ((s.data[k]'hk).toNat : Int)) := by rw [World.cell?_alloc_mark]; exact hat k hk
  refine ⟨C, _, _, hcv, hc0, ?_, ?_⟩
  · rw [World.frozen?_alloc_mark]
    simp
    omega
  · have hl : (s.data.toList.set k (UInt8.ofNat c)).length = s.size := by simp [hsd]
    have h := run_convert_bytes_back (P := Try.prog) ((w.alloc (.cells C 5 (C.size, C.size + 1))).setCell ⟨w.heap.size, k, none⟩ (.int .u8 (c : Int))).drew 39 9 5 ⟨w.heap.size, 0, none⟩ (grownCap w s.size 0 5) (s.data.toList.set k (UInt8.ofNat c)) Try.underlying39 Try.underlying5 Try.underlying9 (fun j hj => by
      have e0 : (⟨w.heap.size, 0, none⟩ : Addr).add j = ⟨w.heap.size, j, none⟩ := by simp [Addr.add]; omega
      show ((w.alloc (.cells C 5 (C.size, C.size + 1))).setCell ⟨w.heap.size, k, none⟩ (.int .u8 (c : Int))).cell? ((⟨w.heap.size, 0, none⟩ : Addr).add j) = _
      rw [e0]
      by_cases hjk : j = k
      · subst hjk
        rw [World.cell?_setCell_same _ _ _ hc0]
        simp [Nat.mod_eq_of_lt hc]
      · rw [World.cell?_setCell_other _ _ _ _ (by simp), World.cell?_alloc_mark, hat j (by rw [hl] at hj; exact hj), List.getElem_set_ne (by omega)]
        simp)
    rw [hl] at h
    exact h
/-- The two places, in their box. -/
structure TrS (w W : World) (b4 a0 a1 : Nat) : Prop where
  bel : Below w.heap.size w W
  blk : W.heap[b4]? = some (.cells #[.int .u8 (a0 : Int), .int .u8 (a1 : Int)] 41 (0, 0))
theorem TrS.next {w W W' : World} {b4 a0 a1 : Nat} (h : TrS w W b4 a0 a1) (hb : Below W.heap.size W W') : TrS w W' b4 a0 a1 := ⟨h.bel.trans (hb.mono h.bel.size), (hb.block b4 (heap_lt h.blk)).trans h.blk⟩
theorem TrS.cells {w W : World} {b4 a0 a1 : Nat} (h : TrS w W b4 a0 a1) : W.cell? ⟨b4, 0, none⟩ = some (.int .u8 (a0 : Int)) ∧ W.cell? ⟨b4, 1, none⟩ = some (.int .u8 (a1 : Int)) := ⟨cell_of_row W b4 0 _ 41 (0, 0) h.blk, cell_of_row W b4 1 _ 41 (0, 0) h.blk⟩
/-- The table that is turned, in its box. -/
structure TrT (w W : World) (b4 a0 a1 g : Nat) (X D : ByteArray) : Prop where
  s : TrS w W b4 a0 a1
  blk : W.heap[g]? = some (.cells #[.string X, .string D] 25 (0, 0))
theorem TrT.next {w W W' : World} {b4 a0 a1 g : Nat} {X D : ByteArray} (h : TrT w W b4 a0 a1 g X D) (hb : Below W.heap.size W W') : TrT w W' b4 a0 a1 g X D := ⟨h.s.next hb, (hb.block g (heap_lt h.blk)).trans h.blk⟩
theorem TrT.cells {w W : World} {b4 a0 a1 g : Nat} {X D : ByteArray} (h : TrT w W b4 a0 a1 g X D) : W.cell? ⟨g, 0, none⟩ = some (.string X) ∧ W.cell? ⟨g, 1, none⟩ = some (.string D) := ⟨cell_of_row W g 0 _ 25 (0, 0) h.blk, cell_of_row W g 1 _ 25 (0, 0) h.blk⟩
theorem TrS.start (w : World) (a0 a1 : Nat) : TrS w (w.alloc (.cells #[.int .u8 (a0 : Int), .int .u8 (a1 : Int)] 41)) w.heap.size a0 a1 := ⟨(Below.refl _ _).alloc (Nat.le_refl _) _, heap_alloc_new w _⟩
set_option maxHeartbeats 4000000 in
theorem turned_out (A : Option Addr) (m c : Nat) (L : List (List UInt8 × List UInt8)) (a0 a1 cb : Nat) (w : World) (h : Tl w A m L) (hx : 10 < m ∨ m = 0 ∨ ∃ i, i < m ∧ 200 < (dt L i).length) : Calls Try.prog 5 #[.slice A m c, .agg #[.int .u8 (a0 : Int), .int .u8 (a1 : Int)], .int .u8 (cb : Int)] w fun e w' => e = .returned (.bool true) ∧ Below w.heap.size w w' := by
  have HX := Lib.hid h
  have K0 := Lib.hid (TrS.start w a0 a1)
  clear h
  by_cases h10 : 10 < m
  · have hd : decide (10 < (m : Int)) = true := decide_eq_true (by omega)
    clear h10 hx
    go_enter Try.func5, Try.ntmps5
    go_wp2_with (go_at_call 6; (with_reducible refine (awake_any _).mono ?_); rintro e w1 ⟨rfl, hb⟩; have B := Lib.hid (K0.out.next hb); clear hb)
    go_ret
    exact ⟨rfl, B.out.bel⟩
  have hd : decide (10 < (m : Int)) = false := decide_eq_false (by omega)
  by_cases h0 : m = 0
  · have e0 : ((m : Int) == 0) = true := by simp; omega
    clear h10 hx h0
    go_enter Try.func5, Try.ntmps5
    go_wp2_with (go_at_call 6; (with_reducible refine (awake_any _).mono ?_); rintro e w1 ⟨rfl, hb⟩; have B := Lib.hid (K0.out.next hb); clear hb)
    go_ret
    exact ⟨rfl, B.out.bel⟩
  have e0 : ((m : Int) == 0) = false := by simp; omega
  have HBad := Lib.hid ((hx.resolve_left h10).resolve_left h0)
  have H10 := Lib.hid h10
  clear h10 hx h0
  go_enter Try.func5, Try.ntmps5
  go_wp2_with (go_at_call 6; (with_reducible refine (awake_any _).mono ?_); rintro e w1 ⟨rfl, hb⟩; have B := Lib.hid (K0.out.next hb); clear hb)
  go_loopw [31] (fun v wi => ∃ k : Nat, v = .int .i64 (k : Int) ∧ k ≤ m ∧ (∀ i, i < k → (dt L i).length ≤ 200) ∧ Below w.heap.size w wi) (fun v _ => m - (intOf v).toNat)
  case atStart => exact ⟨0, rfl, Nat.zero_le _, fun i hi => by omega, B.out.bel⟩
  case round =>
    obtain ⟨k, rfl, hk, hsm, hb⟩ := hrel
    have HB := Lib.hid hb
    have HSM := Lib.hid hsm
    clear hb hsm
    have h10 := H10.out
    by_cases hgo : k < m
    · obtain ⟨ad, rfl, c0, c1⟩ := HX.out.at_ HB.out hgo
      obtain ⟨X, hX⟩ : ∃ X : ByteArray, X = ⟨(tg L k).toArray⟩ := ⟨_, rfl⟩
      obtain ⟨D, hDD⟩ : ∃ D : ByteArray, D = ⟨(dt L k).toArray⟩ := ⟨_, rfl⟩
      have hDz : D.size = (dt L k).length := by rw [hDD]; exact List.size_toArray
      have hnd2 : ∃ n, n = (dt L k).length := ⟨_, rfl⟩
      obtain ⟨nd, hnd⟩ := hnd2
      rw [← hnd] at hDz
      rw [← hX] at c0
      rw [← hDD] at c1
      have hBA := Lib.hid (HB.out.alloc HB.out.size (.cells #[.string X, .string D] 25))
      have HS := Lib.hid (fun (h : nd ≤ 200) => show ∀ i, i < k + 1 → (dt L i).length ≤ 200 from fun i hi => by
        rcases Nat.lt_or_ge i k with h7 | h7
        · exact HSM.out i h7
        · rw [show i = k by omega, ← hnd]; exact h)
      clear hX hDD hnd
      by_cases h1 : 200 < nd
      · have d1 : decide (200 < (nd : Int)) = true := decide_eq_true (by omega)
        clear h1
        go_wp2_with fail
        go_ret
        exact ⟨rfl, hBA.out⟩
      · have d1 : decide (200 < (nd : Int)) = false := decide_eq_false (by omega)
        have HS2 := Lib.hid (HS.out (by omega))
        clear h1
        go_wp2_with fail
        exact ⟨⟨k + 1, by simp, by omega, HS2.out, hBA.out⟩, by simp [intOf]; omega⟩
    · exfalso
      obtain ⟨i, hi, hs⟩ := HBad.out
      have := HSM.out i (by omega)
      omega
end Go.Proofs.Ytlidagofjkilgaa
