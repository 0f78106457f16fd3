/- Proved here: that SumTurned's law answers true, over every text, place and byte. Condition: none beyond the kinds of the numbers. -/
import Derived.Test.YtfniickepoolkaaCe
import Derived.Laws.IdiomStrings
import Derived.RowKit3
namespace Go.Proofs.Ytfniickepoolkaa
open Go.RowKit

set_option maxRecDepth 100000 in
set_option maxHeartbeats 2000000 in
theorem turned_out (s : ByteArray) (at_ : Int) (c : Nat) (w : World) (h : 300 < s.size ∨ at_ < 0 ∨ (s.size : Int) ≤ at_) : Calls Try.prog 5 #[.string s, .int .i64 at_, .int .u8 (c : Int)] w fun e w' => e = .returned (.bool true) ∧ Below w.heap.size w w' := by
  by_cases h1 : 300 < s.size
  · have hd : decide (300 < (s.size : Int)) = true := decide_eq_true (by omega)
    clear h h1
    go_enter Try.func5, Try.ntmps5
    go_wp2_with (go_at_call 6; (with_reducible refine (awake_any _).mono ?_); rintro e w1 ⟨rfl, hb⟩; have B := Lib.hid hb; clear hb)
    go_ret
    exact ⟨rfl, B.out⟩
  · have hd : decide (300 < (s.size : Int)) = false := decide_eq_false (by omega)
    by_cases h2 : at_ < 0
    · clear h h1
      go_enter Try.func5, Try.ntmps5
      go_wp2_with (go_at_call 6; (with_reducible refine (awake_any _).mono ?_); rintro e w1 ⟨rfl, hb⟩; have B := Lib.hid hb; clear hb)
      go_ret
      exact ⟨rfl, B.out⟩
    · have hd2 : decide (at_ < 0) = false := decide_eq_false h2
      have hd3 : decide ((s.size : Int) ≤ at_) = true := decide_eq_true (by omega)
      clear h h1 h2
      go_enter Try.func5, Try.ntmps5
      go_wp2_with (go_at_call 6; (with_reducible refine (awake_any _).mono ?_); rintro e w1 ⟨rfl, hb⟩; have B := Lib.hid hb; clear hb)
      go_ret
      exact ⟨rfl, B.out⟩
theorem set_two {l : List UInt8} {k : Nat} (c : UInt8) (h : k < l.length) : l.set k c = l.take k ++ c :: l.drop (k + 1) ∧ l = l.take k ++ l[k] :: l.drop (k + 1) := by
  refine ⟨by rw [List.set_eq_take_append_cons_drop, if_pos h], ?_⟩
  rw [List.getElem_cons_drop, List.take_append_drop]
theorem crc_put {l : List UInt8} {k : Nat} (c : UInt8) (h : k < l.length) : (crc (l.set k c) = crc l) ↔ l[k] = c := by
  obtain ⟨h1, h2⟩ := set_two c h
  constructor
  · intro e
    rw [h1] at e
    have h3 : crc (l.take k ++ c :: l.drop (k + 1)) = crc (l.take k ++ l[k] :: l.drop (k + 1)) := by rw [e, ← h2]
    exact (crc_set h3).symm
  · intro e
    subst e
    rw [h1, ← h2]
theorem tb_put {l : List UInt8} {k : Nat} (c : UInt8) (h : k < l.length) : (tb (l.set k c) 0 0 = tb l 0 0) ↔ l[k] = c := by
  obtain ⟨h1, h2⟩ := set_two c h
  constructor
  · intro e
    rw [h1] at e
    have h3 : tb (l.take k ++ c :: l.drop (k + 1)) 0 0 = tb (l.take k ++ l[k] :: l.drop (k + 1)) 0 0 := by rw [e, ← h2]
    exact (tb_set h3).symm
  · intro e
    subst e
    rw [h1, ← h2]
/-- What the two conversions give, the byte written between them. -/
theorem turn_facts (s : ByteArray) (k c : Nat) (hc : c < 256) (hk : k < s.size) (w : World) : ∃ (C : Array Value) (cap : Nat) (v0 : Value),
    (convert 9 28 (.string s)).run Try.prog w = .ok (.slice (some ⟨w.heap.size, 0, none⟩) s.size cap) (w.drew.alloc (.cells C 5 (C.size, C.size + 1)))
    ∧ (w.alloc (.cells C 5 (C.size, C.size + 1))).cell? ⟨w.heap.size, k, none⟩ = some v0 ∧ (w.alloc (.cells C 5 (C.size, C.size + 1))).frozen? ⟨w.heap.size, k, none⟩ = false
    ∧ (convert 28 9 (.slice (some ⟨w.heap.size, 0, none⟩) s.size cap)).run Try.prog ((w.alloc (.cells C 5 (C.size, C.size + 1))).setCell ⟨w.heap.size, k, none⟩ (.int .u8 (c : Int))).drew = .ok (.string ⟨(s.data.toList.set k (UInt8.ofNat c)).toArray⟩) ((w.alloc (.cells C 5 (C.size, C.size + 1))).setCell ⟨w.heap.size, k, none⟩ (.int .u8 (c : Int))).drew := by
  have hcv := run_bytes_of_string (P := Try.prog) w 9 28 5 s Try.underlying9 Try.underlying28 Try.underlying5
  obtain ⟨C, hC⟩ : ∃ C, C = bytesRow s (grownCap w s.size 0 5) := ⟨_, rfl⟩
  have hat : ∀ j (hj : j < s.data.size), C[j]? = some (.int .u8 (s.data[j].toNat : Int)) := fun j hj => by rw [hC]; exact bytesRow_at s _ j hj
  have hCs : s.size ≤ C.size := by
    rw [hC]
    show s.data.size ≤ _
    simp [bytesRow]
  rw [← hC] at hcv
  have hsd : s.data.size = s.size := rfl
  have hc0 : (w.alloc (.cells C 5 (C.size, C.size + 1))).cell? ⟨w.heap.size, k, none⟩ = some (.int .u8 ((s.data[k]'hk).toNat : Int)) := by rw [World.cell?_alloc_mark]; exact hat k hk
  refine ⟨C, _, _, hcv, hc0, ?_, ?_⟩
  · rw [World.frozen?_alloc_mark]
    simp
    omega
  · have hl : (s.data.toList.set k (UInt8.ofNat c)).length = s.size := by simp [hsd]
    have h := run_convert_bytes_back (P := Try.prog) ((w.alloc (.cells C 5 (C.size, C.size + 1))).setCell ⟨w.heap.size, k, none⟩ (.int .u8 (c : Int))).drew 28 9 5 ⟨w.heap.size, 0, none⟩ (grownCap w s.size 0 5) (s.data.toList.set k (UInt8.ofNat c)) Try.underlying28 Try.underlying5 Try.underlying9 (fun j hj => by
      have e0 : (⟨w.heap.size, 0, none⟩ : Addr).add j = ⟨w.heap.size, j, none⟩ := by simp [Addr.add]; omega
      show ((w.alloc (.cells C 5 (C.size, C.size + 1))).setCell ⟨w.heap.size, k, none⟩ (.int .u8 (c : Int))).cell? ((⟨w.heap.size, 0, none⟩ : Addr).add j) = _
      rw [e0]
      by_cases hjk : j = k
      · subst hjk
        rw [World.cell?_setCell_same _ _ _ hc0]
        simp [Nat.mod_eq_of_lt hc]
      · rw [World.cell?_setCell_other _ _ _ _ (by simp), World.cell?_alloc_mark, hat j (by rw [hl] at hj; exact hj), List.getElem_set_ne (by omega)]
        simp)
    rw [hl] at h
    exact h
set_option maxRecDepth 100000 in
set_option maxHeartbeats 2000000 in
theorem turned_in (s D : ByteArray) (k c b x y x2 y2 : Nat) (w : World) (hs : s.size ≤ 300) (hk : k < s.size) (HA : ∀ W, Calls Try.prog 7 #[.string s] W fun e w' => e = .returned (.int .u32 (x : Int)) ∧ W = w')
    (HB : ∀ W, Calls Try.prog 7 #[.string D] W fun e w' => e = .returned (.int .u32 (x2 : Int)) ∧ W = w') (HC : ∀ W, Calls Try.prog 9 #[.string s] W fun e w' => e = .returned (.int .u32 (y : Int)) ∧ W = w')
    (HD : ∀ W, Calls Try.prog 9 #[.string D] W fun e w' => e = .returned (.int .u32 (y2 : Int)) ∧ W = w')
    (hi : ∀ W, (Instr.index 9 (.string s) (.int .i64 (k : Int))).run Try.prog W = .ok (.int .u8 (b : Int)) W)
    (hf : ∀ w : World, ∃ (C : Array Value) (cap : Nat) (v0 : Value),
      (convert 9 28 (.string s)).run Try.prog w = .ok (.slice (some ⟨w.heap.size, 0, none⟩) s.size cap) (w.drew.alloc (.cells C 5 (C.size, C.size + 1)))
      ∧ (w.alloc (.cells C 5 (C.size, C.size + 1))).cell? ⟨w.heap.size, k, none⟩ = some v0 ∧ (w.alloc (.cells C 5 (C.size, C.size + 1))).frozen? ⟨w.heap.size, k, none⟩ = false
      ∧ (convert 28 9 (.slice (some ⟨w.heap.size, 0, none⟩) s.size cap)).run Try.prog ((w.alloc (.cells C 5 (C.size, C.size + 1))).setCell ⟨w.heap.size, k, none⟩ (.int .u8 (c : Int))).drew = .ok (.string D) ((w.alloc (.cells C 5 (C.size, C.size + 1))).setCell ⟨w.heap.size, k, none⟩ (.int .u8 (c : Int))).drew)
    (hx : x2 = x ↔ b = c) (hy : y2 = y ↔ b = c) :
    Calls Try.prog 5 #[.string s, .int .i64 (k : Int), .int .u8 (c : Int)] w fun e w' => e = .returned (.bool true) ∧ Below w.heap.size w w' := by
  have hd : decide (300 < (s.size : Int)) = false := decide_eq_false (by omega)
  have hd2 : decide ((k : Int) < 0) = false := decide_eq_false (by omega)
  have hd3 : decide ((s.size : Int) ≤ (k : Int)) = false := decide_eq_false (by omega)
  have H1 := Lib.hid HA
  have H2 := Lib.hid HB
  have H3 := Lib.hid HC
  have H4 := Lib.hid HD
  have HF := Lib.hid hf
  clear HA HB HC HD hf
  by_cases he : b = c
  · have e1 := Lib.hid (hx.mpr he)
    have e2 := Lib.hid (hy.mpr he)
    have b1 : ((b : Int) == (c : Int)) = true := by simp [he]
    have b2 : ((x2 : Int) == (x : Int)) = true := by simp [e1.out]
    have b3 : ((y2 : Int) == (y : Int)) = true := by simp [e2.out]
    clear he hx hy
    go_enter Try.func5, Try.ntmps5
    go_wp2_with (first
      | (go_at_call 6; (with_reducible refine (awake_any _).mono ?_); rintro e w1 ⟨rfl, hb⟩; have B := Lib.hid hb; clear hb; obtain ⟨C, cap, v0, hconv, hc0, hz0, hback⟩ := HF.out w1; have hgw := Lib.hid (Below.size B.out); obtain ⟨g, hg⟩ : ∃ g, g = w1.heap.size := ⟨_, rfl⟩; rw [← hg] at hconv hc0 hz0 hback hgw; clear hg)
      | (go_at_call 7; (with_reducible refine (H1.out _).mono ?_); rintro e w' ⟨rfl, rfl⟩)
      | (go_at_call 7; (with_reducible refine (H2.out _).mono ?_); rintro e w' ⟨rfl, rfl⟩)
      | (go_at_call 9; (with_reducible refine (H3.out _).mono ?_); rintro e w' ⟨rfl, rfl⟩)
      | (go_at_call 9; (with_reducible refine (H4.out _).mono ?_); rintro e w' ⟨rfl, rfl⟩))
    go_ret
    exact ⟨rfl, ((B.out.alloc B.out.size _).setCell hgw.out _).drew⟩
  · have e1 := Lib.hid (mt hx.mp he)
    have e2 := Lib.hid (mt hy.mp he)
    have b1 : ((b : Int) == (c : Int)) = false := by simp; omega
    have b2 : ((x2 : Int) == (x : Int)) = false := by simp; exact fun h => e1.out (by omega)
    have b3 : ((y2 : Int) == (y : Int)) = false := by simp; exact fun h => e2.out (by omega)
    clear he hx hy
    go_enter Try.func5, Try.ntmps5
    go_wp2_with (first
      | (go_at_call 6; (with_reducible refine (awake_any _).mono ?_); rintro e w1 ⟨rfl, hb⟩; have B := Lib.hid hb; clear hb; obtain ⟨C, cap, v0, hconv, hc0, hz0, hback⟩ := HF.out w1; have hgw := Lib.hid (Below.size B.out); obtain ⟨g, hg⟩ : ∃ g, g = w1.heap.size := ⟨_, rfl⟩; rw [← hg] at hconv hc0 hz0 hback hgw; clear hg)
      | (go_at_call 7; (with_reducible refine (H1.out _).mono ?_); rintro e w' ⟨rfl, rfl⟩)
      | (go_at_call 7; (with_reducible refine (H2.out _).mono ?_); rintro e w' ⟨rfl, rfl⟩)
      | (go_at_call 9; (with_reducible refine (H3.out _).mono ?_); rintro e w' ⟨rfl, rfl⟩)
      | (go_at_call 9; (with_reducible refine (H4.out _).mono ?_); rintro e w' ⟨rfl, rfl⟩))
    go_ret
    exact ⟨rfl, ((B.out.alloc B.out.size _).setCell hgw.out _).drew⟩
theorem law_turned (s : ByteArray) (at_ : Int) (c : Nat) (w : World) (hc : c < 256) : Calls Try.prog 5 #[.string s, .int .i64 at_, .int .u8 (c : Int)] w fun e w' => e = .returned (.bool true) ∧ Below w.heap.size w w' := by
  by_cases h : 300 < s.size ∨ at_ < 0 ∨ (s.size : Int) ≤ at_
  · exact turned_out s at_ c w h
  · obtain ⟨k, rfl⟩ := Int.eq_ofNat_of_zero_le (show 0 ≤ at_ by omega)
    have hk : k < s.size := by omega
    have hl : s.data.toList.length = s.size := by simp
    have hl2 : (s.data.toList.set k (UInt8.ofNat c)).length = s.size := by rw [List.length_set, hl]
    have hb : ∀ W, (Instr.index 9 (.string s) (.int .i64 (k : Int))).run Try.prog W = .ok (.int .u8 (bat s.data.toList k : Int)) W := fun W => idx_run s k (by omega) (k : Int) rfl W
    have hbat : ∀ P : Prop, (P ↔ s.data.toList[k]'(by omega) = UInt8.ofNat c) → (P ↔ bat s.data.toList k = c) := fun P hP => by
      rw [hP]
      unfold bat
      rw [List.getD_eq_getElem?_getD, List.getElem?_eq_getElem (by omega)]
      simp only [Option.getD_some]
      constructor
      · intro e; rw [e]; simp [Nat.mod_eq_of_lt hc]
      · intro e; apply UInt8.toNat_inj.mp; rw [e]; simp [Nat.mod_eq_of_lt hc]
    have h1 := crc_put (l := s.data.toList) (k := k) (UInt8.ofNat c) (by omega)
    have h2 := tb_put (l := s.data.toList) (k := k) (UInt8.ofNat c) (by omega)
    exact turned_in s ⟨(s.data.toList.set k (UInt8.ofNat c)).toArray⟩ k c (bat s.data.toList k) (crc s.data.toList) (tb s.data.toList 0 0) (crc (s.data.toList.set k (UInt8.ofNat c))) (tb (s.data.toList.set k (UInt8.ofNat c)) 0 0) w (by omega) hk
      (fun W => crc_any s W (by omega)) (fun W => crc_any _ W (by show (s.data.toList.set k (UInt8.ofNat c)).length ≤ _; omega)) (fun W => table_any s W (by omega)) (fun W => table_any _ W (by show (s.data.toList.set k (UInt8.ofNat c)).length ≤ _; omega))
      hb (turn_facts s k c hc hk) (hbat _ h1) (hbat _ h2)
end Go.Proofs.Ytfniickepoolkaa
