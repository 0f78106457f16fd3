/- Proved here: that TableAny's law answers true, over every text and every byte. No condition. -/
import Derived.Test.YtlidagofjkilgaaWb
import Derived.Laws.MakeOwn
namespace Go.Proofs.Ytlidagofjkilgaa
open Go.RowKit

theorem made_rep (n : Nat) : madeCells #[.int .u8 0] (n * 1) = (List.replicate n (Value.int .u8 0)).toArray := by
  rw [Nat.mul_one]
  apply Array.ext'
  rw [toList_madeCells_one]
theorem mk8 (n : Nat) (hn : n ≤ 2000000) (w : World) : (Instr.makeSlice 39 (.int .i64 (n : Int)) (.int .i64 (n : Int))).run Try.prog w = .ok (.slice (some ⟨w.heap.size, 0, none⟩) n n) (w.alloc (.cells (List.replicate n (Value.int .u8 0)).toArray 5)) := by
  obtain ⟨i0, hi0, hz0, hz1, hz2⟩ := info_parts Try.info5
  have := run_makeSlice (P := Try.prog) w 39 5 i0 (.int .u8 0) Try.underlying39 hi0 hz0 .i64 .i64 (n : Int) (n : Int) (by omega) (Int.le_refl _) (by rw [hz1]; omega) (by rw [hz2]; omega) (by omega)
  rw [this, hz1, Int.toNat_natCast, show (Value.int .u8 0).cells = #[.int .u8 0] from rfl, made_rep]
theorem cv8 (n : Nat) (w : World) : (convert 39 9 (.slice (some ⟨w.heap.size, 0, none⟩) n n)).run Try.prog (w.alloc (.cells (List.replicate n (Value.int .u8 0)).toArray 5)) = .ok (.string ⟨(List.replicate n (0 : UInt8)).toArray⟩) (w.alloc (.cells (List.replicate n (Value.int .u8 0)).toArray 5)) := by
  have h := conv_new w (List.replicate n (0 : UInt8)) _ rfl _ rfl
  rw [List.length_replicate] at h
  have e : ((List.replicate n (0 : UInt8)).map fun c => Value.int .u8 (c.toNat : Int)).toArray = (List.replicate n (Value.int .u8 0)).toArray := by simp
  rw [e] at h
  exact h
theorem any_big (s : ByteArray) (c : Nat) (w : World) (h : 1000 < s.size) : Calls Try.prog 4 #[.string s, .int .u8 (c : Int)] w fun e w' => e = .returned (.bool true) ∧ Below w.heap.size w w' := by
  have hd : decide (1000 < (s.size : Int)) = true := decide_eq_true (by omega)
  clear h
  go_enter Try.func4, Try.ntmps4
  go_wp2_with (go_at_call 6; (with_reducible refine (awake_any _).mono ?_); rintro e w1 ⟨rfl, hb⟩; have B := Lib.hid hb; clear hb)
  go_ret
  exact ⟨rfl, B.out⟩
/-- What both answer, in letters. -/
theorem par_q (s : ByteArray) (w : World) (x : Int) (hs : s.size ≤ 1000) (hx : x = PE s.data.toList) : Calls Try.prog 11 #[.string s] w fun e w' => ∃ A c, e = .returned (.tuple #[.slice A (PT s.data.toList).length c, .int .i64 x]) ∧ Tl w' A (PT s.data.toList).length (PT s.data.toList) ∧ Below w.heap.size w w' :=
  (parse_any s w (by omega)).mono fun e w' ⟨A, n, c, h1, h2, h3⟩ => by
    have hn := h2.len
    subst hn
    rw [hx]
    exact ⟨A, c, h1, h2, h3⟩
theorem rpar_q (s : ByteArray) (w : World) (x : Int) (hs : s.size ≤ 1000) (hx : x = PE s.data.toList) : Calls Try.prog 13 #[.string s] w fun e w' => ∃ A c, e = .returned (.tuple #[.slice A (PT s.data.toList).length c, .int .i64 x]) ∧ Tl w' A (PT s.data.toList).length (PT s.data.toList) ∧ Below w.heap.size w w' :=
  (rparse_any s w (by omega)).mono fun e w' ⟨A, n, c, h1, h2, h3⟩ => by
    have hn := h2.len
    subst hn
    rw [hx]
    exact ⟨A, c, h1, h2, h3⟩
theorem pt_len (s : ByteArray) : (PT s.data.toList).length ≤ 1000 := by
  unfold PT
  split
  · rename_i h
    rw [tabs_len]
    have hc : cntE s.data.toList = 0 := by
      unfold PE at h
      by_cases h0 : cntE s.data.toList = 0
      · exact h0
      · rw [if_neg h0] at h; exact h
    have := cntE_zero hc
    omega
  · simp
theorem long_q (s Z : ByteArray) (w : World) (hs : s.size ≤ 1000) (hz : Z.size = 1048577 - s.size) : Calls Try.prog 11 #[.string (s ++ Z)] w fun e w' => ∃ A n c, e = .returned (.tuple #[.slice A n c, .int .i64 6]) ∧ Below w.heap.size w w' := by
  have hl : (s ++ Z).data.toList.length = 1048577 := by
    rw [app_list, List.length_append, size_list, size_list, hz]; omega
  have he : cntE (s ++ Z).data.toList = 6 := by unfold cntE; rw [hl, if_pos (by decide)]
  have hp : PE (s ++ Z).data.toList = 6 := pe_cnt he (by decide)
  have h := parse_bad (s ++ Z) w (by rw [← size_list, hl]; decide) (by rw [he]; decide)
  refine h.mono fun e w' ⟨A, n, c, h1, _, h3⟩ => ⟨A, n, c, by rw [h1, hp], h3⟩
set_option maxHeartbeats 2000000 in
theorem any_in (s : ByteArray) (c : Nat) (w : World) (h : s.size ≤ 1000) : Calls Try.prog 4 #[.string s, .int .u8 (c : Int)] w fun e w' => e = .returned (.bool true) ∧ Below w.heap.size w w' := by
  obtain ⟨z, hz⟩ : ∃ z, z = s.size := ⟨_, rfl⟩
  have hsz : s.size = z := hz.symm
  have hd : decide (1000 < (z : Int)) = false := decide_eq_false (by omega)
  obtain ⟨x, hx⟩ : ∃ x, x = PE s.data.toList := ⟨_, rfl⟩
  have hml := pt_len s
  have c1 := fun W => par_q s W x h hx
  have c2 := fun W => rpar_q s W x h hx
  obtain ⟨L, hL⟩ : ∃ L, L = PT s.data.toList := ⟨_, rfl⟩
  rw [← hL] at hml c1 c2
  obtain ⟨m, hm⟩ : ∃ m, m = L.length := ⟨_, rfl⟩
  rw [← hm] at hml c1 c2
  obtain ⟨k, hk⟩ : ∃ k, k = 1048577 - z := ⟨_, rfl⟩
  have hmk := fun W => mk8 k (by omega) W
  have hcv := fun W => cv8 k W
  obtain ⟨C, hC⟩ : ∃ C, C = (List.replicate k (Value.int .u8 0)).toArray := ⟨_, rfl⟩
  obtain ⟨Z, hZ⟩ : ∃ Z : ByteArray, Z = ⟨(List.replicate k (0 : UInt8)).toArray⟩ := ⟨_, rfl⟩
  have hZz : Z.size = k := by rw [hZ, ← size_list]; simp
  have c3 := fun W => long_q s Z W h (by rw [hZz, hk, hsz])
  rw [← hC] at hmk hcv
  rw [← hZ] at hcv
  have wk : IntKind.i64.wrap (1048577 - (z : Int)) = (k : Int) := by rw [i64_in _ (by omega)]; omega
  have l1 : ¬ 9223372036854775807 < z + k := by omega
  have C1 := Lib.hid c1
  have C2 := Lib.hid c2
  have C3 := Lib.hid c3
  have CS := Lib.hid (fun W A A' ca ca' (h : Tl W A m L) (h' : Tl W A' m L) => same_any A A' m ca ca' L W h h' (by omega))
  clear hz h hx hml c1 c2 c3 hL hm hk hC hZ
  by_cases h255 : c = 255
  · have e1 : ((c : Int) != 255) = false := by simp; omega
    clear h255
    go_enter Try.func4, Try.ntmps4
    go_wp2_with (first
      | (go_at_call 6; (with_reducible refine (awake_any _).mono ?_); rintro e w1 ⟨rfl, hb⟩; have B := Lib.hid hb; clear hb)
      | (go_at_call 11; (with_reducible refine (C1.out _).mono ?_); rintro e w2 ⟨A1, ca1, rfl, ht, hb⟩; have T1 := Lib.hid ht; have B2 := Lib.hid (B.out.trans (hb.mono B.out.size)); clear ht hb)
      | (go_at_call 13; (with_reducible refine (C2.out _).mono ?_); rintro e w3 ⟨A2, ca2, rfl, ht, hb⟩; have T3 := Lib.hid (T1.out.bel hb); have T2 := Lib.hid ht; have B3 := Lib.hid (B2.out.trans (hb.mono B2.out.size)); clear ht hb)
      | (go_at_call 12; (with_reducible refine (CS.out _ _ _ _ _ T3.out T2.out).mono ?_); rintro e w4 ⟨rfl, hb⟩; have B4 := Lib.hid (B3.out.trans (hb.mono B3.out.size)); clear hb)
      | (go_at_call 11; (with_reducible refine (C3.out _).mono ?_); rintro e w5 ⟨A5, n5, ca5, rfl, hb⟩; have B5 := Lib.hid ((B4.out.alloc B4.out.size (.cells C 5)).trans (hb.mono (B4.out.alloc B4.out.size (.cells C 5)).size)); clear hb))
    go_ret
    exact ⟨rfl, B5.out⟩
  · have e1 : ((c : Int) != 255) = true := by simp; omega
    clear h255
    go_enter Try.func4, Try.ntmps4
    go_wp2_with (first
      | (go_at_call 6; (with_reducible refine (awake_any _).mono ?_); rintro e w1 ⟨rfl, hb⟩; have B := Lib.hid hb; clear hb)
      | (go_at_call 11; (with_reducible refine (C1.out _).mono ?_); rintro e w2 ⟨A1, ca1, rfl, ht, hb⟩; have T1 := Lib.hid ht; have B2 := Lib.hid (B.out.trans (hb.mono B.out.size)); clear ht hb)
      | (go_at_call 13; (with_reducible refine (C2.out _).mono ?_); rintro e w3 ⟨A2, ca2, rfl, ht, hb⟩; have T3 := Lib.hid (T1.out.bel hb); have T2 := Lib.hid ht; have B3 := Lib.hid (B2.out.trans (hb.mono B2.out.size)); clear ht hb)
      | (go_at_call 12; (with_reducible refine (CS.out _ _ _ _ _ T3.out T2.out).mono ?_); rintro e w4 ⟨rfl, hb⟩; have B4 := Lib.hid (B3.out.trans (hb.mono B3.out.size)); clear hb))
    go_ret
    exact ⟨rfl, B4.out⟩
theorem law_any (s : ByteArray) (c : Nat) (w : World) : Calls Try.prog 4 #[.string s, .int .u8 (c : Int)] w fun e w' => e = .returned (.bool true) ∧ Below w.heap.size w w' := by
  by_cases h : 1000 < s.size
  · exact any_big s c w h
  · exact any_in s c w (by omega)
end Go.Proofs.Ytlidagofjkilgaa
