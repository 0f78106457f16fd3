/- Proved here: what the document's sum of a table is, and the numbers ahead of a directory's rows, the program's and the document's. Condition: tables of at most 10^6 bytes; 1 up to 64 rows. -/
import Derived.Test.YtlidagofjkilgaaTc
namespace Go.Proofs.Ytlidagofjkilgaa
open Go.RowKit

theorem cat_three (x y : List UInt8) (D1 D2 : ByteArray) (h1 : D1 = ⟨x.toArray⟩) (h2 : D2 = ⟨y.toArray⟩) : (D1 ++ ⟨#[0, 0, 0, 0]⟩ ++ D2).data.toList = x ++ ([0, 0, 0, 0] ++ y) := by
  subst h1 h2
  rw [show (⟨#[0, 0, 0, 0]⟩ : ByteArray) = ⟨([0, 0, 0, 0] : List UInt8).toArray⟩ from rfl, app_txt, app_txt]
  simp
theorem cat_two (x y : List UInt8) (D1 D2 : ByteArray) (h1 : D1 = ⟨x.toArray⟩) (h2 : D2 = ⟨y.toArray⟩) : (D1 ++ D2).data.toList = x ++ y := by
  subst h1 h2
  rw [app_txt]
theorem rsum_head (t d : ByteArray) (w : World) (hs : d.data.toList.length ≤ 1000000 - 10) (hi : (t.toList == [104, 101, 97, 100]) = true) (_hi2 : (t.toList == ByteArray.toList ⟨#[104, 101, 97, 100]⟩) = true) :
    Calls Try.prog 26 #[.string t, .string d] w fun e w' => ∃ q, e = .returned (.int .u32 (total headT d.data.toList : Int)) ∧ w' = w.drewN q := by
  obtain ⟨n, hn⟩ : ∃ n, n = d.data.toList.length := ⟨_, rfl⟩
  have hsz : d.size = n := by rw [hn]; simp
  by_cases h12 : 12 ≤ n
  · have g1 : decide (12 ≤ (n : Int)) = true := decide_eq_true (by omega)
    have r1 := fun W => to_run d 8 (by omega) W
    have r2 := fun W => from_run d 12 (by omega) W
    obtain ⟨D1, hD1⟩ : ∃ D : ByteArray, D = ⟨(d.data.toList.take 8).toArray⟩ := ⟨_, rfl⟩
    obtain ⟨D2, hD2⟩ : ∃ D : ByteArray, D = ⟨(d.data.toList.drop 12).toArray⟩ := ⟨_, rfl⟩
    have hc := cat_three _ _ D1 D2 hD1 hD2
    have c1 := fun W => rtable_same (D1 ++ ⟨#[0, 0, 0, 0]⟩ ++ D2) W (by rw [hc]; simp; omega)
    rw [hc, total_12 (by omega)] at c1
    have z1 : D1.size = 8 := by rw [hD1]; show (d.data.toList.take 8).toArray.size = 8; rw [List.size_toArray, List.length_take]; omega
    have z2 : D2.size = n - 12 := by rw [hD2]; show (d.data.toList.drop 12).toArray.size = _; rw [List.size_toArray, List.length_drop]; omega
    rw [← hD1] at r1
    rw [← hD2] at r2
    obtain ⟨x, hx⟩ : ∃ x, x = total headT d.data.toList := ⟨_, rfl⟩
    rw [← hx] at c1 ⊢
    have H1 := Lib.hid c1
    have r1' : ∀ W, (Instr.slice 9 (.string d) none (some (.int .i64 8)) none).run Try.prog W = .ok (.string D1) W := r1
    have r2' : ∀ W, (Instr.slice 9 (.string d) (some (.int .i64 12)) none none).run Try.prog W = .ok (.string D2) W := r2
    have l1 : ¬ 9223372036854775807 < D1.size + 4 := by omega
    have l2 : ¬ 9223372036854775807 < D1.size + 4 + D2.size := by omega
    clear hn hD1 hD2 hc c1 hx hs r1 r2 z1 z2 h12
    go_enter Try.func26, Try.ntmps26
    go_wp2_with fail
    go_quiet ((go_at_call 42; with_reducible exact Calls.quiet_of_same (H1.out _)))
    all_goals
      go_wp2_with fail
      go_ret
      exact ⟨_, rfl, rfl⟩
  · have g1 : decide (12 ≤ (n : Int)) = false := decide_eq_false (by omega)
    by_cases h8 : 8 < n
    · have g2 : decide (8 < (n : Int)) = true := decide_eq_true (by omega)
      have r1 := fun W => to_run d 8 (by omega) W
      obtain ⟨k, hk⟩ : ∃ k, k = n - 8 := ⟨_, rfl⟩
      have r2 := fun W => to_run ⟨#[0, 0, 0, 0]⟩ k (by show k ≤ 4; omega) W
      have ek : IntKind.i64.wrap ((n : Int) - 8) = (k : Int) := by rw [i64_in _ (by omega)]; omega
      obtain ⟨D1, hD1⟩ : ∃ D : ByteArray, D = ⟨(d.data.toList.take 8).toArray⟩ := ⟨_, rfl⟩
      obtain ⟨D2, hD2⟩ : ∃ D : ByteArray, D = ⟨(([0, 0, 0, 0] : List UInt8).take k).toArray⟩ := ⟨_, rfl⟩
      have hc := cat_two _ _ D1 D2 hD1 hD2
      have c1 := fun W => rtable_same (D1 ++ D2) W (by rw [hc]; simp; omega)
      rw [hc, hk, hn, total_8 (by omega) (by omega)] at c1
      have z1 : D1.size = 8 := by rw [hD1]; show (d.data.toList.take 8).toArray.size = 8; rw [List.size_toArray, List.length_take]; omega
      have z2 : D2.size ≤ 4 := by rw [hD2]; show (List.take k ([0, 0, 0, 0] : List UInt8)).toArray.size ≤ 4; rw [List.size_toArray, List.length_take]; exact Nat.min_le_right _ _
      rw [← hD1] at r1
      have r2' : ∀ W, (Instr.slice 9 (.string ⟨#[0, 0, 0, 0]⟩) none (some (.int .i64 (k : Int))) none).run Try.prog W = .ok (.string D2) W := by rw [hD2]; exact r2
      obtain ⟨x, hx⟩ : ∃ x, x = total headT d.data.toList := ⟨_, rfl⟩
      rw [← hx] at c1 ⊢
      have H1 := Lib.hid c1
      have r1' : ∀ W, (Instr.slice 9 (.string d) none (some (.int .i64 8)) none).run Try.prog W = .ok (.string D1) W := r1
      have l2 : ¬ 9223372036854775807 < D1.size + D2.size := by omega
      clear hn hD1 hD2 hc c1 hx hs r1 r2 z1 z2 h12 h8 hk
      go_enter Try.func26, Try.ntmps26
      go_wp2_with fail
      go_quiet ((go_at_call 42; with_reducible exact Calls.quiet_of_same (H1.out _)))
      all_goals
        go_wp2_with fail
        go_ret
        exact ⟨_, rfl, rfl⟩
    · have g2 : decide (8 < (n : Int)) = false := decide_eq_false (by omega)
      have c1 := fun W => rtable_any d W (by omega)
      rw [total_0 (by omega)] at c1
      obtain ⟨x, hx⟩ : ∃ x, x = total headT d.data.toList := ⟨_, rfl⟩
      rw [← hx] at c1 ⊢
      have H1 := Lib.hid c1
      clear hn c1 hx hs h12 h8
      go_enter Try.func26, Try.ntmps26
      go_wp2_with (go_at_call 42; (with_reducible refine (H1.out _).mono ?_); rintro e w' ⟨rfl, rfl⟩)
      go_ret
      exact ⟨0, rfl, rfl⟩
theorem rsum_any (t d : ByteArray) (w : World) (hs : d.data.toList.length ≤ 1000000 - 10) : Calls Try.prog 26 #[.string t, .string d] w fun e w' => ∃ q, e = .returned (.int .u32 (total t.data.toList d.data.toList : Int)) ∧ w' = w.drewN q := by
  have hi := is_head t
  have hi2 := is_head' t
  by_cases h : t.data.toList = headT
  · rw [decide_eq_true h] at hi hi2
    rw [h]
    exact rsum_head t d w hs hi hi2
  · rw [decide_eq_false h] at hi hi2
    rw [total_not h]
    have c1 := fun W => rtable_any d W (by omega)
    obtain ⟨x, hx⟩ : ∃ x, x = tb d.data.toList 0 0 := ⟨_, rfl⟩
    rw [← hx] at c1 ⊢
    have H1 := Lib.hid c1
    clear h hs hx c1
    go_enter Try.func26, Try.ntmps26
    go_wp2_with (go_at_call 42; (with_reducible refine (H1.out _).mono ?_); rintro e w' ⟨rfl, rfl⟩)
    go_ret
    exact ⟨0, rfl, rfl⟩
theorem bits_log : ∀ n, n < 65 → 0 < n → Lib.bitLen n = pw n + 1 ∧ pw n ≤ 6 ∧ 2 ^ pw n ≤ n ∧ n < 2 ^ (pw n + 1) := by decide
theorem app_four (a b c d : List UInt8) : ((⟨a.toArray⟩ : ByteArray) ++ ⟨b.toArray⟩ ++ ⟨c.toArray⟩ ++ ⟨d.toArray⟩) = ⟨(a ++ b ++ c ++ d).toArray⟩ := by rw [app_txt, app_txt, app_txt]
set_option maxHeartbeats 2000000 in
theorem numbers_any (n : Nat) (w : World) (h0 : 0 < n) (h : n ≤ 64) : Calls Try.prog 17 #[.int .i64 (n : Int)] w fun e w' => e = .returned (.string ⟨(nums n).toArray⟩) ∧ Below w.heap.size w w' := by
  obtain ⟨hbl, hp6, hp1, hp2⟩ := bits_log n (by omega) h0
  unfold nums
  obtain ⟨p, hp⟩ : ∃ p, p = pw n := ⟨_, rfl⟩
  rw [← hp] at hbl hp6 hp1 hp2 ⊢
  have hlen := fun W => Try.bits_Len (n : Int) W (by omega) (by omega)
  rw [Int.toNat_natCast, hbl] at hlen
  obtain ⟨m, hm⟩ : ∃ m, m = 2 ^ p := ⟨_, rfl⟩
  have hsh : p = 0 ∧ m = 1 ∨ p = 1 ∧ m = 2 ∨ p = 2 ∧ m = 4 ∨ p = 3 ∧ m = 8 ∨ p = 4 ∧ m = 16 ∨ p = 5 ∧ m = 32 ∨ p = 6 ∧ m = 64 := by
    rcases (by omega : p = 0 ∨ p = 1 ∨ p = 2 ∨ p = 3 ∨ p = 4 ∨ p = 5 ∨ p = 6) with h | h | h | h | h | h | h <;> subst h <;> simp at hm <;> omega
  rw [← hm] at hp1 ⊢
  obtain ⟨r, hr⟩ : ∃ r, r = 16 * n - 16 * m := ⟨_, rfl⟩
  have c1 := fun W => p16_any n W (by omega)
  have c2 := fun (z : Int) (hz : z = ((16 * m : Nat) : Int)) W => hz ▸ p16_any (16 * m) W (by omega)
  have c3 := fun (z : Int) (hz : z = (p : Int)) W => hz ▸ p16_any p W (by omega)
  have c4 := fun (z : Int) (hz : z = (r : Int)) W => hz ▸ p16_any r W (by omega)
  rw [← hr]
  obtain ⟨X1, h1⟩ : ∃ X : ByteArray, X = ⟨(byt 2 n).toArray⟩ := ⟨_, rfl⟩
  obtain ⟨X2, h2⟩ : ∃ X : ByteArray, X = ⟨(byt 2 (16 * m)).toArray⟩ := ⟨_, rfl⟩
  obtain ⟨X3, h3⟩ : ∃ X : ByteArray, X = ⟨(byt 2 p).toArray⟩ := ⟨_, rfl⟩
  obtain ⟨X4, h4⟩ : ∃ X : ByteArray, X = ⟨(byt 2 r).toArray⟩ := ⟨_, rfl⟩
  have z1 : X1.size = 2 := by rw [h1]; exact byt_len 2 _
  have z2 : X2.size = 2 := by rw [h2]; exact byt_len 2 _
  have z3 : X3.size = 2 := by rw [h3]; exact byt_len 2 _
  have z4 : X4.size = 2 := by rw [h4]; exact byt_len 2 _
  have l1 : ¬ 9223372036854775807 < X1.size + X2.size := by omega
  have l2 : ¬ 9223372036854775807 < X1.size + X2.size + X3.size := by omega
  have l3 : ¬ 9223372036854775807 < X1.size + X2.size + X3.size + X4.size := by omega
  have hfin : X1 ++ X2 ++ X3 ++ X4 = ⟨(byt 2 n ++ byt 2 (16 * m) ++ byt 2 p ++ byt 2 r).toArray⟩ := by rw [h1, h2, h3, h4, app_four]
  rw [← h1] at c1
  rw [← h2] at c2
  rw [← h3] at c3
  rw [← h4] at c4
  rw [← hfin]
  have P1 := Lib.hid c1
  have P2 := Lib.hid c2
  have P3 := Lib.hid c3
  have P4 := Lib.hid c4
  have w0 : IntKind.u64.wrap (n : Int) = (n : Int) := by rw [IntKind.wrap_u64]; omega
  have w1 : IntKind.u16.wrap (n : Int) = (n : Int) := wrap_u16n n (by omega)
  have w5 : IntKind.u16.wrap (r : Int) = (r : Int) := wrap_u16n r (by omega)
  have B0 := Lib.hid (Below.refl w.heap.size w)
  have e4 : IntKind.i64.wrap ((n : Int) * 16) = (n : Int) * 16 := i64_in _ (by omega)
  have E5 := Lib.hid (show ∀ q : Int, q = ((16 * m : Nat) : Int) → IntKind.u16.wrap (wrap64 ((n : Int) * 16 - q)) = (r : Int) from fun q hq => by
    have e6 : wrap64 ((n : Int) * 16 - q) = (r : Int) := by unfold wrap64; omega
    rw [e6]; exact w5)
  have HL := Lib.hid hlen
  clear hlen hbl hp6 hp2 hp hm h1 h2 h3 h4 c1 c2 c3 c4 z1 z2 z3 z4 hfin hr hp1 h0 h
  rcases hsh with ⟨rfl, rfl⟩ | ⟨rfl, rfl⟩ | ⟨rfl, rfl⟩ | ⟨rfl, rfl⟩ | ⟨rfl, rfl⟩ | ⟨rfl, rfl⟩ | ⟨rfl, rfl⟩
  all_goals
    go_enter Try.func17, Try.ntmps17
    go_wp2_with (first
      | (go_at_call 35; (with_reducible refine (HL.out _).mono ?_); rintro e w' ⟨rfl, rfl⟩)
      | (go_at_call 36; (with_reducible refine (P1.out _).mono ?_); rintro e w1 ⟨rfl, hb⟩; have B1 := Lib.hid (B0.out.trans (hb.mono B0.out.size)); clear hb)
      | (go_at_call 36; (with_reducible refine (P4.out _ (E5.out _ (by omega)) _).mono ?_); rintro e w4 ⟨rfl, hb⟩; have B4 := Lib.hid (B3.out.trans (hb.mono B3.out.size)); clear hb)
      | (go_at_call 36; (with_reducible refine (P2.out _ (by omega) _).mono ?_); rintro e w2 ⟨rfl, hb⟩; have B2 := Lib.hid (B1.out.trans (hb.mono B1.out.size)); clear hb)
      | (go_at_call 36; (with_reducible refine (P3.out _ (by omega) _).mono ?_); rintro e w3 ⟨rfl, hb⟩; have B3 := Lib.hid (B2.out.trans (hb.mono B2.out.size)); clear hb))
    go_ret
    exact ⟨rfl, B4.out⟩
end Go.Proofs.Ytlidagofjkilgaa
