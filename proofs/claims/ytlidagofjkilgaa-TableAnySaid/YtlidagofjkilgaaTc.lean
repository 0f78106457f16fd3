/- Proved here: what the sum of a table, and the numbers ahead of a directory's rows, are, the program's and the document's. Condition: tables of at most 10^6 bytes; 1 up to 64 rows. -/
import Derived.Test.YtlidagofjkilgaaTb
namespace Go.Proofs.Ytlidagofjkilgaa
open Go.RowKit

theorem size_list (s : ByteArray) : s.data.toList.length = s.size := by simp
theorem to_run (s : ByteArray) (b : Nat) (h : b ≤ s.size) (W : World) : (Instr.slice 9 (.string s) none (some (.int .i64 (b : Int))) none).run Try.prog W = .ok (.string ⟨(s.data.toList.take b).toArray⟩) W := by
  have hex : s.extract 0 (b : Int).toNat = ⟨(s.data.toList.take b).toArray⟩ := by
    apply ByteArray.ext
    apply Array.toList_inj.1
    have e1 : (s.extract 0 (b : Int).toNat).data.toList = s.data.toList.take b := by
      simp [List.extract]
    rw [e1]
  rw [run_slice_string_to_if W 9 s .i64 (b : Int) (by kernel_rfl), if_pos (by omega), hex]
theorem from_run (s : ByteArray) (a : Nat) (h : a ≤ s.size) (W : World) : (Instr.slice 9 (.string s) (some (.int .i64 (a : Int))) none none).run Try.prog W = .ok (.string ⟨(s.data.toList.drop a).toArray⟩) W := by
  have hex : s.extract (a : Int).toNat s.size = ⟨(s.data.toList.drop a).toArray⟩ := by
    apply ByteArray.ext
    apply Array.toList_inj.1
    have e1 : (s.extract (a : Int).toNat s.size).data.toList = (s.data.toList.drop a).take (s.size - a) := by
      simp [List.extract]
    rw [e1, List.take_of_length_le]
    rw [List.length_drop, size_list]
    omega
  rw [run_slice_string_from_if W 9 s .i64 (a : Int) (by kernel_rfl), if_pos (by omega), hex]
theorem wt_mod {i j : Nat} (h : i % 4 = j % 4) : wt i = wt j := by unfold wt; rw [h]
theorem tb_mod : ∀ (l : List UInt8) {i j : Nat} (a : Nat), i % 4 = j % 4 → tb l i a = tb l j a
  | [], _, _, _, _ => rfl
  | c :: l, i, j, a, h => by
    simp only [tb]
    rw [wt_mod h, tb_mod l _ (show (i + 1) % 4 = (j + 1) % 4 by omega)]
theorem tb_add : ∀ (l : List UInt8) (i a : Nat), a < 4294967296 → tb l i a = (a + tb l i 0) % 4294967296
  | [], _, a, h => by simp only [tb]; omega
  | c :: l, i, a, h => by
    simp only [tb]
    rw [tb_add l _ _ (Nat.mod_lt _ (by decide)), tb_add l _ ((0 + c.toNat * wt i) % 4294967296) (Nat.mod_lt _ (by decide))]
    generalize c.toNat * wt i = x
    omega
theorem tb_zer : ∀ (k i a : Nat), a < 4294967296 → tb (List.replicate k 0) i a = a
  | 0, _, _, _ => rfl
  | k + 1, i, a, h => by
    rw [List.replicate_succ]
    simp only [tb]
    have e : (a + (0 : UInt8).toNat * wt i) % 4294967296 = a := by
      rw [show (0 : UInt8).toNat = 0 from rfl, Nat.zero_mul]; omega
    rw [e]
    exact tb_zer k _ a h
theorem total_not {t d : List UInt8} (h : t ≠ headT) : total t d = tb d 0 0 := by unfold total; rw [if_neg h]
theorem total_head (d : List UInt8) : total headT d = (tb (d.take 8) 0 0 + tb (d.drop 12) 0 0) % 4294967296 := by unfold total; rw [if_pos rfl]
theorem total_12 {d : List UInt8} (h : 12 ≤ d.length) : tb (d.take 8 ++ ([0, 0, 0, 0] ++ d.drop 12)) 0 0 = total headT d := by
  rw [total_head, tb_app, tb_app, show ([0, 0, 0, 0] : List UInt8) = List.replicate 4 0 from rfl, tb_zer _ _ _ (tb_lt0 _), List.length_replicate, List.length_take, Nat.min_eq_left (by omega), tb_add _ _ _ (tb_lt0 _), tb_mod (d.drop 12) 0 (show (0 + 8 + 4) % 4 = 0 % 4 by omega)]
theorem total_8 {d : List UInt8} (h : 8 < d.length) (h2 : d.length < 12) : tb (d.take 8 ++ ([0, 0, 0, 0] : List UInt8).take (d.length - 8)) 0 0 = total headT d := by
  rw [total_head, tb_app, show ([0, 0, 0, 0] : List UInt8) = List.replicate 4 0 from rfl, List.take_replicate, tb_zer _ _ _ (tb_lt0 _), List.drop_of_length_le (by omega)]
  have := tb_lt0 (d.take 8)
  show _ = (_ + 0) % _
  omega
theorem total_0 {d : List UInt8} (h : d.length ≤ 8) : tb d 0 0 = total headT d := by
  rw [total_head, List.take_of_length_le h, List.drop_of_length_le (by omega)]
  have := tb_lt0 d
  show _ = (_ + 0) % _
  omega
theorem take_min (d : List UInt8) : d.take (min 8 d.length) = d.take 8 := by
  rcases Nat.le_total 8 d.length with h | h
  · rw [Nat.min_eq_left h]
  · rw [Nat.min_eq_right h, List.take_length, List.take_of_length_le h]
theorem drop_min (d : List UInt8) : d.drop (min 12 d.length) = d.drop 12 := by
  rcases Nat.le_total 12 d.length with h | h
  · rw [Nat.min_eq_left h]
  · rw [Nat.min_eq_right h, List.drop_length, List.drop_of_length_le h]
theorem is_head (t : ByteArray) : (t.toList == [104, 101, 97, 100]) = decide (t.data.toList = headT) := by
  rw [Lib.toList_data]
  unfold headT
  by_cases h : t.data.toList = [104, 101, 97, 100] <;> simp [h]
theorem is_head' (t : ByteArray) : (t.toList == ByteArray.toList ⟨#[104, 101, 97, 100]⟩) = decide (t.data.toList = headT) := by
  rw [Lib.toList_data ⟨#[104, 101, 97, 100]⟩]
  exact is_head t
theorem table_same (s : ByteArray) (w : World) (hs : s.data.toList.length ≤ 1000000) : Calls Try.prog 37 #[.string s] w fun e w' => e = .returned (.int .u32 (tb s.data.toList 0 0 : Int)) ∧ w' = w :=
  (table_any s w hs).mono fun _ _ h => ⟨h.1, h.2.symm⟩
theorem rtable_same (s : ByteArray) (w : World) (hs : s.data.toList.length ≤ 1000000) : Calls Try.prog 42 #[.string s] w fun e w' => e = .returned (.int .u32 (tb s.data.toList 0 0 : Int)) ∧ w' = w :=
  (rtable_any s w hs).mono fun _ _ h => ⟨h.1, h.2.symm⟩
set_option maxHeartbeats 2000000 in
theorem total_any (t d : ByteArray) (w : World) (hs : d.data.toList.length ≤ 1000000) : Calls Try.prog 19 #[.string t, .string d] w fun e w' => ∃ q, e = .returned (.int .u32 (total t.data.toList d.data.toList : Int)) ∧ w' = w.drewN q := by
  have hi := is_head t
  have hi2 := is_head' t
  by_cases h : t.data.toList = headT
  · rw [decide_eq_true h] at hi hi2
    rw [h, total_head]
    obtain ⟨n, hn⟩ : ∃ n, n = d.data.toList.length := ⟨_, rfl⟩
    have hsz : d.size = n := by rw [hn]; simp
    obtain ⟨a, ha⟩ : ∃ a, a = min 8 n := ⟨_, rfl⟩
    obtain ⟨b, hb⟩ : ∃ b, b = min 12 n := ⟨_, rfl⟩
    have e1 : min (8 : Int) (n : Int) = (a : Int) := by omega
    have e2 : min (12 : Int) (n : Int) = (b : Int) := by omega
    have r1 := fun W => to_run d a (by omega) W
    have r2 := fun W => from_run d b (by omega) W
    rw [ha, hn, take_min] at r1
    rw [hb, hn, drop_min] at r2
    rw [← hn, ← ha] at r1
    rw [← hn, ← hb] at r2
    obtain ⟨D1, hD1⟩ : ∃ D : ByteArray, D = ⟨(d.data.toList.take 8).toArray⟩ := ⟨_, rfl⟩
    obtain ⟨D2, hD2⟩ : ∃ D : ByteArray, D = ⟨(d.data.toList.drop 12).toArray⟩ := ⟨_, rfl⟩
    have l1 : D1.data.toList = d.data.toList.take 8 := by rw [hD1]
    have l2 : D2.data.toList = d.data.toList.drop 12 := by rw [hD2]
    have c1 := fun W => table_same D1 W (by rw [l1, List.length_take]; omega)
    have c2 := fun W => table_same D2 W (by rw [l2, List.length_drop]; omega)
    rw [← hD1] at r1
    rw [← hD2] at r2
    rw [l1] at c1
    rw [l2] at c2
    obtain ⟨x, hx⟩ : ∃ x, x = tb (d.data.toList.take 8) 0 0 := ⟨_, rfl⟩
    obtain ⟨y, hy⟩ : ∃ y, y = tb (d.data.toList.drop 12) 0 0 := ⟨_, rfl⟩
    rw [← hx] at c1
    rw [← hy] at c2
    rw [← hx, ← hy]
    have ew : IntKind.u32.wrap ((x : Int) + (y : Int)) = (((x + y) % 4294967296 : Nat) : Int) := by rw [IntKind.wrap_u32]; omega
    have H1 := Lib.hid c1
    have H2 := Lib.hid c2
    clear h hn ha hb hD1 hD2 l1 l2 c1 c2 hx hy hs
    go_enter Try.func19, Try.ntmps19
    go_wp2_with fail
    go_quiet (first | (go_at_call 37; with_reducible exact Calls.quiet_of_same (H1.out _)) | (go_at_call 37; with_reducible exact Calls.quiet_of_same (H2.out _)))
    all_goals
      go_wp2_with fail
      go_ret
      exact ⟨_, rfl, rfl⟩
  · rw [decide_eq_false h] at hi hi2
    rw [total_not h]
    have c1 := fun W => table_any d W hs
    obtain ⟨x, hx⟩ : ∃ x, x = tb d.data.toList 0 0 := ⟨_, rfl⟩
    rw [← hx] at c1 ⊢
    have H1 := Lib.hid c1
    clear h hs hx c1
    go_enter Try.func19, Try.ntmps19
    go_wp2_with (go_at_call 37; (with_reducible refine (H1.out _).mono ?_); rintro e w' ⟨rfl, rfl⟩)
    go_ret
    exact ⟨0, rfl, rfl⟩
end Go.Proofs.Ytlidagofjkilgaa
