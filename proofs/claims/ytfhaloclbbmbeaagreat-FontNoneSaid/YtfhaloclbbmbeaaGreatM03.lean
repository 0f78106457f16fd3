/- Proved here: what Find answers, the program's and the document's. Condition: a list of tables that lies in memory, of bytes of at most a million each · what the sum of a table, and the numbers ahead of a directory's rows, are, the program's and the document's. Condition: tables of at most 10^6 bytes; 1 up to 64 rows · what the document's sum of a table is, and the numbers ahead of a directory's rows, the program's and the document's. Condition: tables of at most 10^6 bytes; 1 up to 64 rows · what the document's numbers ahead of the rows are; whether tags rise and whether tables fit, in the program. Condition: 1 up to 64 rows; lists that lie in memory · whether tables fit, in the program. Condition: a lis. -/
import Derived.Test.YtfhaloclbbmbeaaGreatM02
namespace Go.Proofs.YtfhaloclbbmbeaaGreat
open Go.RowKit
theorem str_eq (x y : List UInt8) : ((⟨x.toArray⟩ : ByteArray).toList == (⟨y.toArray⟩ : ByteArray).toList) = (x == y) := by
  rw [Lib.toList_data, Lib.toList_data]
def findL (L : List (List UInt8 × List UInt8)) (t : List UInt8) : List UInt8 × Bool := match L.find? (fun u => u.1 == t) with
  | some u => (u.2, true)
  | none => ([], false)
theorem tg_get {L : List (List UInt8 × List UInt8)} {i : Nat} (hi : i < L.length) : L[i] = (tg L i, dt L i) := by
  unfold tg dt
  rw [List.getD_eq_getElem?_getD, List.getElem?_eq_getElem hi]
  rfl
theorem find_hit {L : List (List UInt8 × List UInt8)} {t : List UInt8} {i : Nat} (hi : i < L.length) (h : ∀ j, j < i → (tg L j == t) = false) (h2 : (tg L i == t) = true) : findL L t = (dt L i, true) := by
  have h3 : L.find? (fun u => u.1 == t) = some L[i] := by
    rw [List.find?_eq_some_iff_getElem]
    refine ⟨by rw [tg_get hi]; exact h2, i, hi, rfl, fun j hj => ?_⟩
    rw [tg_get (by omega), h j hj]
    rfl
  unfold findL
  rw [h3]
  show (L[i].2, true) = _
  rw [tg_get hi]
theorem find_none {L : List (List UInt8 × List UInt8)} {t : List UInt8} (h : ∀ j, j < L.length → (tg L j == t) = false) : findL L t = ([], false) := by
  have h3 : L.find? (fun u => u.1 == t) = none := by
    rw [List.find?_eq_none]
    intro u hu
    obtain ⟨j, hj, rfl⟩ := List.getElem_of_mem hu
    rw [tg_get hj, h j hj]
    simp
  unfold findL
  rw [h3]
set_option maxHeartbeats 2000000 in
theorem find_any (A : Option Addr) (m c : Nat) (L : List (List UInt8 × List UInt8)) (t : List UInt8) (w : World) (h : Tl w A m L) (hm : m ≤ 1000000) (hd : ∀ i, i < m → (dt L i).length ≤ 1000000) :
    Calls Tryz.prog 145 #[.slice A m c, .string ⟨t.toArray⟩] w fun e w' => e = .returned (.tuple #[.string ⟨(findL L t).1.toArray⟩, .bool (findL L t).2]) ∧ Below w.heap.size w w' := by
  have HX := Lib.hid h
  have HD := Lib.hid hd
  obtain ⟨T, hT⟩ : ∃ T : ByteArray, T = ⟨t.toArray⟩ := ⟨_, rfl⟩
  have HQ := Lib.hid (fun x : List UInt8 => show ((⟨x.toArray⟩ : ByteArray).toList == T.toList) = (x == t) by rw [hT]; exact str_eq x t)
  rw [← hT]
  clear h hd hT
  go_enter Tryz.func145, Tryz.ntmps145
  go_wp2_with fail
  go_loopw [10] (fun i wr => ∃ k : Nat, i = .int .i64 (k : Int) ∧ k ≤ m ∧ (∀ j, j < k → (tg L j == t) = false) ∧ Below w.heap.size w wr) (fun i _ => m - (intOf i).toNat)
  case atStart => exact ⟨0, rfl, Nat.zero_le _, fun j hj => by omega, Below.refl _ _⟩
  case round =>
    obtain ⟨k, rfl, hk, hno, hb⟩ := hrel
    have HB := Lib.hid hb
    have HN := Lib.hid hno
    clear hb hno
    by_cases hgo : k < m
    · obtain ⟨ad, rfl, c0, c1⟩ := HX.out.at_ HB.out hgo
      have hq := HQ.out (tg L k)
      have hlen := HD.out k hgo
      obtain ⟨X, hX⟩ : ∃ X : ByteArray, X = ⟨(tg L k).toArray⟩ := ⟨_, rfl⟩
      obtain ⟨D, hDD⟩ : ∃ D : ByteArray, D = ⟨(dt L k).toArray⟩ := ⟨_, rfl⟩
      rw [← hX] at c0 hq
      rw [← hDD] at c1
      have hDs : D.size ≤ 1000000000 := by rw [hDD]; show (dt L k).toArray.size ≤ _; rw [List.size_toArray]; omega
      have HC := Lib.hid (fun W => clone_any D W hDs)
      have hBA := Lib.hid (HB.out.alloc HB.out.size (.cells #[.string X, .string D] 34))
      cases he : (tg L k == t)
      · rw [he] at hq
        have HN2 := Lib.hid (show ∀ j, j < k + 1 → (tg L j == t) = false from fun j hj => by
          rcases Nat.lt_or_ge j k with h | h
          · exact HN.out j h
          · rw [show j = k by omega]; exact he)
        clear he hX hDD hDs hlen
        go_wp2_with fail
        exact ⟨⟨k + 1, by simp, by omega, HN2.out, hBA.out⟩, by simp [intOf]; omega⟩
      · rw [he] at hq
        have HF := Lib.hid (find_hit (by rw [HX.out.len]; exact hgo) HN.out he)
        have HE := Lib.hid hDD
        clear he hX hDD hDs hlen
        go_wp2_with (go_at_call 201; (with_reducible refine (HC.out _).mono ?_); rintro e w' ⟨rfl, hb⟩; have B := Lib.hid (hBA.out.trans (hb.mono hBA.out.size)); clear hb)
        go_ret2
        exact ⟨(by rw [HF.out, HE.out] <;> rfl), B.out⟩
    · have HF := Lib.hid (find_none (L := L) (t := t) fun j hj => HN.out j (by have := HX.out.len; omega))
      have hkm : k = m := by omega
      subst hkm
      go_wp2_with fail
      go_ret2
      exact ⟨(by rw [HF.out] <;> rfl), HB.out⟩
end Go.Proofs.YtfhaloclbbmbeaaGreat
namespace Go.Proofs.YtfhaloclbbmbeaaGreat
open Go.RowKit
theorem size_list (s : ByteArray) : s.data.toList.length = s.size := by simp
theorem to_run (s : ByteArray) (b : Nat) (h : b ≤ s.size) (W : World) : (Instr.slice 9 (.string s) none (some (.int .i64 (b : Int))) none).run Tryz.prog W = .ok (.string ⟨(s.data.toList.take b).toArray⟩) W := by
  have hex : s.extract 0 (b : Int).toNat = ⟨(s.data.toList.take b).toArray⟩ := by
    apply ByteArray.ext
    apply Array.toList_inj.1
    have e1 : (s.extract 0 (b : Int).toNat).data.toList = s.data.toList.take b := by
      simp [List.extract]
    rw [e1]
  rw [run_slice_string_to_if W 9 s .i64 (b : Int) (by kernel_rfl), if_pos (by omega), hex]
theorem from_run (s : ByteArray) (a : Nat) (h : a ≤ s.size) (W : World) : (Instr.slice 9 (.string s) (some (.int .i64 (a : Int))) none none).run Tryz.prog W = .ok (.string ⟨(s.data.toList.drop a).toArray⟩) W := by
  have hex : s.extract (a : Int).toNat s.size = ⟨(s.data.toList.drop a).toArray⟩ := by
    apply ByteArray.ext
    apply Array.toList_inj.1
    have e1 : (s.extract (a : Int).toNat s.size).data.toList = (s.data.toList.drop a).take (s.size - a) := by
      simp [List.extract]
    rw [e1, List.take_of_length_le]
    rw [List.length_drop, size_list]
    omega
  rw [run_slice_string_from_if W 9 s .i64 (a : Int) (by kernel_rfl), if_pos (by omega), hex]
theorem total_not {t d : List UInt8} (h : t ≠ headT) : total t d = tb d 0 0 := by unfold total; rw [if_neg h]
theorem total_head (d : List UInt8) : total headT d = (tb (d.take 8) 0 0 + tb (d.drop 12) 0 0) % 4294967296 := by unfold total; rw [if_pos rfl]
theorem take_min (d : List UInt8) : d.take (min 8 d.length) = d.take 8 := by
  rcases Nat.le_total 8 d.length with h | h
  · rw [Nat.min_eq_left h]
  · rw [Nat.min_eq_right h, List.take_length, List.take_of_length_le h]
theorem drop_min (d : List UInt8) : d.drop (min 12 d.length) = d.drop 12 := by
  rcases Nat.le_total 12 d.length with h | h
  · rw [Nat.min_eq_left h]
  · rw [Nat.min_eq_right h, List.drop_length, List.drop_of_length_le h]
theorem is_head (t : ByteArray) : (t.toList == [104, 101, 97, 100]) = decide (t.data.toList = headT) := by
  rw [Lib.toList_data]
  unfold headT
  by_cases h : t.data.toList = [104, 101, 97, 100] <;> simp [h]
theorem is_head' (t : ByteArray) : (t.toList == ByteArray.toList ⟨#[104, 101, 97, 100]⟩) = decide (t.data.toList = headT) := by
  rw [Lib.toList_data ⟨#[104, 101, 97, 100]⟩]
  exact is_head t
theorem table_same (s : ByteArray) (w : World) (hs : s.data.toList.length ≤ 1000000) : Calls Tryz.prog 183 #[.string s] w fun e w' => e = .returned (.int .u32 (tb s.data.toList 0 0 : Int)) ∧ w' = w :=
  (table_any s w hs).mono fun _ _ h => ⟨h.1, h.2.symm⟩
set_option maxHeartbeats 2000000 in
theorem total_any (t d : ByteArray) (w : World) (hs : d.data.toList.length ≤ 1000000) : Calls Tryz.prog 111 #[.string t, .string d] w fun e w' => ∃ q, e = .returned (.int .u32 (total t.data.toList d.data.toList : Int)) ∧ w' = w.drewN q := by
  have hi := is_head t
  have hi2 := is_head' t
  by_cases h : t.data.toList = headT
  · rw [decide_eq_true h] at hi hi2
    rw [h, total_head]
    obtain ⟨n, hn⟩ : ∃ n, n = d.data.toList.length := ⟨_, rfl⟩
    have hsz : d.size = n := by rw [hn]; simp
    obtain ⟨a, ha⟩ : ∃ a, a = min 8 n := ⟨_, rfl⟩
    obtain ⟨b, hb⟩ : ∃ b, b = min 12 n := ⟨_, rfl⟩
    have e1 : min (8 : Int) (n : Int) = (a : Int) := by omega
    have e2 : min (12 : Int) (n : Int) = (b : Int) := by omega
    have r1 := fun W => to_run d a (by omega) W
    have r2 := fun W => from_run d b (by omega) W
    rw [ha, hn, take_min] at r1
    rw [hb, hn, drop_min] at r2
    rw [← hn, ← ha] at r1
    rw [← hn, ← hb] at r2
    obtain ⟨D1, hD1⟩ : ∃ D : ByteArray, D = ⟨(d.data.toList.take 8).toArray⟩ := ⟨_, rfl⟩
    obtain ⟨D2, hD2⟩ : ∃ D : ByteArray, D = ⟨(d.data.toList.drop 12).toArray⟩ := ⟨_, rfl⟩
    have l1 : D1.data.toList = d.data.toList.take 8 := by rw [hD1]
    have l2 : D2.data.toList = d.data.toList.drop 12 := by rw [hD2]
    have c1 := fun W => table_same D1 W (by rw [l1, List.length_take]; omega)
    have c2 := fun W => table_same D2 W (by rw [l2, List.length_drop]; omega)
    rw [← hD1] at r1
    rw [← hD2] at r2
    rw [l1] at c1
    rw [l2] at c2
    obtain ⟨x, hx⟩ : ∃ x, x = tb (d.data.toList.take 8) 0 0 := ⟨_, rfl⟩
    obtain ⟨y, hy⟩ : ∃ y, y = tb (d.data.toList.drop 12) 0 0 := ⟨_, rfl⟩
    rw [← hx] at c1
    rw [← hy] at c2
    rw [← hx, ← hy]
    have ew : IntKind.u32.wrap ((x : Int) + (y : Int)) = (((x + y) % 4294967296 : Nat) : Int) := by rw [IntKind.wrap_u32]; omega
    have H1 := Lib.hid c1
    have H2 := Lib.hid c2
    clear h hn ha hb hD1 hD2 l1 l2 c1 c2 hx hy hs
    go_enter Tryz.func111, Tryz.ntmps111
    go_wp2_with fail
    go_quiet (first | (go_at_call 183; with_reducible exact Calls.quiet_of_same (H1.out _)) | (go_at_call 183; with_reducible exact Calls.quiet_of_same (H2.out _)))
    all_goals
      go_wp2_with fail
      go_ret
      exact ⟨_, rfl, rfl⟩
  · rw [decide_eq_false h] at hi hi2
    rw [total_not h]
    have c1 := fun W => table_any d W hs
    obtain ⟨x, hx⟩ : ∃ x, x = tb d.data.toList 0 0 := ⟨_, rfl⟩
    rw [← hx] at c1 ⊢
    have H1 := Lib.hid c1
    clear h hs hx c1
    go_enter Tryz.func111, Tryz.ntmps111
    go_wp2_with (go_at_call 183; (with_reducible refine (H1.out _).mono ?_); rintro e w' ⟨rfl, rfl⟩)
    go_ret
    exact ⟨0, rfl, rfl⟩
end Go.Proofs.YtfhaloclbbmbeaaGreat
namespace Go.Proofs.YtfhaloclbbmbeaaGreat
open Go.RowKit
theorem bits_log : ∀ n, n < 65 → 0 < n → Lib.bitLen n = pw n + 1 ∧ pw n ≤ 6 ∧ 2 ^ pw n ≤ n ∧ n < 2 ^ (pw n + 1) := by decide
theorem app_four (a b c d : List UInt8) : ((⟨a.toArray⟩ : ByteArray) ++ ⟨b.toArray⟩ ++ ⟨c.toArray⟩ ++ ⟨d.toArray⟩) = ⟨(a ++ b ++ c ++ d).toArray⟩ := by rw [app_txt, app_txt, app_txt]
set_option maxHeartbeats 2000000 in
theorem numbers_any (n : Nat) (w : World) (h0 : 0 < n) (h : n ≤ 64) : Calls Tryz.prog 110 #[.int .i64 (n : Int)] w fun e w' => e = .returned (.string ⟨(nums n).toArray⟩) ∧ Below w.heap.size w w' := by
  obtain ⟨hbl, hp6, hp1, hp2⟩ := bits_log n (by omega) h0
  unfold nums
  obtain ⟨p, hp⟩ : ∃ p, p = pw n := ⟨_, rfl⟩
  rw [← hp] at hbl hp6 hp1 hp2 ⊢
  have hlen := fun W => Tryz.bits_Len (n : Int) W (by omega) (by omega)
  rw [Int.toNat_natCast, hbl] at hlen
  obtain ⟨m, hm⟩ : ∃ m, m = 2 ^ p := ⟨_, rfl⟩
  have hsh : p = 0 ∧ m = 1 ∨ p = 1 ∧ m = 2 ∨ p = 2 ∧ m = 4 ∨ p = 3 ∧ m = 8 ∨ p = 4 ∧ m = 16 ∨ p = 5 ∧ m = 32 ∨ p = 6 ∧ m = 64 := by
    rcases (by omega : p = 0 ∨ p = 1 ∨ p = 2 ∨ p = 3 ∨ p = 4 ∨ p = 5 ∨ p = 6) with h | h | h | h | h | h | h <;> subst h <;> simp at hm <;> omega
  rw [← hm] at hp1 ⊢
  obtain ⟨r, hr⟩ : ∃ r, r = 16 * n - 16 * m := ⟨_, rfl⟩
  have c1 := fun W => p16_any n W (by omega)
  have c2 := fun (z : Int) (hz : z = ((16 * m : Nat) : Int)) W => hz ▸ p16_any (16 * m) W (by omega)
  have c3 := fun (z : Int) (hz : z = (p : Int)) W => hz ▸ p16_any p W (by omega)
  have c4 := fun (z : Int) (hz : z = (r : Int)) W => hz ▸ p16_any r W (by omega)
  rw [← hr]
  obtain ⟨X1, h1⟩ : ∃ X : ByteArray, X = ⟨(byt 2 n).toArray⟩ := ⟨_, rfl⟩
  obtain ⟨X2, h2⟩ : ∃ X : ByteArray, X = ⟨(byt 2 (16 * m)).toArray⟩ := ⟨_, rfl⟩
  obtain ⟨X3, h3⟩ : ∃ X : ByteArray, X = ⟨(byt 2 p).toArray⟩ := ⟨_, rfl⟩
  obtain ⟨X4, h4⟩ : ∃ X : ByteArray, X = ⟨(byt 2 r).toArray⟩ := ⟨_, rfl⟩
  have z1 : X1.size = 2 := by rw [h1]; exact byt_len 2 _
  have z2 : X2.size = 2 := by rw [h2]; exact byt_len 2 _
  have z3 : X3.size = 2 := by rw [h3]; exact byt_len 2 _
  have z4 : X4.size = 2 := by rw [h4]; exact byt_len 2 _
  have l1 : ¬ 9223372036854775807 < X1.size + X2.size := by omega
  have l2 : ¬ 9223372036854775807 < X1.size + X2.size + X3.size := by omega
  have l3 : ¬ 9223372036854775807 < X1.size + X2.size + X3.size + X4.size := by omega
  have hfin : X1 ++ X2 ++ X3 ++ X4 = ⟨(byt 2 n ++ byt 2 (16 * m) ++ byt 2 p ++ byt 2 r).toArray⟩ := by rw [h1, h2, h3, h4, app_four]
  rw [← h1] at c1
  rw [← h2] at c2
  rw [← h3] at c3
  rw [← h4] at c4
  rw [← hfin]
  have P1 := Lib.hid c1
  have P2 := Lib.hid c2
  have P3 := Lib.hid c3
  have P4 := Lib.hid c4
  have w0 : IntKind.u64.wrap (n : Int) = (n : Int) := by rw [IntKind.wrap_u64]; omega
  have w1 : IntKind.u16.wrap (n : Int) = (n : Int) := wrap_u16n n (by omega)
  have w5 : IntKind.u16.wrap (r : Int) = (r : Int) := wrap_u16n r (by omega)
  have B0 := Lib.hid (Below.refl w.heap.size w)
  have e4 : IntKind.i64.wrap ((n : Int) * 16) = (n : Int) * 16 := i64_in _ (by omega)
  have E5 := Lib.hid (show ∀ q : Int, q = ((16 * m : Nat) : Int) → IntKind.u16.wrap (wrap64 ((n : Int) * 16 - q)) = (r : Int) from fun q hq => by
    have e6 : wrap64 ((n : Int) * 16 - q) = (r : Int) := by unfold wrap64; omega
    rw [e6]; exact w5)
  have HL := Lib.hid hlen
  clear hlen hbl hp6 hp2 hp hm h1 h2 h3 h4 c1 c2 c3 c4 z1 z2 z3 z4 hfin hr hp1 h0 h
  rcases hsh with ⟨rfl, rfl⟩ | ⟨rfl, rfl⟩ | ⟨rfl, rfl⟩ | ⟨rfl, rfl⟩ | ⟨rfl, rfl⟩ | ⟨rfl, rfl⟩ | ⟨rfl, rfl⟩
  all_goals
    go_enter Tryz.func110, Tryz.ntmps110
    go_wp2_with (first
      | (go_at_call 181; (with_reducible refine (HL.out _).mono ?_); rintro e w' ⟨rfl, rfl⟩)
      | (go_at_call 102; (with_reducible refine (P1.out _).mono ?_); rintro e w1 ⟨rfl, hb⟩; have B1 := Lib.hid (B0.out.trans (hb.mono B0.out.size)); clear hb)
      | (go_at_call 102; (with_reducible refine (P4.out _ (E5.out _ (by omega)) _).mono ?_); rintro e w4 ⟨rfl, hb⟩; have B4 := Lib.hid (B3.out.trans (hb.mono B3.out.size)); clear hb)
      | (go_at_call 102; (with_reducible refine (P2.out _ (by omega) _).mono ?_); rintro e w2 ⟨rfl, hb⟩; have B2 := Lib.hid (B1.out.trans (hb.mono B1.out.size)); clear hb)
      | (go_at_call 102; (with_reducible refine (P3.out _ (by omega) _).mono ?_); rintro e w3 ⟨rfl, hb⟩; have B3 := Lib.hid (B2.out.trans (hb.mono B2.out.size)); clear hb))
    go_ret
    exact ⟨rfl, B4.out⟩
end Go.Proofs.YtfhaloclbbmbeaaGreat
namespace Go.Proofs.YtfhaloclbbmbeaaGreat
open Go.RowKit
theorem risU_false {L : List (List UInt8 × List UInt8)} {k m : Nat} (h : risK L k = false) (hk : k < m) : risU L m = false := by
  cases hu : risU L m
  · rfl
  · unfold risU at hu
    rw [List.all_eq_true] at hu
    rw [hu k (List.mem_range.2 hk)] at h
    cases h
theorem leq_eq (x y : List UInt8) : (Op.bytesLess (⟨x.toArray⟩ : ByteArray).toList (⟨y.toArray⟩ : ByteArray).toList || ((⟨x.toArray⟩ : ByteArray).toList == (⟨y.toArray⟩ : ByteArray).toList)) = bLe x y := by
  rw [Lib.toList_data, Lib.toList_data]
  rfl
set_option maxHeartbeats 4000000 in
theorem rising_any (A : Option Addr) (m c : Nat) (L : List (List UInt8 × List UInt8)) (w : World) (h : Tl w A m L) (hm : m ≤ 1000000) (ht : ∀ i, i < m → (tg L i).length ≤ 1000000) :
    Calls Tryz.prog 108 #[.slice A m c] w fun e w' => e = .returned (.bool (risU L m)) ∧ Below w.heap.size w w' := by
  have HX := Lib.hid h
  have HT := Lib.hid ht
  clear h ht
  go_enter Tryz.func108, Tryz.ntmps108
  go_wp2_with fail
  go_loopw [7] (fun i wr => ∃ k : Nat, i = .int .i64 (k : Int) ∧ k ≤ m ∧ risU L k = true ∧ Below w.heap.size w wr) (fun i _ => m - (intOf i).toNat)
  case atStart => exact ⟨0, rfl, Nat.zero_le _, rfl, Below.refl _ _⟩
  case round =>
    obtain ⟨k, rfl, hk, hu, hb⟩ := hrel
    have HB := Lib.hid hb
    have HU := Lib.hid hu
    clear hb hu
    by_cases hgo : k < m
    · obtain ⟨ad, rfl, c0, c1⟩ := HX.out.at_ HB.out hgo
      have hlen := HT.out k hgo
      obtain ⟨X, hX⟩ : ∃ X : ByteArray, X = ⟨(tg L k).toArray⟩ := ⟨_, rfl⟩
      obtain ⟨D, hDD⟩ : ∃ D : ByteArray, D = ⟨(dt L k).toArray⟩ := ⟨_, rfl⟩
      have hl : X.data.toList = tg L k := by rw [hX]
      have hm1 := fun W => (may_any X W (by rw [hl]; omega)).mono fun _ _ h => And.intro h.1 h.2.symm
      rw [hl] at hm1
      rw [← hX] at c0
      rw [← hDD] at c1
      have hBA := Lib.hid (HB.out.alloc HB.out.size (.cells #[.string X, .string D] 34))
      cases hr : tagOK (tg L k)
      · rw [hr] at hm1
        have HF := Lib.hid (show risU L m = false from risU_false (by unfold risK; rw [hr]; rfl) hgo)
        have HM := Lib.hid hm1
        clear hr hX hDD hl hm1 hlen
        go_wp2_with fail
        go_quiet ((go_at_call 136; with_reducible exact Calls.quiet_of_same (HM.out _)))
        all_goals
          go_wp2_with fail
          go_ret
          exact ⟨by rw [HF.out]; rfl, below_drewN hBA.out _⟩
      · rw [hr] at hm1
        have HM := Lib.hid hm1
        by_cases hk0 : k = 0
        · have HS := Lib.hid (show risU L (k + 1) = true by rw [risU_succ, HU.out, hk0]; unfold risK; rw [← hk0, hr, hk0]; rfl)
          have d0 : ¬ 0 < k := by omega
          clear hr hX hDD hl hm1 hlen hk0
          go_wp2_with fail
          go_quiet ((go_at_call 136; with_reducible exact Calls.quiet_of_same (HM.out _)))
          all_goals
            go_wp2_with fail
            exact ⟨⟨k + 1, by simp, by omega, HS.out, below_drewN hBA.out _⟩, by simp [intOf]; omega⟩
        · obtain ⟨j, hj⟩ : ∃ j, j = k - 1 := ⟨_, rfl⟩
          have hr2 : risK L k = !bLe (tg L k) (tg L j) := by unfold risK; rw [hr, hj, decide_eq_true (show 0 < k by omega)]; simp
          obtain ⟨ad2, had2, b0, b1⟩ := HX.out.at_ hBA.out (i := j) (by omega)
          obtain ⟨rfl⟩ := had2
          have hle := leq_eq (tg L k) (tg L j)
          obtain ⟨Y, hY⟩ : ∃ Y : ByteArray, Y = ⟨(tg L j).toArray⟩ := ⟨_, rfl⟩
          rw [← hY] at b0 hle
          rw [← hX] at hle
          have d0 : 0 < k := by omega
          have e1 : (k : Int) - 1 = (j : Int) := by omega
          have e2 : IntKind.i64.wrap (j : Int) = (j : Int) := i64_in _ (by omega)
          have hjm : j < m := by omega
          cases hbl : bLe (tg L k) (tg L j)
          · rw [hbl] at hle hr2
            have HS := Lib.hid (show risU L (k + 1) = true by rw [risU_succ, HU.out, hr2]; rfl)
            clear hr hX hDD hl hm1 hr2 hY hbl hlen hj hk0
            go_wp2_with fail
            go_quiet ((go_at_call 136; with_reducible exact Calls.quiet_of_same (HM.out _)))
            all_goals
              go_wp2_with fail
              exact ⟨⟨k + 1, by simp, by omega, HS.out, below_drewN hBA.out _⟩, by simp [intOf]; omega⟩
          · rw [hbl] at hle hr2
            have HF := Lib.hid (show risU L m = false from risU_false (by rw [hr2]; rfl) hgo)
            clear hr hX hDD hl hm1 hr2 hY hbl hlen hj hk0
            go_wp2_with fail
            go_quiet ((go_at_call 136; with_reducible exact Calls.quiet_of_same (HM.out _)))
            all_goals
              go_wp2_with fail
              go_ret
              exact ⟨by rw [HF.out]; rfl, below_drewN hBA.out _⟩
    · have hkm : k = m := by omega
      subst hkm
      go_wp2_with fail
      go_ret
      exact ⟨by rw [HU.out]; rfl, HB.out⟩
end Go.Proofs.YtfhaloclbbmbeaaGreat
namespace Go.Proofs.YtfhaloclbbmbeaaGreat
open Go.RowKit
def fitsL (L : List (List UInt8 × List UInt8)) : Bool := decide (L.length ≤ 64) && decide (szF L ≤ 1048576)
set_option maxHeartbeats 4000000 in
theorem fits_any (A : Option Addr) (m c : Nat) (L : List (List UInt8 × List UInt8)) (w : World) (h : Tl w A m L) (hm : m ≤ 1000000) (hd : ∀ i, i < m → (dt L i).length ≤ 1000000000) :
    Calls Tryz.prog 109 #[.slice A m c] w fun e w' => e = .returned (.bool (fitsL L)) ∧ Below w.heap.size w w' := by
  have HX := Lib.hid h
  have HD := Lib.hid hd
  have hlen := h.len
  clear h hd
  by_cases h64 : m ≤ 64
  · have g1 : decide (64 < (m : Int)) = false := decide_eq_false (by omega)
    have HF := Lib.hid (show fitsL L = decide (szF L ≤ 1048576) by unfold fitsL; rw [decide_eq_true (by omega), Bool.true_and])
    have HS := Lib.hid (show szF L = 12 + 16 * m + (body (L.take m)).length by unfold szF; rw [hlen, ← hlen, List.take_length])
    have HL := Lib.hid hlen
    have H6 := Lib.hid h64
    clear hlen h64
    go_enter Tryz.func109, Tryz.ntmps109
    go_wp2_with fail
    go_loopw [3, 15] (fun v i wr => ∃ k q : Nat, i = .int .i64 (k : Int) ∧ k ≤ m ∧ v = .int .i64 (q : Int) ∧ q + 16 * m + (body (L.take k)).length = 1048564 ∧ Below w.heap.size w wr) (fun _ i _ => m - (intOf i).toNat)
    case atStart => exact ⟨0, 1048564 - 16 * m, rfl, Nat.zero_le _, by congr 1; have := H6.out; omega, by have := H6.out; show _ + _ + 0 = _; omega, Below.refl _ _⟩
    case round =>
      obtain ⟨k, q, rfl, hk, rfl, hq, hb⟩ := hrel
      have HB := Lib.hid hb
      clear hb
      by_cases hgo : k < m
      · obtain ⟨ad, rfl, c0, c1⟩ := HX.out.at_ HB.out hgo
        have hn := HD.out k hgo
        have hnx := body_next (L := L) (i := k) (by have := HL.out; omega)
        have hble := body_le (L := L) (i := k) (by have := HL.out; omega)
        have hb4 := body_four (L.take k)
        have hup := blk_up (dt L k)
        have hbl := blk_len (dt L k)
        obtain ⟨X, hX⟩ : ∃ X : ByteArray, X = ⟨(tg L k).toArray⟩ := ⟨_, rfl⟩
        obtain ⟨D, hDD⟩ : ∃ D : ByteArray, D = ⟨(dt L k).toArray⟩ := ⟨_, rfl⟩
        have hl : D.data.toList = dt L k := by rw [hDD]
        have hz : D.size = (dt L k).length := by rw [hDD]; exact List.size_toArray
        have hp := fun W => (pad_any D W (by rw [hl]; exact hn)).mono fun _ _ h => And.intro h.1 h.2.symm
        rw [hl] at hp
        have hn1 := congrArg List.length hnx
        rw [List.length_append] at hn1
        have hsz := HS.out
        unfold szF at hsz
        rw [HL.out] at hsz
        obtain ⟨n, hnn⟩ : ∃ n, n = (dt L k).length := ⟨_, rfl⟩
        rw [← hnn] at hz hp hup hbl hn hble
        rw [← hX] at c0
        rw [← hDD] at c1
        have hBA := Lib.hid (HB.out.alloc HB.out.size (.cells #[.string X, .string D] 34))
        obtain ⟨p, hpp⟩ : ∃ p, p = padn n := ⟨_, rfl⟩
        rw [← hpp] at hp hbl
        have hp3 : p < 4 := by rw [hpp]; unfold padn; omega
        have HP := Lib.hid hp
        rcases Nat.lt_or_ge q n with hbig | hbig
        · have HG := Lib.hid (show fitsL L = false by
            rw [HF.out, decide_eq_false]
            unfold szF
            rw [HL.out]
            omega)
          have g2 : q < n := hbig
          clear hnx hble hb4 hup hbl hX hDD hl hp hn1 hsz hnn hq hpp
          go_wp2_with fail
          go_ret
          exact ⟨by rw [HG.out]; rfl, hBA.out⟩
        · have g2 : ¬ q < n := by omega
          obtain ⟨q2, hq2⟩ : ∃ q2, q2 = q - (n + p) := ⟨_, rfl⟩
          have hqp : n + p ≤ q := by omega
          have e1 : IntKind.i64.wrap ((n : Int) + (p : Int)) = (n : Int) + (p : Int) := i64_in _ (by omega)
          have e2 : IntKind.i64.wrap ((q : Int) - ((n : Int) + (p : Int))) = (q2 : Int) := by rw [i64_in _ (by omega)]; omega
          have HN := Lib.hid (show q2 + 16 * m + (body (L.take (k + 1))).length = 1048564 by omega)
          clear hnx hble hb4 hup hbl hX hDD hl hp hn1 hsz hnn hq hpp hqp hq2 hbig
          go_wp2_with fail
          go_quiet ((go_at_call 112; with_reducible exact Calls.quiet_of_same (HP.out _)))
          all_goals
            go_wp2_with fail
            exact ⟨⟨k + 1, q2, by simp, by omega, rfl, HN.out, below_drewN hBA.out _⟩, by simp [intOf]; omega⟩
      · have hkm : k = m := by omega
        have HG := Lib.hid (show fitsL L = true by
          rw [HF.out, decide_eq_true]
          have := HS.out
          rw [hkm] at hq
          omega)
        clear hq
        subst hkm
        go_wp2_with fail
        go_ret
        exact ⟨by rw [HG.out]; rfl, HB.out⟩
  · have g1 : decide (64 < (m : Int)) = true := decide_eq_true (by omega)
    have HF := Lib.hid (show fitsL L = false by unfold fitsL; rw [decide_eq_false (by omega), Bool.false_and])
    clear hlen h64
    go_enter Tryz.func109, Tryz.ntmps109
    go_wp2_with fail
    go_ret
    exact ⟨by rw [HF.out]; rfl, Below.refl _ _⟩
end Go.Proofs.YtfhaloclbbmbeaaGreat
