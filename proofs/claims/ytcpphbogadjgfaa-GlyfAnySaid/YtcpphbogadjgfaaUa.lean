/- Proved here: what the document's flags answers. Condition: a reader of a text of at most a billion bytes; at most 100000 points. -/
import Derived.Test.YtcpphbogadjgfaaTc
namespace Go.Proofs.Ytcpphbogadjgfaa
open Go.RowKit

theorem bit_parts (f : Nat) (hf : f < 256) : ∃ q : Nat, (q : Int) = (f : Int) / 8 ∧ q < 256 ∧ IntKind.u32.wrap ((f : Int).tdiv 8) = (q : Int) ∧ IntKind.u32.wrap (q : Int) = (q : Int) ∧ (f / 8 % 2 = 1 → ((q : Int) % 2 == 1) = true ∧ (q : Int).tmod 2 = 1) ∧ (¬ f / 8 % 2 = 1 → ((q : Int) % 2 == 1) = false ∧ (q : Int).tmod 2 = 0) := by
  have h1 : (((f / 8 : Nat) : Int)).tmod 2 = ((f / 8 % 2 : Nat) : Int) := by rw [Int.tmod_eq_emod_of_nonneg (by omega)]; omega
  refine ⟨f / 8, by omega, by omega, ?_, by rw [IntKind.wrap_u32]; omega, fun h => ?_, fun h => ?_⟩
  · rw [Int.tdiv_eq_ediv_of_nonneg (by omega), IntKind.wrap_u32]; omega
  · rw [h1, h]; exact ⟨by simp; omega, rfl⟩
  · rw [h1, show f / 8 % 2 = 0 by omega]; exact ⟨by simp; omega, rfl⟩
set_option maxHeartbeats 8000000 in
set_option maxRecDepth 100000 in
theorem rflags_any (g n : Nat) (s : ByteArray) (a0 : Nat) (w : World) (h : Rd 58 w g s a0 false) (hs : s.size ≤ 1000000000) (ha : a0 ≤ s.size) (hn : n ≤ 100000) :
    Calls Try.prog 31 #[.pointer (some ⟨g, 0, none⟩), .int .i64 (n : Int)] w (FgP 58 .u32 (flgs s.data.toList n [] a0) g s w) := by
  have S := Lib.hid (RwS.start (e := 46) (K := .u32) h ha)
  have HS := Lib.hid hs
  obtain ⟨R, hR⟩ : ∃ R, R = flgs s.data.toList n [] a0 := ⟨_, rfl⟩
  rw [← hR]
  have HR0 := Lib.hid hR.symm
  have HE := Lib.hid (show ∀ x r w', R = (x, r) → x ≠ 0 → Onl g w w' → FgP 58 .u32 R g s w (.returned (.tuple #[.slice none 0 0, .int .i64 x])) w' from fun x r w' h1 h2 h3 => fgP_err h1 h2 h3)
  have HF := Lib.hid (show ∀ acc a A c w', R = (0, acc, a) → RwS 58 46 .u32 w w' g s a false (.slice A acc.length c) acc → FgP 58 .u32 R g s w (.returned (.tuple #[.slice A acc.length c, .int .i64 0])) w' from fun acc a A c w' h1 h2 => by
    subst h1
    exact ⟨h2.r.onl, A, _, c, rfl, fun _ => ⟨⟨own_il h2.row rfl, own_nb h2.row h2.r.lg⟩, h2.r.rd, h2.r.le⟩⟩)
  obtain ⟨i46, h46a, h46b, h46c, h46d⟩ := info_parts Try.info46
  have H46 := Lib.hid (And.intro h46a (And.intro h46b (And.intro h46c h46d)))
  have HN := Lib.hid hn
  clear h hs ha hR h46a h46b h46c h46d
  go_enter Try.func31, Try.ntmps31
  go_wp2_with fail
  go_loopw [6] (fun v wr => ∃ (acc : List Int) (a : Nat) (A : Option Addr) (c : Nat), v = .slice A acc.length c ∧ acc.length ≤ n ∧ flgs s.data.toList n acc a = R ∧ RwS 58 46 .u32 w wr g s a false (.slice A acc.length c) acc) (fun v _ => n - lenV v)
  case atStart => exact ⟨[], a0, none, 0, rfl, Nat.zero_le _, HR0.out, S.out⟩
  case round =>
    obtain ⟨acc, a, A, c, rfl, hk, hR, hS⟩ := hrel
    have hle := hS.r.le
    have HS1 := Lib.hid hS
    by_cases hgo : acc.length < n
    · by_cases c2 : s.size < a + 1
      · have CU := Lib.hid (num1_out g s a wr hS.r.rd HS.out hle c2)
        have HX := Lib.hid (fun w' ho => HE.out 3 _ w' (hR.symm.trans (flgs_none hgo (by rw [size_list]; exact c2))) (by decide) ho)
        obtain ⟨k, hk2⟩ : ∃ k, k = acc.length := ⟨_, rfl⟩
        rw [← hk2] at hgo ⊢
        clear hS hR hle c2 hk2 hk
        go_wp2_with (go_at_call 30; (with_reducible refine CU.out.mono ?_); rintro e w2 ⟨rfl, hr, ho⟩; have H2 := Lib.hid (HS1.out.read hr ho HS1.out.r.le); obtain ⟨_, _, b2, _, _⟩ := hr.facts; clear hr ho)
        go_ret2
        exact HX.out _ H2.out.r.onl
      · have c2' : ¬ s.data.toList.length < a + 1 := by rw [size_list]; exact c2
        have CU := Lib.hid (num1_in g s a wr hS.r.rd HS.out (by omega))
        have hf := bat_lt s.data.toList a
        have HA1 := Lib.hid (show a + 1 ≤ s.size by omega)
        by_cases c3 : 128 ≤ bat s.data.toList a
        · have HX := Lib.hid (fun w' ho => HE.out 4 _ w' (hR.symm.trans (flgs_high hgo c2' c3)) (by decide) ho)
          obtain ⟨f, hff⟩ : ∃ f, f = bat s.data.toList a := ⟨_, rfl⟩
          rw [← hff] at CU c3
          obtain ⟨k, hk2⟩ : ∃ k, k = acc.length := ⟨_, rfl⟩
          rw [← hk2] at hgo ⊢
          clear hS hR hle c2 c2' hf hff hk2 hk
          go_wp2_with (go_at_call 30; (with_reducible refine CU.out.mono ?_); rintro e w2 ⟨rfl, hr, ho⟩; have H2 := Lib.hid (HS1.out.read hr ho HA1.out); obtain ⟨_, _, b2, _, _⟩ := hr.facts; clear hr ho)
          go_ret2
          exact HX.out _ H2.out.r.onl
        · have hd3 : decide (128 ≤ ((bat s.data.toList a : Nat) : Int)) = false := decide_eq_false (by omega)
          obtain ⟨q, hq1, hq2, hq3, hq4, hq5, hq6⟩ := bit_parts (bat s.data.toList a) hf
          by_cases c4 : bat s.data.toList a / 8 % 2 = 1
          · obtain ⟨r1, r2⟩ := hq5 c4
            clear hq5 hq6
            by_cases c5 : s.size < a + 1 + 1
            · have HX := Lib.hid (fun w' ho => HE.out 3 _ w' (hR.symm.trans (flgs_none2 hgo c2' c3 c4 (by rw [size_list]; exact c5))) (by decide) ho)
              have C5 := Lib.hid c5
              obtain ⟨f, hff⟩ : ∃ f, f = bat s.data.toList a := ⟨_, rfl⟩
              rw [← hff] at CU c3 hq1 hq3 hf hd3
              replace hq1 := hq1.symm
              obtain ⟨k, hk2⟩ : ∃ k, k = acc.length := ⟨_, rfl⟩
              have HK := Lib.hid hk2
              rw [← hk2] at hgo hk ⊢
              clear hS hR hle c2 c2' c4 c5 hff hk2
              go_upto_region 8 with (go_at_call 30; (with_reducible refine CU.out.mono ?_); rintro e w2 ⟨rfl, hr, ho⟩; have H2 := Lib.hid (HS1.out.read hr ho HA1.out); obtain ⟨_, _, b2, _, _⟩ := hr.facts; clear hr ho)
              have hn1 := HN.out
              have HB3 : Hid (RwS 58 46 .u32 w (w2.alloc (.cells #[.int .u32 (f : Int)] 46)) g s (a + 1) false (.slice A k c) acc) := by rw [HK.out]; exact Lib.hid (H2.out.next ((Below.refl _ w2).alloc (Nat.le_refl _) (.cells #[.int .u32 (f : Int)] 46)))
              have HR3 := Lib.hid (show (w2.alloc (.cells #[.int .u32 (f : Int)] 46)).ownsRow w.heap.size 46 1 (.slice A k c) k (ci .u32 acc) by have h := HB3.out.row; rw [← HK.out] at h; exact h)
              have HBs := Lib.hid HB3.out.r.onl.size
              go_upto_region 9 with (at_builtin; go_must (refine wpList_append_own _ rfl (.tmp 22) (.tmp 24) 62 rfl w.heap.size 46 i46 _ 1 4 Try.underlying62 H46.out.1 H46.out.2.1 H46.out.2.2.1 H46.out.2.2.2 rfl (by decide) (.slice A k c) k (ci .u32 acc) rfl HR3.out ⟨w2.heap.size, 0, none⟩ 1 1 [.int .u32 (f : Int)] rfl rfl (cells_new _ _ _) (by intro u hu; simp at hu; subst hu; rfl) (by unfold maxLen; omega) (by omega) HBs.out ?_); intro v' w6 hown' hg' _)
              obtain ⟨A6, c6, rfl⟩ := own_form hown'
              have H3 := Lib.hid (HB3.out.push (by decide) (x := (f : Int)) (by rw [← HK.out]; exact hown') hg')
              clear hown' hg' b2 HB3 HR3 HBs
              go_wp2_with (go_at_call 30; (with_reducible refine (num1_out _ _ _ _ H3.out.r.rd HS.out HA1.out C5.out).mono ?_); rintro e w3 ⟨rfl, hr, ho⟩; have H4 := Lib.hid (H3.out.read hr ho HA1.out); obtain ⟨_, _, b2, _, _⟩ := hr.facts; clear hr ho)
              go_ret2
              exact HX.out _ H4.out.r.onl
            · have c5' : ¬ s.data.toList.length < a + 1 + 1 := by rw [size_list]; exact c5
              have hm2 := bat_lt s.data.toList (a + 1)
              have HA2 := Lib.hid (show a + 1 + 1 ≤ s.size by omega)
              have CV := Lib.hid (fun W (h : Rd 58 W g s (a + 1) false) => num1_in g s (a + 1) W h HS.out (by omega))
              have HM := Lib.hid (show n < acc.length + 1 + bat s.data.toList (a + 1) → flgs s.data.toList n acc a = (4, [], 0) from fun h => flgs_many hgo c2' c3 c4 c5' h)
              have HM2 := Lib.hid (show ¬ n < acc.length + 1 + bat s.data.toList (a + 1) → flgs s.data.toList n acc a = flgs s.data.toList n (acc ++ List.replicate (1 + bat s.data.toList (a + 1)) (bat s.data.toList a : Int)) (a + 1 + 1) from fun h => flgs_more hgo c2' c3 c4 c5' h)
              obtain ⟨f, hff⟩ : ∃ f, f = bat s.data.toList a := ⟨_, rfl⟩
              obtain ⟨m, hmm⟩ : ∃ f, f = bat s.data.toList (a + 1) := ⟨_, rfl⟩
              rw [← hff] at CU HM2 c3 hq1 hq3 hf hd3
              replace hq1 := hq1.symm
              rw [← hmm] at CV HM HM2 hm2
              have HRx := Lib.hid hR
              obtain ⟨k, hk2⟩ : ∃ k, k = acc.length := ⟨_, rfl⟩
              rw [← hk2] at hgo hk HM HM2 ⊢
              have HK := Lib.hid hk2
              by_cases c6 : n < k + 1 + m
              · have HX := Lib.hid (fun w' ho => HE.out 4 _ w' (hR.symm.trans (HM.out c6)) (by decide) ho)
                have HC := Lib.hid c6
                clear hS hR hle c2 c2' c4 c5 c5' hff hmm hk2 c6 HM HM2
                go_upto_region 8 with (go_at_call 30; (with_reducible refine CU.out.mono ?_); rintro e w2 ⟨rfl, hr, ho⟩; have H2 := Lib.hid (HS1.out.read hr ho HA1.out); obtain ⟨_, _, b2, _, _⟩ := hr.facts; clear hr ho)
                have hn1 := HN.out
                have HB3 : Hid (RwS 58 46 .u32 w (w2.alloc (.cells #[.int .u32 (f : Int)] 46)) g s (a + 1) false (.slice A k c) acc) := by rw [HK.out]; exact Lib.hid (H2.out.next ((Below.refl _ w2).alloc (Nat.le_refl _) (.cells #[.int .u32 (f : Int)] 46)))
                have HR3 := Lib.hid (show (w2.alloc (.cells #[.int .u32 (f : Int)] 46)).ownsRow w.heap.size 46 1 (.slice A k c) k (ci .u32 acc) by have h := HB3.out.row; rw [← HK.out] at h; exact h)
                have HBs := Lib.hid HB3.out.r.onl.size
                go_upto_region 9 with (at_builtin; go_must (refine wpList_append_own _ rfl (.tmp 22) (.tmp 24) 62 rfl w.heap.size 46 i46 _ 1 4 Try.underlying62 H46.out.1 H46.out.2.1 H46.out.2.2.1 H46.out.2.2.2 rfl (by decide) (.slice A k c) k (ci .u32 acc) rfl HR3.out ⟨w2.heap.size, 0, none⟩ 1 1 [.int .u32 (f : Int)] rfl rfl (cells_new _ _ _) (by intro u hu; simp at hu; subst hu; rfl) (by unfold maxLen; omega) (by omega) HBs.out ?_); intro v' w6 hown' hg' _)
                obtain ⟨A6, c6, rfl⟩ := own_form hown'
                have H3 := Lib.hid (HB3.out.push (by decide) (x := (f : Int)) (by rw [← HK.out]; exact hown') hg')
                clear hown' hg' b2 HB3 HR3 HBs
                have e6 : IntKind.i64.wrap ((n : Int) - ((k : Int) + 1)) = ((n - (k + 1) : Nat) : Int) := by rw [i64_in _ (by omega)]; omega
                have c7 : (n : Int) - ((k : Int) + 1) < (m : Int) := by have := HC.out; omega
                go_wp2_with (go_at_call 30; (with_reducible refine (CV.out _ H3.out.r.rd).mono ?_); rintro e w3 ⟨rfl, hr, ho⟩; have H4 := Lib.hid (H3.out.read hr ho HA2.out); obtain ⟨_, _, b2, _, _⟩ := hr.facts; clear hr ho)
                go_ret2
                exact HX.out _ H4.out.r.onl
              · have HX := Lib.hid (HM2.out c6)
                have HT := Lib.hid (show k + (1 + m) ≤ n by omega)
                have HC := Lib.hid c6
                clear hS hR hle c2 c2' c4 c5 c5' hff hmm hk2 c6 HM HM2
                go_upto_region 8 with (go_at_call 30; (with_reducible refine CU.out.mono ?_); rintro e w2 ⟨rfl, hr, ho⟩; have H2 := Lib.hid (HS1.out.read hr ho HA1.out); obtain ⟨_, _, b2, _, _⟩ := hr.facts; clear hr ho)
                have hn1 := HN.out
                have HB3 : Hid (RwS 58 46 .u32 w (w2.alloc (.cells #[.int .u32 (f : Int)] 46)) g s (a + 1) false (.slice A k c) acc) := by rw [HK.out]; exact Lib.hid (H2.out.next ((Below.refl _ w2).alloc (Nat.le_refl _) (.cells #[.int .u32 (f : Int)] 46)))
                have HR3 := Lib.hid (show (w2.alloc (.cells #[.int .u32 (f : Int)] 46)).ownsRow w.heap.size 46 1 (.slice A k c) k (ci .u32 acc) by have h := HB3.out.row; rw [← HK.out] at h; exact h)
                have HBs := Lib.hid HB3.out.r.onl.size
                go_upto_region 9 with (at_builtin; go_must (refine wpList_append_own _ rfl (.tmp 22) (.tmp 24) 62 rfl w.heap.size 46 i46 _ 1 4 Try.underlying62 H46.out.1 H46.out.2.1 H46.out.2.2.1 H46.out.2.2.2 rfl (by decide) (.slice A k c) k (ci .u32 acc) rfl HR3.out ⟨w2.heap.size, 0, none⟩ 1 1 [.int .u32 (f : Int)] rfl rfl (cells_new _ _ _) (by intro u hu; simp at hu; subst hu; rfl) (by unfold maxLen; omega) (by omega) HBs.out ?_); intro v' w6 hown' hg' _)
                obtain ⟨A6, c6, rfl⟩ := own_form hown'
                have H3 := Lib.hid (HB3.out.push (by decide) (x := (f : Int)) (by rw [← HK.out]; exact hown') hg')
                clear hown' hg' b2 HB3 HR3 HBs
                have c7 : ¬ (n : Int) - ((k : Int) + 1) < (m : Int) := by have := HC.out; omega
                go_wp2_with (go_at_call 30; (with_reducible refine (CV.out _ H3.out.r.rd).mono ?_); rintro e w3 ⟨rfl, hr, ho⟩; have H4 := Lib.hid (H3.out.read hr ho HA2.out); obtain ⟨_, _, b2, _, _⟩ := hr.facts; clear hr ho)
                go_loopw [6, 9] (fun v u wi => ∃ (j : Nat) (A' : Option Addr) (c' : Nat), u = .int .i64 (j : Int) ∧ j ≤ m ∧ v = .slice A' (k + 1 + j) c' ∧ RwS 58 46 .u32 w wi g s (a + 1 + 1) false (.slice A' (k + 1 + j) c') (acc ++ [(f : Int)] ++ List.replicate j (f : Int))) (fun _ u _ => m - (intOf u).toNat)
                case atStart => exact ⟨0, A6, c6, rfl, Nat.zero_le _, rfl, by simpa using H4.out⟩
                case round =>
                  obtain ⟨j, A', c', rfl, hj, rfl, hSj⟩ := hrel
                  have hnk := HT.out
                  have hn1 := HN.out
                  have HSj := Lib.hid hSj
                  by_cases hgj : j < m
                  · have hll : (acc ++ [(f : Int)] ++ List.replicate j (f : Int)).length = k + 1 + j := by rw [List.length_append, List.length_append, List.length_replicate, ← HK.out]; rfl
                    have HLL := Lib.hid hll
                    have HB3 := Lib.hid (hSj.next ((Below.refl _ wr).alloc (Nat.le_refl _) (.cells #[.int .u32 (f : Int)] 46)))
                    have HR3 := Lib.hid (show (wr.alloc (.cells #[.int .u32 (f : Int)] 46)).ownsRow w.heap.size 46 1 (.slice A' (k + 1 + j) c') (k + 1 + j) (ci .u32 (acc ++ [(f : Int)] ++ List.replicate j (f : Int))) by have h := HB3.out.row; rw [hll] at h; exact h)
                    have HBs := Lib.hid HB3.out.r.onl.size
                    clear hSj hll
                    go_wp2_with (at_builtin; go_must (refine wpList_append_own _ rfl (.tmp 48) (.tmp 50) 62 rfl w.heap.size 46 i46 _ 1 4 Try.underlying62 H46.out.1 H46.out.2.1 H46.out.2.2.1 H46.out.2.2.2 rfl (by decide) (.slice A' (k + 1 + j) c') (k + 1 + j) (ci .u32 (acc ++ [(f : Int)] ++ List.replicate j (f : Int))) rfl HR3.out ⟨wr.heap.size, 0, none⟩ 1 1 [.int .u32 (f : Int)] rfl rfl (cells_new _ _ _) (by intro u hu; simp at hu; subst hu; rfl) (by unfold maxLen; omega) (by omega) HBs.out ?_); intro v' w7 hown' hg' _; obtain ⟨A7, c7, rfl⟩ := own_form hown'; have H7 := Lib.hid (HB3.out.push (by decide) (x := (f : Int)) (by rw [HLL.out]; exact hown') hg'); clear hown' hg')
                    exact ⟨⟨j + 1, A7, c7, by simp, by omega, rfl, by rw [List.replicate_succ', ← List.append_assoc]; exact H7.out⟩, by simp [intOf]; omega⟩
                  · have hjt : j = m := by omega
                    subst hjt
                    have hll : (acc ++ List.replicate (1 + j) (f : Int)).length = k + 1 + j := by rw [List.length_append, List.length_replicate, ← HK.out]; omega
                    have hla : acc ++ [(f : Int)] ++ List.replicate j (f : Int) = acc ++ List.replicate (1 + j) (f : Int) := by rw [Nat.add_comm 1 j, List.replicate_succ, List.append_assoc]; rfl
                    have HLA := Lib.hid hla
                    clear hSj hla
                    go_wp2_with fail
                    exact ⟨⟨acc ++ List.replicate (1 + j) (f : Int), (a + 1 + 1), A', c', by rw [hll], by rw [hll]; omega, HX.out.symm.trans HRx.out, by rw [hll, ← HLA.out]; exact HSj.out⟩, by show n - (k + 1 + j) < n - lenV (.slice A k c); simp only [lenV]; omega⟩
          · obtain ⟨r1, r2⟩ := hq6 c4
            clear hq5 hq6
            have HX := Lib.hid (flgs_one hgo c2' c3 c4)
            obtain ⟨f, hff⟩ : ∃ f, f = bat s.data.toList a := ⟨_, rfl⟩
            rw [← hff] at CU HX c3 hq1 hq3 hf hd3
            replace hq1 := hq1.symm
            have HRx := Lib.hid hR
            obtain ⟨k, hk2⟩ : ∃ k, k = acc.length := ⟨_, rfl⟩
            have HK := Lib.hid hk2
            rw [← hk2] at hgo hk ⊢
            clear hS hR hle c2 c2' c4 hff hk2
            go_upto_region 8 with (go_at_call 30; (with_reducible refine CU.out.mono ?_); rintro e w2 ⟨rfl, hr, ho⟩; have H2 := Lib.hid (HS1.out.read hr ho HA1.out); obtain ⟨_, _, b2, _, _⟩ := hr.facts; clear hr ho)
            have hn1 := HN.out
            have HB3 : Hid (RwS 58 46 .u32 w (w2.alloc (.cells #[.int .u32 (f : Int)] 46)) g s (a + 1) false (.slice A k c) acc) := by rw [HK.out]; exact Lib.hid (H2.out.next ((Below.refl _ w2).alloc (Nat.le_refl _) (.cells #[.int .u32 (f : Int)] 46)))
            have HR3 := Lib.hid (show (w2.alloc (.cells #[.int .u32 (f : Int)] 46)).ownsRow w.heap.size 46 1 (.slice A k c) k (ci .u32 acc) by have h := HB3.out.row; rw [← HK.out] at h; exact h)
            have HBs := Lib.hid HB3.out.r.onl.size
            go_upto_region 9 with (at_builtin; go_must (refine wpList_append_own _ rfl (.tmp 22) (.tmp 24) 62 rfl w.heap.size 46 i46 _ 1 4 Try.underlying62 H46.out.1 H46.out.2.1 H46.out.2.2.1 H46.out.2.2.2 rfl (by decide) (.slice A k c) k (ci .u32 acc) rfl HR3.out ⟨w2.heap.size, 0, none⟩ 1 1 [.int .u32 (f : Int)] rfl rfl (cells_new _ _ _) (by intro u hu; simp at hu; subst hu; rfl) (by unfold maxLen; omega) (by omega) HBs.out ?_); intro v' w6 hown' hg' _)
            obtain ⟨A6, c6, rfl⟩ := own_form hown'
            have H3 := Lib.hid (HB3.out.push (by decide) (x := (f : Int)) (by rw [← HK.out]; exact hown') hg')
            clear hown' hg' b2 HB3 HR3 HBs
            have hll : (acc ++ [(f : Int)]).length = k + 1 := by rw [List.length_append, ← HK.out]; rfl
            go_wp2_with fail
            exact ⟨⟨acc ++ [(f : Int)], (a + 1), A6, c6, by rw [hll], by rw [hll]; omega, HX.out.symm.trans HRx.out, by rw [hll]; exact H3.out⟩, by show n - (k + 1) < n - lenV (.slice A k c); simp only [lenV]; omega⟩
    · obtain rfl : acc.length = n := by omega
      have HX := Lib.hid (HF.out acc a A c wr (hR.symm.trans (flgs_end hgo)) hS)
      obtain ⟨k, hk2⟩ : ∃ k, k = acc.length := ⟨_, rfl⟩
      rw [← hk2] at HX hgo ⊢
      clear hS hR hle hk2
      go_wp2_with fail
      go_ret2
      exact HX.out
end Go.Proofs.Ytcpphbogadjgfaa
