/- Proved here: what the document's flags answers. Condition: a reader of a text of at most a billion bytes; at most 100000 points. · what the document's along answers. Condition: a reader of a text of at most a billion bytes; at most 100000 points. · what stands in memory while the document's contours are put together; its last loops' steps. No condition. -/
import Derived.Test.YtlfnagfcggmeaaaTA
import Derived.Test.YtlfnagfcggmeaaaTB
import Derived.Deep.RegionLaw
namespace Go.Proofs.Ytlfnagfcggmeaaa
open Go.RowKit

theorem bit_parts (f : Nat) (hf : f < 256) : ∃ q : Nat, (q : Int) = (f : Int) / 8 ∧ q < 256 ∧ IntKind.u32.wrap ((f : Int).tdiv 8) = (q : Int) ∧ IntKind.u32.wrap (q : Int) = (q : Int) ∧ (f / 8 % 2 = 1 → ((q : Int) % 2 == 1) = true ∧ (q : Int).tmod 2 = 1) ∧ (¬ f / 8 % 2 = 1 → ((q : Int) % 2 == 1) = false ∧ (q : Int).tmod 2 = 0) := by
  have h1 : (((f / 8 : Nat) : Int)).tmod 2 = ((f / 8 % 2 : Nat) : Int) := by rw [Int.tmod_eq_emod_of_nonneg (by omega)]; omega
  refine ⟨f / 8, by omega, by omega, ?_, by rw [IntKind.wrap_u32]; omega, fun h => ?_, fun h => ?_⟩
  · rw [Int.tdiv_eq_ediv_of_nonneg (by omega), IntKind.wrap_u32]; omega
  · rw [h1, h]; exact ⟨by simp; omega, rfl⟩
  · rw [h1, show f / 8 % 2 = 0 by omega]; exact ⟨by simp; omega, rfl⟩
set_option maxHeartbeats 8000000 in
set_option maxRecDepth 100000 in
theorem rflags_any (g n : Nat) (s : ByteArray) (a0 : Nat) (w : World) (h : Rd 90 w g s a0 false) (hs : s.size ≤ 1000000000) (ha : a0 ≤ s.size) (hn : n ≤ 100000) :
    Calls Try.prog 49 #[.pointer (some ⟨g, 0, none⟩), .int .i64 (n : Int)] w (FgP 90 .u32 (flgs s.data.toList n [] a0) g s w) := by
  have S := Lib.hid (RwS.start (e := 95) (K := .u32) h ha)
  have HS := Lib.hid hs
  obtain ⟨R, hR⟩ : ∃ R, R = flgs s.data.toList n [] a0 := ⟨_, rfl⟩
  rw [← hR]
  have HR0 := Lib.hid hR.symm
  have HE := Lib.hid (show ∀ x r w', R = (x, r) → x ≠ 0 → Onl g w w' → FgP 90 .u32 R g s w (.returned (.tuple #[.slice none 0 0, .int .i64 x])) w' from fun x r w' h1 h2 h3 => fgP_err h1 h2 h3)
  have HF := Lib.hid (show ∀ acc a A c w', R = (0, acc, a) → RwS 90 95 .u32 w w' g s a false (.slice A acc.length c) acc → FgP 90 .u32 R g s w (.returned (.tuple #[.slice A acc.length c, .int .i64 0])) w' from fun acc a A c w' h1 h2 => by
    subst h1
    exact ⟨h2.r.onl, A, _, c, rfl, fun _ => ⟨⟨own_il h2.row rfl, own_nb h2.row h2.r.lg⟩, h2.r.rd, h2.r.le⟩⟩)
  obtain ⟨i46, h46a, h46b, h46c, h46d⟩ := info_parts Try.info95
  have H46 := Lib.hid (And.intro h46a (And.intro h46b (And.intro h46c h46d)))
  have HN := Lib.hid hn
  clear h hs ha hR h46a h46b h46c h46d
  go_enter Try.func49, Try.ntmps49
  go_wp2_with fail
  go_loopw [6] (fun v wr => ∃ (acc : List Int) (a : Nat) (A : Option Addr) (c : Nat), v = .slice A acc.length c ∧ acc.length ≤ n ∧ flgs s.data.toList n acc a = R ∧ RwS 90 95 .u32 w wr g s a false (.slice A acc.length c) acc) (fun v _ => n - lenV v)
  case atStart => exact ⟨[], a0, none, 0, rfl, Nat.zero_le _, HR0.out, S.out⟩
  case round =>
    obtain ⟨acc, a, A, c, rfl, hk, hR, hS⟩ := hrel
    have hle := hS.r.le
    have HS1 := Lib.hid hS
    by_cases hgo : acc.length < n
    · by_cases c2 : s.size < a + 1
      · have CU := Lib.hid (num1_out g s a wr hS.r.rd HS.out hle c2)
        have HX := Lib.hid (fun w' ho => HE.out 3 _ w' (hR.symm.trans (flgs_none hgo (by rw [size_list]; exact c2))) (by decide) ho)
        obtain ⟨k, hk2⟩ : ∃ k, k = acc.length := ⟨_, rfl⟩
        rw [← hk2] at hgo ⊢
        clear hS hR hle c2 hk2 hk
        go_wp2_with (go_at_call 48; (with_reducible refine CU.out.mono ?_); rintro e w2 ⟨rfl, hr, ho⟩; have H2 := Lib.hid (HS1.out.read hr ho HS1.out.r.le); obtain ⟨_, _, b2, _, _⟩ := hr.facts; clear hr ho)
        go_ret2
        exact HX.out _ H2.out.r.onl
      · have c2' : ¬ s.data.toList.length < a + 1 := by rw [size_list]; exact c2
        have CU := Lib.hid (num1_in g s a wr hS.r.rd HS.out (by omega))
        have hf := bat_lt s.data.toList a
        have HA1 := Lib.hid (show a + 1 ≤ s.size by omega)
        by_cases c3 : 128 ≤ bat s.data.toList a
        · have HX := Lib.hid (fun w' ho => HE.out 4 _ w' (hR.symm.trans (flgs_high hgo c2' c3)) (by decide) ho)
          obtain ⟨f, hff⟩ : ∃ f, f = bat s.data.toList a := ⟨_, rfl⟩
          rw [← hff] at CU c3
          obtain ⟨k, hk2⟩ : ∃ k, k = acc.length := ⟨_, rfl⟩
          rw [← hk2] at hgo ⊢
          clear hS hR hle c2 c2' hf hff hk2 hk
          go_wp2_with (go_at_call 48; (with_reducible refine CU.out.mono ?_); rintro e w2 ⟨rfl, hr, ho⟩; have H2 := Lib.hid (HS1.out.read hr ho HA1.out); obtain ⟨_, _, b2, _, _⟩ := hr.facts; clear hr ho)
          go_ret2
          exact HX.out _ H2.out.r.onl
        · have hd3 : decide (128 ≤ ((bat s.data.toList a : Nat) : Int)) = false := decide_eq_false (by omega)
          obtain ⟨q, hq1, hq2, hq3, hq4, hq5, hq6⟩ := bit_parts (bat s.data.toList a) hf
          by_cases c4 : bat s.data.toList a / 8 % 2 = 1
          · obtain ⟨r1, r2⟩ := hq5 c4
            clear hq5 hq6
            by_cases c5 : s.size < a + 1 + 1
            · have HX := Lib.hid (fun w' ho => HE.out 3 _ w' (hR.symm.trans (flgs_none2 hgo c2' c3 c4 (by rw [size_list]; exact c5))) (by decide) ho)
              have C5 := Lib.hid c5
              obtain ⟨f, hff⟩ : ∃ f, f = bat s.data.toList a := ⟨_, rfl⟩
              rw [← hff] at CU c3 hq1 hq3 hf hd3
              replace hq1 := hq1.symm
              obtain ⟨k, hk2⟩ : ∃ k, k = acc.length := ⟨_, rfl⟩
              have HK := Lib.hid hk2
              rw [← hk2] at hgo hk ⊢
              clear hS hR hle c2 c2' c4 c5 hff hk2
              go_upto_region 8 with (go_at_call 48; (with_reducible refine CU.out.mono ?_); rintro e w2 ⟨rfl, hr, ho⟩; have H2 := Lib.hid (HS1.out.read hr ho HA1.out); obtain ⟨_, _, b2, _, _⟩ := hr.facts; clear hr ho)
              have hn1 := HN.out
              have HB3 : Hid (RwS 90 95 .u32 w (w2.alloc (.cells #[.int .u32 (f : Int)] 95)) g s (a + 1) false (.slice A k c) acc) := by rw [HK.out]; exact Lib.hid (H2.out.next ((Below.refl _ w2).alloc (Nat.le_refl _) (.cells #[.int .u32 (f : Int)] 95)))
              have HR3 := Lib.hid (show (w2.alloc (.cells #[.int .u32 (f : Int)] 95)).ownsRow w.heap.size 95 1 (.slice A k c) k (ci .u32 acc) by have h := HB3.out.row; rw [← HK.out] at h; exact h)
              have HBs := Lib.hid HB3.out.r.onl.size
              go_upto_region 9 with (at_builtin; go_must (refine wpList_append_own _ rfl (.tmp 22) (.tmp 24) 97 rfl w.heap.size 95 i46 _ 1 4 Try.underlying97 H46.out.1 H46.out.2.1 H46.out.2.2.1 H46.out.2.2.2 rfl (by decide) (.slice A k c) k (ci .u32 acc) rfl HR3.out ⟨w2.heap.size, 0, none⟩ 1 1 [.int .u32 (f : Int)] rfl rfl (cells_new _ _ _) (by intro u hu; simp at hu; subst hu; rfl) (by unfold maxLen; omega) (by omega) HBs.out ?_); intro v' w6 hown' hg' _)
              obtain ⟨A6, c6, rfl⟩ := own_form hown'
              have H3 := Lib.hid (HB3.out.push (by decide) (x := (f : Int)) (by rw [← HK.out]; exact hown') hg')
              clear hown' hg' b2 HB3 HR3 HBs
              go_wp2_with (go_at_call 48; (with_reducible refine (num1_out _ _ _ _ H3.out.r.rd HS.out HA1.out C5.out).mono ?_); rintro e w3 ⟨rfl, hr, ho⟩; have H4 := Lib.hid (H3.out.read hr ho HA1.out); obtain ⟨_, _, b2, _, _⟩ := hr.facts; clear hr ho)
              go_ret2
              exact HX.out _ H4.out.r.onl
            · have c5' : ¬ s.data.toList.length < a + 1 + 1 := by rw [size_list]; exact c5
              have hm2 := bat_lt s.data.toList (a + 1)
              have HA2 := Lib.hid (show a + 1 + 1 ≤ s.size by omega)
              have CV := Lib.hid (fun W (h : Rd 90 W g s (a + 1) false) => num1_in g s (a + 1) W h HS.out (by omega))
              have HM := Lib.hid (show n < acc.length + 1 + bat s.data.toList (a + 1) → flgs s.data.toList n acc a = (4, [], 0) from fun h => flgs_many hgo c2' c3 c4 c5' h)
              have HM2 := Lib.hid (show ¬ n < acc.length + 1 + bat s.data.toList (a + 1) → flgs s.data.toList n acc a = flgs s.data.toList n (acc ++ List.replicate (1 + bat s.data.toList (a + 1)) (bat s.data.toList a : Int)) (a + 1 + 1) from fun h => flgs_more hgo c2' c3 c4 c5' h)
              obtain ⟨f, hff⟩ : ∃ f, f = bat s.data.toList a := ⟨_, rfl⟩
              obtain ⟨m, hmm⟩ : ∃ f, f = bat s.data.toList (a + 1) := ⟨_, rfl⟩
              rw [← hff] at CU HM2 c3 hq1 hq3 hf hd3
              replace hq1 := hq1.symm
              rw [← hmm] at CV HM HM2 hm2
              have HRx := Lib.hid hR
              obtain ⟨k, hk2⟩ : ∃ k, k = acc.length := ⟨_, rfl⟩
              rw [← hk2] at hgo hk HM HM2 ⊢
              have HK := Lib.hid hk2
              by_cases c6 : n < k + 1 + m
              · have HX := Lib.hid (fun w' ho => HE.out 4 _ w' (hR.symm.trans (HM.out c6)) (by decide) ho)
                have HC := Lib.hid c6
                clear hS hR hle c2 c2' c4 c5 c5' hff hmm hk2 c6 HM HM2
                go_upto_region 8 with (go_at_call 48; (with_reducible refine CU.out.mono ?_); rintro e w2 ⟨rfl, hr, ho⟩; have H2 := Lib.hid (HS1.out.read hr ho HA1.out); obtain ⟨_, _, b2, _, _⟩ := hr.facts; clear hr ho)
                have hn1 := HN.out
                have HB3 : Hid (RwS 90 95 .u32 w (w2.alloc (.cells #[.int .u32 (f : Int)] 95)) g s (a + 1) false (.slice A k c) acc) := by rw [HK.out]; exact Lib.hid (H2.out.next ((Below.refl _ w2).alloc (Nat.le_refl _) (.cells #[.int .u32 (f : Int)] 95)))
                have HR3 := Lib.hid (show (w2.alloc (.cells #[.int .u32 (f : Int)] 95)).ownsRow w.heap.size 95 1 (.slice A k c) k (ci .u32 acc) by have h := HB3.out.row; rw [← HK.out] at h; exact h)
                have HBs := Lib.hid HB3.out.r.onl.size
                go_upto_region 9 with (at_builtin; go_must (refine wpList_append_own _ rfl (.tmp 22) (.tmp 24) 97 rfl w.heap.size 95 i46 _ 1 4 Try.underlying97 H46.out.1 H46.out.2.1 H46.out.2.2.1 H46.out.2.2.2 rfl (by decide) (.slice A k c) k (ci .u32 acc) rfl HR3.out ⟨w2.heap.size, 0, none⟩ 1 1 [.int .u32 (f : Int)] rfl rfl (cells_new _ _ _) (by intro u hu; simp at hu; subst hu; rfl) (by unfold maxLen; omega) (by omega) HBs.out ?_); intro v' w6 hown' hg' _)
                obtain ⟨A6, c6, rfl⟩ := own_form hown'
                have H3 := Lib.hid (HB3.out.push (by decide) (x := (f : Int)) (by rw [← HK.out]; exact hown') hg')
                clear hown' hg' b2 HB3 HR3 HBs
                have e6 : IntKind.i64.wrap ((n : Int) - ((k : Int) + 1)) = ((n - (k + 1) : Nat) : Int) := by rw [i64_in _ (by omega)]; omega
                have c7 : (n : Int) - ((k : Int) + 1) < (m : Int) := by have := HC.out; omega
                go_wp2_with (go_at_call 48; (with_reducible refine (CV.out _ H3.out.r.rd).mono ?_); rintro e w3 ⟨rfl, hr, ho⟩; have H4 := Lib.hid (H3.out.read hr ho HA2.out); obtain ⟨_, _, b2, _, _⟩ := hr.facts; clear hr ho)
                go_ret2
                exact HX.out _ H4.out.r.onl
              · have HX := Lib.hid (HM2.out c6)
                have HT := Lib.hid (show k + (1 + m) ≤ n by omega)
                have HC := Lib.hid c6
                clear hS hR hle c2 c2' c4 c5 c5' hff hmm hk2 c6 HM HM2
                go_upto_region 8 with (go_at_call 48; (with_reducible refine CU.out.mono ?_); rintro e w2 ⟨rfl, hr, ho⟩; have H2 := Lib.hid (HS1.out.read hr ho HA1.out); obtain ⟨_, _, b2, _, _⟩ := hr.facts; clear hr ho)
                have hn1 := HN.out
                have HB3 : Hid (RwS 90 95 .u32 w (w2.alloc (.cells #[.int .u32 (f : Int)] 95)) g s (a + 1) false (.slice A k c) acc) := by rw [HK.out]; exact Lib.hid (H2.out.next ((Below.refl _ w2).alloc (Nat.le_refl _) (.cells #[.int .u32 (f : Int)] 95)))
                have HR3 := Lib.hid (show (w2.alloc (.cells #[.int .u32 (f : Int)] 95)).ownsRow w.heap.size 95 1 (.slice A k c) k (ci .u32 acc) by have h := HB3.out.row; rw [← HK.out] at h; exact h)
                have HBs := Lib.hid HB3.out.r.onl.size
                go_upto_region 9 with (at_builtin; go_must (refine wpList_append_own _ rfl (.tmp 22) (.tmp 24) 97 rfl w.heap.size 95 i46 _ 1 4 Try.underlying97 H46.out.1 H46.out.2.1 H46.out.2.2.1 H46.out.2.2.2 rfl (by decide) (.slice A k c) k (ci .u32 acc) rfl HR3.out ⟨w2.heap.size, 0, none⟩ 1 1 [.int .u32 (f : Int)] rfl rfl (cells_new _ _ _) (by intro u hu; simp at hu; subst hu; rfl) (by unfold maxLen; omega) (by omega) HBs.out ?_); intro v' w6 hown' hg' _)
                obtain ⟨A6, c6, rfl⟩ := own_form hown'
                have H3 := Lib.hid (HB3.out.push (by decide) (x := (f : Int)) (by rw [← HK.out]; exact hown') hg')
                clear hown' hg' b2 HB3 HR3 HBs
                have c7 : ¬ (n : Int) - ((k : Int) + 1) < (m : Int) := by have := HC.out; omega
                go_wp2_with (go_at_call 48; (with_reducible refine (CV.out _ H3.out.r.rd).mono ?_); rintro e w3 ⟨rfl, hr, ho⟩; have H4 := Lib.hid (H3.out.read hr ho HA2.out); obtain ⟨_, _, b2, _, _⟩ := hr.facts; clear hr ho)
                go_loopw [6, 9] (fun v u wi => ∃ (j : Nat) (A' : Option Addr) (c' : Nat), u = .int .i64 (j : Int) ∧ j ≤ m ∧ v = .slice A' (k + 1 + j) c' ∧ RwS 90 95 .u32 w wi g s (a + 1 + 1) false (.slice A' (k + 1 + j) c') (acc ++ [(f : Int)] ++ List.replicate j (f : Int))) (fun _ u _ => m - (intOf u).toNat)
                case atStart => exact ⟨0, A6, c6, rfl, Nat.zero_le _, rfl, by simpa using H4.out⟩
                case round =>
                  obtain ⟨j, A', c', rfl, hj, rfl, hSj⟩ := hrel
                  have hnk := HT.out
                  have hn1 := HN.out
                  have HSj := Lib.hid hSj
                  by_cases hgj : j < m
                  · have hll : (acc ++ [(f : Int)] ++ List.replicate j (f : Int)).length = k + 1 + j := by rw [List.length_append, List.length_append, List.length_replicate, ← HK.out]; rfl
                    have HLL := Lib.hid hll
                    have HB3 := Lib.hid (hSj.next ((Below.refl _ wr).alloc (Nat.le_refl _) (.cells #[.int .u32 (f : Int)] 95)))
                    have HR3 := Lib.hid (show (wr.alloc (.cells #[.int .u32 (f : Int)] 95)).ownsRow w.heap.size 95 1 (.slice A' (k + 1 + j) c') (k + 1 + j) (ci .u32 (acc ++ [(f : Int)] ++ List.replicate j (f : Int))) by have h := HB3.out.row; rw [hll] at h; exact h)
                    have HBs := Lib.hid HB3.out.r.onl.size
                    clear hSj hll
                    go_wp2_with (at_builtin; go_must (refine wpList_append_own _ rfl (.tmp 48) (.tmp 50) 97 rfl w.heap.size 95 i46 _ 1 4 Try.underlying97 H46.out.1 H46.out.2.1 H46.out.2.2.1 H46.out.2.2.2 rfl (by decide) (.slice A' (k + 1 + j) c') (k + 1 + j) (ci .u32 (acc ++ [(f : Int)] ++ List.replicate j (f : Int))) rfl HR3.out ⟨wr.heap.size, 0, none⟩ 1 1 [.int .u32 (f : Int)] rfl rfl (cells_new _ _ _) (by intro u hu; simp at hu; subst hu; rfl) (by unfold maxLen; omega) (by omega) HBs.out ?_); intro v' w7 hown' hg' _; obtain ⟨A7, c7, rfl⟩ := own_form hown'; have H7 := Lib.hid (HB3.out.push (by decide) (x := (f : Int)) (by rw [HLL.out]; exact hown') hg'); clear hown' hg')
                    exact ⟨⟨j + 1, A7, c7, by simp, by omega, rfl, by rw [List.replicate_succ', ← List.append_assoc]; exact H7.out⟩, by simp [intOf]; omega⟩
                  · have hjt : j = m := by omega
                    subst hjt
                    have hll : (acc ++ List.replicate (1 + j) (f : Int)).length = k + 1 + j := by rw [List.length_append, List.length_replicate, ← HK.out]; omega
                    have hla : acc ++ [(f : Int)] ++ List.replicate j (f : Int) = acc ++ List.replicate (1 + j) (f : Int) := by rw [Nat.add_comm 1 j, List.replicate_succ, List.append_assoc]; rfl
                    have HLA := Lib.hid hla
                    clear hSj hla
                    go_wp2_with fail
                    exact ⟨⟨acc ++ List.replicate (1 + j) (f : Int), (a + 1 + 1), A', c', by rw [hll], by rw [hll]; omega, HX.out.symm.trans HRx.out, by rw [hll, ← HLA.out]; exact HSj.out⟩, by show n - (k + 1 + j) < n - lenV (.slice A k c); simp only [lenV]; omega⟩
          · obtain ⟨r1, r2⟩ := hq6 c4
            clear hq5 hq6
            have HX := Lib.hid (flgs_one hgo c2' c3 c4)
            obtain ⟨f, hff⟩ : ∃ f, f = bat s.data.toList a := ⟨_, rfl⟩
            rw [← hff] at CU HX c3 hq1 hq3 hf hd3
            replace hq1 := hq1.symm
            have HRx := Lib.hid hR
            obtain ⟨k, hk2⟩ : ∃ k, k = acc.length := ⟨_, rfl⟩
            have HK := Lib.hid hk2
            rw [← hk2] at hgo hk ⊢
            clear hS hR hle c2 c2' c4 hff hk2
            go_upto_region 8 with (go_at_call 48; (with_reducible refine CU.out.mono ?_); rintro e w2 ⟨rfl, hr, ho⟩; have H2 := Lib.hid (HS1.out.read hr ho HA1.out); obtain ⟨_, _, b2, _, _⟩ := hr.facts; clear hr ho)
            have hn1 := HN.out
            have HB3 : Hid (RwS 90 95 .u32 w (w2.alloc (.cells #[.int .u32 (f : Int)] 95)) g s (a + 1) false (.slice A k c) acc) := by rw [HK.out]; exact Lib.hid (H2.out.next ((Below.refl _ w2).alloc (Nat.le_refl _) (.cells #[.int .u32 (f : Int)] 95)))
            have HR3 := Lib.hid (show (w2.alloc (.cells #[.int .u32 (f : Int)] 95)).ownsRow w.heap.size 95 1 (.slice A k c) k (ci .u32 acc) by have h := HB3.out.row; rw [← HK.out] at h; exact h)
            have HBs := Lib.hid HB3.out.r.onl.size
            go_upto_region 9 with (at_builtin; go_must (refine wpList_append_own _ rfl (.tmp 22) (.tmp 24) 97 rfl w.heap.size 95 i46 _ 1 4 Try.underlying97 H46.out.1 H46.out.2.1 H46.out.2.2.1 H46.out.2.2.2 rfl (by decide) (.slice A k c) k (ci .u32 acc) rfl HR3.out ⟨w2.heap.size, 0, none⟩ 1 1 [.int .u32 (f : Int)] rfl rfl (cells_new _ _ _) (by intro u hu; simp at hu; subst hu; rfl) (by unfold maxLen; omega) (by omega) HBs.out ?_); intro v' w6 hown' hg' _)
            obtain ⟨A6, c6, rfl⟩ := own_form hown'
            have H3 := Lib.hid (HB3.out.push (by decide) (x := (f : Int)) (by rw [← HK.out]; exact hown') hg')
            clear hown' hg' b2 HB3 HR3 HBs
            have hll : (acc ++ [(f : Int)]).length = k + 1 := by rw [List.length_append, ← HK.out]; rfl
            go_wp2_with fail
            exact ⟨⟨acc ++ [(f : Int)], (a + 1), A6, c6, by rw [hll], by rw [hll]; omega, HX.out.symm.trans HRx.out, by rw [hll]; exact H3.out⟩, by show n - (k + 1) < n - lenV (.slice A k c); simp only [lenV]; omega⟩
    · obtain rfl : acc.length = n := by omega
      have HX := Lib.hid (HF.out acc a A c wr (hR.symm.trans (flgs_end hgo)) hS)
      obtain ⟨k, hk2⟩ : ∃ k, k = acc.length := ⟨_, rfl⟩
      rw [← hk2] at HX hgo ⊢
      clear hS hR hle hk2
      go_wp2_with fail
      go_ret2
      exact HX.out
end Go.Proofs.Ytlfnagfcggmeaaa
namespace Go.Proofs.Ytlfnagfcggmeaaa
open Go.RowKit

theorem bit_of (f m : Nat) (hf : f < 256) (hm : m = 2 ∨ m = 4 ∨ m = 16 ∨ m = 32) : ∃ q : Nat, (f : Int) / (m : Int) = (q : Int) ∧ q < 256 ∧ (f : Int).tdiv (m : Int) = (q : Int) ∧ IntKind.u32.wrap ((f : Int).tdiv (m : Int)) = (q : Int) ∧ ((q : Int) % 2 == 1) = isS (f : Int) m := by
  have hq : f / m < 256 := by rcases hm with rfl | rfl | rfl | rfl <;> omega
  have h1 : (f : Int).tdiv (m : Int) = ((f / m : Nat) : Int) := by rw [Int.tdiv_eq_ediv_of_nonneg (by omega)]; exact (Int.natCast_ediv f m).symm
  refine ⟨f / m, (Int.natCast_ediv f m).symm, hq, h1, ?_, ?_⟩
  · rw [h1, IntKind.wrap_u32]
    obtain ⟨d, hd⟩ : ∃ d, d = f / m := ⟨_, rfl⟩
    rw [← hd] at hq ⊢
    omega
  unfold isS
  rw [← Int.natCast_ediv f m]
  rcases Nat.mod_two_eq_zero_or_one (f / m) with h | h
  · have e : ((f / m : Nat) : Int) % 2 = 0 := by omega
    rw [e]; rfl
  · have e : ((f / m : Nat) : Int) % 2 = 1 := by omega
    rw [e]; rfl
set_option maxHeartbeats 8000000 in
set_option maxRecDepth 100000 in
theorem along_any (g : Nat) (A : Option Addr) (n c : Nat) (fl : List Int) (sh sm : Nat) (s : ByteArray) (a0 : Nat) (w : World) (hm : (sh = 2 ∧ sm = 16) ∨ (sh = 4 ∧ sm = 32)) (hI : Il .u32 w A n fl) (hA : Nb A g) (hF : FlOk fl) (h : Rd 90 w g s a0 false) (hs : s.size ≤ 1000000000) (ha : a0 ≤ s.size) (hn : n ≤ 100000) :
    Calls Try.prog 50 #[.pointer (some ⟨g, 0, none⟩), .slice A n c, .int .u32 (sh : Int), .int .u32 (sm : Int)] w (FgP 90 .i64 (unts s.data.toList sh sm fl [] a0 0) g s w) := by
  have hlen := hI.len
  have HI := Lib.hid (And.intro hI hA)
  have HFl := Lib.hid hF
  have HS := Lib.hid hs
  have HM := Lib.hid hm
  have S := Lib.hid (RwS.start (e := 3) (K := .i64) h ha)
  obtain ⟨R, hR⟩ : ∃ R, R = unts s.data.toList sh sm fl [] a0 0 := ⟨_, rfl⟩
  rw [← hR]
  have HR0 := Lib.hid hR.symm
  have HE := Lib.hid (show ∀ x r w', R = (x, r) → x ≠ 0 → Onl g w w' → FgP 90 .i64 R g s w (.returned (.tuple #[.slice none 0 0, .int .i64 x])) w' from fun x r w' h1 h2 h3 => fgP_err h1 h2 h3)
  have HF := Lib.hid (show ∀ acc a A c w', R = (0, acc, a) → acc.length = n → RwS 90 3 .i64 w w' g s a false (.slice A n c) acc → FgP 90 .i64 R g s w (.returned (.tuple #[.slice A n c, .int .i64 0])) w' from fun acc a A c w' h1 h0 h2 => by
    subst h1
    have hrow := h2.row
    rw [h0] at hrow
    exact ⟨h2.r.onl, A, _, c, rfl, fun _ => ⟨⟨own_il hrow h0, own_nb hrow h2.r.lg⟩, h2.r.rd, h2.r.le⟩⟩)
  obtain ⟨i3, h3a, h3b, h3c, h3d⟩ := info_parts Try.info3
  have H3 := Lib.hid (And.intro h3a (And.intro h3b (And.intro h3c h3d)))
  have HLn := Lib.hid hlen
  have hsh0 : ¬ sh = 0 := by omega
  have hsm0 : ¬ sm = 0 := by omega
  clear h hs ha hR hI hA hF hm hlen h3a h3b h3c h3d
  go_enter Try.func50, Try.ntmps50
  go_wp2_with fail
  go_loopw [10, 11, 12] (fun v x u wr => ∃ (i : Nat) (acc : List Int) (a : Nat) (z : Int) (A' : Option Addr) (c' : Nat), u = .int .i64 (i : Int) ∧ i ≤ n ∧ x = .int .i64 z ∧ v = .slice A' i c' ∧ okU z ∧ acc.length = i ∧ unts s.data.toList sh sm (fl.drop i) acc a z = R ∧ RwS 90 3 .i64 w wr g s a false (.slice A' i c') acc) (fun _ _ u _ => n - (intOf u).toNat)
  case atStart => exact ⟨0, [], a0, 0, none, 0, rfl, Nat.zero_le _, rfl, rfl, ⟨by decide, by decide⟩, rfl, HR0.out, S.out⟩
  case round =>
    obtain ⟨i, acc, a, z, A', c', rfl, hi, rfl, rfl, hz, hal, hR, hS⟩ := hrel
    have hle := hS.r.le
    have HS1 := Lib.hid hS
    have HAL := Lib.hid hal
    have HR := Lib.hid hR
    have hn1 := hn
    by_cases hgo : i < n
    · obtain ⟨ad, rfl, hc⟩ := HI.out.1.ro HI.out.2 hS.r.onl hgo
      have HC := Lib.hid (show ∀ W, Onl g w W → W.cell? (ad.add i) = some (.int .u32 (co fl i)) from fun W hW => by
        obtain ⟨ad2, h1, h2⟩ := HI.out.1.ro HI.out.2 hW hgo
        injection h1 with h1
        subst h1
        exact h2)
      have hil : i < fl.length := by rw [HLn.out]; exact hgo
      have hd := drop_co hil
      rw [hd] at hR
      obtain ⟨hf1, hf2⟩ := HFl.out i hil
      obtain ⟨f, hf⟩ : ∃ f : Nat, co fl i = (f : Int) := ⟨(co fl i).toNat, by omega⟩
      rw [hf] at hc hR HC
      have hf256 : f < 256 := by omega
      obtain ⟨q1, m1, m2, m3, m4, m5⟩ := bit_of f sh hf256 (by rcases HM.out with ⟨h, _⟩ | ⟨h, _⟩ <;> rw [h] <;> simp)
      obtain ⟨q2, l1, l2, l3, l4, l5⟩ := bit_of f sm hf256 (by rcases HM.out with ⟨_, h⟩ | ⟨_, h⟩ <;> rw [h] <;> simp)
      have hR2 : (if s.data.toList.length < a + widB (isS (f : Int) sh) (isS (f : Int) sm) then ((3, [], 0) : Int × List Int × Nat) else if okU (z + stpB s.data.toList a (isS (f : Int) sh) (isS (f : Int) sm)) then unts s.data.toList sh sm (fl.drop (i + 1)) (acc ++ [z + stpB s.data.toList a (isS (f : Int) sh) (isS (f : Int) sm)]) (a + widB (isS (f : Int) sh) (isS (f : Int) sm)) (z + stpB s.data.toList a (isS (f : Int) sh) (isS (f : Int) sm)) else (2, [], 0)) = R := hR
      rw [size_list] at hR2
      obtain ⟨b1, hb1⟩ : ∃ b, b = isS (f : Int) sh := ⟨_, rfl⟩
      obtain ⟨b2, hb2⟩ : ∃ b, b = isS (f : Int) sm := ⟨_, rfl⟩
      rw [← hb1] at m5 hR2
      rw [← hb2] at l5 hR2
      obtain ⟨hz1, hz2⟩ := hz
      have hbt := bat_lt s.data.toList a
      obtain ⟨hg1, hg2⟩ := sg16_in _ (n2_lt s.data.toList a)
      have HOK := Lib.hid (show ∀ x, okU x ↔ (-32767 ≤ x ∧ x ≤ 32767) from fun x => Iff.rfl)
      clear hal hR hd hf1 hf2 hf hb1 hb2
      cases b1
      · cases b2
        · have hR3 : (if s.size < a + 2 then ((3, [], 0) : Int × List Int × Nat) else if okU (z + sg16 (n2 s.data.toList a)) then unts s.data.toList sh sm (fl.drop (i + 1)) (acc ++ [z + sg16 (n2 s.data.toList a)]) (a + 2) (z + sg16 (n2 s.data.toList a)) else (2, [], 0)) = R := hR2
          clear hR2
          by_cases c2 : s.size < a + 2
          · rw [if_pos c2] at hR3
            have CS := Lib.hid (fun W (hw : RwS 90 3 .i64 w W g s a false (.slice A' i c') acc) => rri16_out g s a W hw.r.rd HS.out hle c2)
            have HX := Lib.hid (fun w' ho => HE.out 3 _ w' hR3.symm (by decide) ho)
            clear hS hR3 c2 hg1 hg2 hbt
            go_wp2_with (go_at_call 46; (with_reducible refine (CS.out _ HS1.out).mono ?_); rintro e w2 ⟨rfl, hr, ho⟩; have H2 := Lib.hid (HS1.out.read hr ho HS1.out.r.le); obtain ⟨_, _, bb, _, _⟩ := hr.facts; clear hr ho)
            go_ret2
            exact HX.out _ H2.out.r.onl
          · rw [if_neg c2] at hR3
            have CS := Lib.hid (fun W (hw : RwS 90 3 .i64 w W g s a false (.slice A' i c') acc) => rri16_in g s a W hw.r.rd HS.out (by omega))
            obtain ⟨y, hy⟩ : ∃ y, y = sg16 (n2 s.data.toList a) := ⟨_, rfl⟩
            rw [← hy] at CS hR3 hg1 hg2
            have HA1 := Lib.hid (show a + 2 ≤ s.size by omega)
            by_cases c3 : okU (z + y)
            · rw [if_pos c3] at hR3
              have HX := Lib.hid (And.intro hR3 c3)
              obtain ⟨c4, c5⟩ := c3
              clear hS hR3 c2 hy
              go_upto_region 18 with (go_at_call 46; (with_reducible refine (CS.out _ HS1.out).mono ?_); rintro e w2 ⟨rfl, hr, ho⟩; have H2 := Lib.hid (HS1.out.read hr ho HA1.out); obtain ⟨_, _, bb, _, _⟩ := hr.facts; clear hr ho)
              have hnn := hn1
              have HB3 := Lib.hid (H2.out.next ((Below.refl _ w2).alloc (Nat.le_refl _) (.cells #[.int .i64 (z + y)] 3)))
              have HR3 := Lib.hid (show (w2.alloc (.cells #[.int .i64 (z + y)] 3)).ownsRow w.heap.size 3 1 (.slice A' i c') i (ci .i64 acc) by have h := HB3.out.row; rw [HAL.out] at h; exact h)
              have HBs := Lib.hid HB3.out.r.onl.size
              go_wp2_with (at_builtin; go_must (refine wpList_append_own _ rfl (.tmp 63) (.tmp 65) 37 rfl w.heap.size 3 i3 _ 1 8 Try.underlying37 H3.out.1 H3.out.2.1 H3.out.2.2.1 H3.out.2.2.2 rfl (by decide) (.slice A' i c') i (ci .i64 acc) rfl HR3.out ⟨w2.heap.size, 0, none⟩ 1 1 [.int .i64 (z + y)] rfl rfl (cells_new _ _ _) (by intro u hu; simp at hu; subst hu; rfl) (by unfold maxLen; omega) (by omega) HBs.out ?_); intro v' w7 hown' hg' _; obtain ⟨A7, c7, rfl⟩ := own_form hown'; have H7 := Lib.hid (HB3.out.push (by decide) (x := z + y) (by rw [HAL.out]; exact hown') hg'); clear hown' hg')
              exact ⟨⟨i + 1, acc ++ [z + y], _, z + y, A7, c7, by simp, by omega, rfl, rfl, HX.out.2, by rw [List.length_append, HAL.out]; rfl, HX.out.1, H7.out⟩, by simp [intOf]; omega⟩
            · rw [if_neg c3] at hR3
              have HX := Lib.hid (fun w' ho => HE.out 2 _ w' hR3.symm (by decide) ho)
              clear hS hR3 c2 hy
              by_cases c4 : z + y < -32767
              · clear c3
                go_wp2_with (go_at_call 46; (with_reducible refine (CS.out _ HS1.out).mono ?_); rintro e w2 ⟨rfl, hr, ho⟩; have H2 := Lib.hid (HS1.out.read hr ho HA1.out); obtain ⟨_, _, bb, _, _⟩ := hr.facts; clear hr ho)
                go_ret2
                exact HX.out _ H2.out.r.onl
              · have c5 : 32767 < z + y := by have := HOK.out (z + y); have h2 := mt this.2 c3; omega
                clear c3
                go_wp2_with (go_at_call 46; (with_reducible refine (CS.out _ HS1.out).mono ?_); rintro e w2 ⟨rfl, hr, ho⟩; have H2 := Lib.hid (HS1.out.read hr ho HA1.out); obtain ⟨_, _, bb, _, _⟩ := hr.facts; clear hr ho)
                go_ret2
                exact HX.out _ H2.out.r.onl
        · have hR3 : (if s.size < a + 0 then ((3, [], 0) : Int × List Int × Nat) else if okU (z + 0) then unts s.data.toList sh sm (fl.drop (i + 1)) (acc ++ [z + 0]) (a + 0) (z + 0) else (2, [], 0)) = R := hR2
          clear hR2
          rw [if_neg (by omega)] at hR3
          rw [Int.add_zero] at hR3
          by_cases c3 : okU (z)
          · rw [if_pos c3] at hR3
            have HX := Lib.hid (And.intro hR3 c3)
            obtain ⟨c4, c5⟩ := c3
            obtain ⟨_, _, bb, _, _⟩ := hS.r.rd.facts
            clear hS hR3
            go_upto_region 18 with fail
            have hnn := hn1
            have HB3 := Lib.hid (HS1.out.next ((Below.refl _ wr).alloc (Nat.le_refl _) (.cells #[.int .i64 (z)] 3)))
            have HR3 := Lib.hid (show (wr.alloc (.cells #[.int .i64 (z)] 3)).ownsRow w.heap.size 3 1 (.slice A' i c') i (ci .i64 acc) by have h := HB3.out.row; rw [HAL.out] at h; exact h)
            have HBs := Lib.hid HB3.out.r.onl.size
            go_wp2_with (at_builtin; go_must (refine wpList_append_own _ rfl (.tmp 63) (.tmp 65) 37 rfl w.heap.size 3 i3 _ 1 8 Try.underlying37 H3.out.1 H3.out.2.1 H3.out.2.2.1 H3.out.2.2.2 rfl (by decide) (.slice A' i c') i (ci .i64 acc) rfl HR3.out ⟨wr.heap.size, 0, none⟩ 1 1 [.int .i64 (z)] rfl rfl (cells_new _ _ _) (by intro u hu; simp at hu; subst hu; rfl) (by unfold maxLen; omega) (by omega) HBs.out ?_); intro v' w7 hown' hg' _; obtain ⟨A7, c7, rfl⟩ := own_form hown'; have H7 := Lib.hid (HB3.out.push (by decide) (x := z) (by rw [HAL.out]; exact hown') hg'); clear hown' hg')
            exact ⟨⟨i + 1, acc ++ [z], _, z, A7, c7, by simp, by omega, rfl, rfl, HX.out.2, by rw [List.length_append, HAL.out]; rfl, HX.out.1, H7.out⟩, by simp [intOf]; omega⟩
          · exact absurd ⟨hz1, hz2⟩ c3
      · cases b2
        · have hR3 : (if s.size < a + 1 then ((3, [], 0) : Int × List Int × Nat) else if okU (z + -(bat s.data.toList a : Int)) then unts s.data.toList sh sm (fl.drop (i + 1)) (acc ++ [z + -(bat s.data.toList a : Int)]) (a + 1) (z + -(bat s.data.toList a : Int)) else (2, [], 0)) = R := hR2
          clear hR2
          by_cases c2 : s.size < a + 1
          · rw [if_pos c2] at hR3
            have CS := Lib.hid (fun W (hw : RwS 90 3 .i64 w W g s a false (.slice A' i c') acc) => num1_out g s a W hw.r.rd HS.out hle c2)
            have HX := Lib.hid (fun w' ho => HE.out 3 _ w' hR3.symm (by decide) ho)
            clear hS hR3 c2 hg1 hg2 hbt
            go_wp2_with (go_at_call 48; (with_reducible refine (CS.out _ HS1.out).mono ?_); rintro e w2 ⟨rfl, hr, ho⟩; have H2 := Lib.hid (HS1.out.read hr ho HS1.out.r.le); obtain ⟨_, _, bb, _, _⟩ := hr.facts; clear hr ho)
            go_ret2
            exact HX.out _ H2.out.r.onl
          · rw [if_neg c2] at hR3
            have CS := Lib.hid (fun W (hw : RwS 90 3 .i64 w W g s a false (.slice A' i c') acc) => num1_in g s a W hw.r.rd HS.out (by omega))
            obtain ⟨y, hy⟩ : ∃ y, y = bat s.data.toList a := ⟨_, rfl⟩
            rw [← hy] at CS hR3 hbt
            rw [show z + -(y : Int) = z - (y : Int) by omega] at hR3
            have HA1 := Lib.hid (show a + 1 ≤ s.size by omega)
            by_cases c3 : okU (z - (y : Int))
            · rw [if_pos c3] at hR3
              have HX := Lib.hid (And.intro hR3 c3)
              obtain ⟨c4, c5⟩ := c3
              clear hS hR3 c2 hy
              go_upto_region 18 with (go_at_call 48; (with_reducible refine (CS.out _ HS1.out).mono ?_); rintro e w2 ⟨rfl, hr, ho⟩; have H2 := Lib.hid (HS1.out.read hr ho HA1.out); obtain ⟨_, _, bb, _, _⟩ := hr.facts; clear hr ho)
              have hnn := hn1
              have HB3 := Lib.hid (H2.out.next ((Below.refl _ w2).alloc (Nat.le_refl _) (.cells #[.int .i64 (z - (y : Int))] 3)))
              have HR3 := Lib.hid (show (w2.alloc (.cells #[.int .i64 (z - (y : Int))] 3)).ownsRow w.heap.size 3 1 (.slice A' i c') i (ci .i64 acc) by have h := HB3.out.row; rw [HAL.out] at h; exact h)
              have HBs := Lib.hid HB3.out.r.onl.size
              go_wp2_with (at_builtin; go_must (refine wpList_append_own _ rfl (.tmp 63) (.tmp 65) 37 rfl w.heap.size 3 i3 _ 1 8 Try.underlying37 H3.out.1 H3.out.2.1 H3.out.2.2.1 H3.out.2.2.2 rfl (by decide) (.slice A' i c') i (ci .i64 acc) rfl HR3.out ⟨w2.heap.size, 0, none⟩ 1 1 [.int .i64 (z - (y : Int))] rfl rfl (cells_new _ _ _) (by intro u hu; simp at hu; subst hu; rfl) (by unfold maxLen; omega) (by omega) HBs.out ?_); intro v' w7 hown' hg' _; obtain ⟨A7, c7, rfl⟩ := own_form hown'; have H7 := Lib.hid (HB3.out.push (by decide) (x := z - (y : Int)) (by rw [HAL.out]; exact hown') hg'); clear hown' hg')
              exact ⟨⟨i + 1, acc ++ [z - (y : Int)], _, z - (y : Int), A7, c7, by simp, by omega, rfl, rfl, HX.out.2, by rw [List.length_append, HAL.out]; rfl, HX.out.1, H7.out⟩, by simp [intOf]; omega⟩
            · rw [if_neg c3] at hR3
              have HX := Lib.hid (fun w' ho => HE.out 2 _ w' hR3.symm (by decide) ho)
              clear hS hR3 c2 hy
              by_cases c4 : z - (y : Int) < -32767
              · clear c3
                go_wp2_with (go_at_call 48; (with_reducible refine (CS.out _ HS1.out).mono ?_); rintro e w2 ⟨rfl, hr, ho⟩; have H2 := Lib.hid (HS1.out.read hr ho HA1.out); obtain ⟨_, _, bb, _, _⟩ := hr.facts; clear hr ho)
                go_ret2
                exact HX.out _ H2.out.r.onl
              · have c5 : 32767 < z - (y : Int) := by have := HOK.out (z - (y : Int)); have h2 := mt this.2 c3; omega
                exfalso; omega
        · have hR3 : (if s.size < a + 1 then ((3, [], 0) : Int × List Int × Nat) else if okU (z + (bat s.data.toList a : Int)) then unts s.data.toList sh sm (fl.drop (i + 1)) (acc ++ [z + (bat s.data.toList a : Int)]) (a + 1) (z + (bat s.data.toList a : Int)) else (2, [], 0)) = R := hR2
          clear hR2
          by_cases c2 : s.size < a + 1
          · rw [if_pos c2] at hR3
            have CS := Lib.hid (fun W (hw : RwS 90 3 .i64 w W g s a false (.slice A' i c') acc) => num1_out g s a W hw.r.rd HS.out hle c2)
            have HX := Lib.hid (fun w' ho => HE.out 3 _ w' hR3.symm (by decide) ho)
            clear hS hR3 c2 hg1 hg2 hbt
            go_wp2_with (go_at_call 48; (with_reducible refine (CS.out _ HS1.out).mono ?_); rintro e w2 ⟨rfl, hr, ho⟩; have H2 := Lib.hid (HS1.out.read hr ho HS1.out.r.le); obtain ⟨_, _, bb, _, _⟩ := hr.facts; clear hr ho)
            go_ret2
            exact HX.out _ H2.out.r.onl
          · rw [if_neg c2] at hR3
            have CS := Lib.hid (fun W (hw : RwS 90 3 .i64 w W g s a false (.slice A' i c') acc) => num1_in g s a W hw.r.rd HS.out (by omega))
            obtain ⟨y, hy⟩ : ∃ y, y = bat s.data.toList a := ⟨_, rfl⟩
            rw [← hy] at CS hR3 hbt
            have HA1 := Lib.hid (show a + 1 ≤ s.size by omega)
            by_cases c3 : okU (z + (y : Int))
            · rw [if_pos c3] at hR3
              have HX := Lib.hid (And.intro hR3 c3)
              obtain ⟨c4, c5⟩ := c3
              clear hS hR3 c2 hy
              go_upto_region 18 with (go_at_call 48; (with_reducible refine (CS.out _ HS1.out).mono ?_); rintro e w2 ⟨rfl, hr, ho⟩; have H2 := Lib.hid (HS1.out.read hr ho HA1.out); obtain ⟨_, _, bb, _, _⟩ := hr.facts; clear hr ho)
              have hnn := hn1
              have HB3 := Lib.hid (H2.out.next ((Below.refl _ w2).alloc (Nat.le_refl _) (.cells #[.int .i64 (z + (y : Int))] 3)))
              have HR3 := Lib.hid (show (w2.alloc (.cells #[.int .i64 (z + (y : Int))] 3)).ownsRow w.heap.size 3 1 (.slice A' i c') i (ci .i64 acc) by have h := HB3.out.row; rw [HAL.out] at h; exact h)
              have HBs := Lib.hid HB3.out.r.onl.size
              go_wp2_with (at_builtin; go_must (refine wpList_append_own _ rfl (.tmp 63) (.tmp 65) 37 rfl w.heap.size 3 i3 _ 1 8 Try.underlying37 H3.out.1 H3.out.2.1 H3.out.2.2.1 H3.out.2.2.2 rfl (by decide) (.slice A' i c') i (ci .i64 acc) rfl HR3.out ⟨w2.heap.size, 0, none⟩ 1 1 [.int .i64 (z + (y : Int))] rfl rfl (cells_new _ _ _) (by intro u hu; simp at hu; subst hu; rfl) (by unfold maxLen; omega) (by omega) HBs.out ?_); intro v' w7 hown' hg' _; obtain ⟨A7, c7, rfl⟩ := own_form hown'; have H7 := Lib.hid (HB3.out.push (by decide) (x := z + (y : Int)) (by rw [HAL.out]; exact hown') hg'); clear hown' hg')
              exact ⟨⟨i + 1, acc ++ [z + (y : Int)], _, z + (y : Int), A7, c7, by simp, by omega, rfl, rfl, HX.out.2, by rw [List.length_append, HAL.out]; rfl, HX.out.1, H7.out⟩, by simp [intOf]; omega⟩
            · rw [if_neg c3] at hR3
              have HX := Lib.hid (fun w' ho => HE.out 2 _ w' hR3.symm (by decide) ho)
              clear hS hR3 c2 hy
              by_cases c4 : z + (y : Int) < -32767
              · exfalso; omega
              · have c5 : 32767 < z + (y : Int) := by have := HOK.out (z + (y : Int)); have h2 := mt this.2 c3; omega
                clear c3
                go_wp2_with (go_at_call 48; (with_reducible refine (CS.out _ HS1.out).mono ?_); rintro e w2 ⟨rfl, hr, ho⟩; have H2 := Lib.hid (HS1.out.read hr ho HA1.out); obtain ⟨_, _, bb, _, _⟩ := hr.facts; clear hr ho)
                go_ret2
                exact HX.out _ H2.out.r.onl
    · have hin : i = n := by omega
      subst hin
      have hx : unts s.data.toList sh sm (fl.drop i) acc a z = (0, acc, a) := by rw [List.drop_eq_nil_of_le (by rw [HLn.out]; omega)]; rfl
      have HX := Lib.hid (HF.out acc a A' c' wr (hR.symm.trans hx) hal hS)
      clear hS hal hR hx hle
      go_wp2_with fail
      go_ret2
      exact HX.out
end Go.Proofs.Ytlfnagfcggmeaaa
namespace Go.Proofs.Ytlfnagfcggmeaaa
open Go.RowKit

/-- A row of points, if it is anywhere. -/
def T39 (W : World) (B : Option Addr) : Prop := ∀ ad, B = some ad → ∃ cs fr, W.heap[ad.block]? = some (.cells cs 46 fr)
/-- k contours, each in a row of its own. -/
structure Fo (W : World) (k : Nat) (C : Nat → List Pt) (cs : List Value) : Prop where
  len : cs.length = k
  get : ∀ i, i < k → ∃ B c, cs[i]? = some (.slice B (C i).length c) ∧ Ptl W B (C i).length (C i) ∧ T39 W B
section
variable {W W' : World} {k : Nat} {C : Nat → List Pt} {cs : List Value}
theorem T39.next {B : Option Addr} (h : T39 W B) (hb : Below W.heap.size W W') : T39 W' B := fun ad e => by
  obtain ⟨c, fr, h1⟩ := h ad e
  exact ⟨c, fr, (hb.block _ (heap_lt h1)).trans h1⟩
theorem T39.grown {B : Option Addr} {base n : Nat} {v : Value} {xs : List Value} (h : T39 W B) (ho : W.ownsRow base 47 1 v n xs) (hg : W.grownBy W' v.ownBlock) : T39 W' B := fun ad e => by
  obtain ⟨c, fr, h1⟩ := h ad e
  exact ⟨c, fr, (hg.block _ (heap_lt h1) (own_not ho h1 (by decide))).trans h1⟩
theorem Ptl.grown {B : Option Addr} {m base n : Nat} {P : List Pt} {v : Value} {xs : List Value} (h : Ptl W B m P) (ht : T39 W B) (ho : W.ownsRow base 47 1 v n xs) (hg : W.grownBy W' v.ownBlock) : Ptl W' B m P :=
  ⟨h.len, fun i hi => by
    obtain ⟨ad, h1, h2, h3, h4, h5⟩ := h.get i hi
    obtain ⟨c, fr, h6⟩ := ht ad h1
    have hb : ∀ j, W'.cell? (ad.add j) = W.cell? (ad.add j) := fun j => World.cell?_of_block (by rw [block_of_add]; exact hg.block _ h2 (own_not ho h6 (by decide)))
    exact ⟨ad, h1, Nat.lt_of_lt_of_le h2 hg.size, by rw [hb]; exact h3, by rw [hb]; exact h4, by rw [hb]; exact h5⟩⟩
theorem Fo.next (f : Fo W k C cs) (hb : Below W.heap.size W W') : Fo W' k C cs := ⟨f.len, fun i hi => by
  obtain ⟨B, c, h1, h2, h3⟩ := f.get i hi
  exact ⟨B, c, h1, h2.bel hb, h3.next hb⟩⟩
theorem Fo.grown {base n : Nat} {v : Value} {xs : List Value} (f : Fo W k C cs) (ho : W.ownsRow base 47 1 v n xs) (hg : W.grownBy W' v.ownBlock) : Fo W' k C cs := ⟨f.len, fun i hi => by
  obtain ⟨B, c, h1, h2, h3⟩ := f.get i hi
  exact ⟨B, c, h1, h2.grown h3 ho hg, h3.grown ho hg⟩⟩
theorem Fo.snoc (f : Fo W k C cs) {B : Option Addr} {c d : Nat} (hd : (C k).length = d) (hp : Ptl W B d (C k)) (ht : T39 W B) : Fo W (k + 1) C (cs ++ [.slice B d c]) := by
  refine ⟨by rw [List.length_append, f.len]; rfl, fun i hi => ?_⟩
  rcases Nat.lt_or_ge i k with h | h
  · obtain ⟨B', c', h1, h2, h3⟩ := f.get i h
    exact ⟨B', c', by rw [List.getElem?_append_left (by rw [f.len]; exact h)]; exact h1, h2, h3⟩
  · have : i = k := by omega
    subst this
    exact ⟨B, c, by rw [List.getElem?_append_right (by rw [f.len]; exact Nat.le_refl _), f.len, Nat.sub_self, hd]; rfl, by rw [hd]; exact hp, ht⟩
end
theorem own_t39 {w : World} {base size n c : Nat} {A : Option Addr} {xs : List Value} (h : w.ownsRow base 46 size (.slice A n c) n xs) : T39 w A := by
  intro ad hA
  subst hA
  rcases h.2 with ⟨h1, h2⟩ | ⟨j, cap, cur, h1, h3, h4, h5⟩
  · injection h1 with e1; cases e1
  · injection h1 with e1 e2 e3
    injection e1 with e1
    rw [e1]
    exact ⟨cur, _, h4⟩
/-- The contours so far. -/
structure OuS (w W : World) (v : Value) (i : Nat) (C : Nat → List Pt) (cs : List Value) : Prop where
  bel : Below w.heap.size w W
  own : W.ownsRow w.heap.size 47 1 v i cs
  fo : Fo W i C cs
section
variable {w W W' : World} {v : Value} {i : Nat} {C : Nat → List Pt} {cs : List Value}
theorem OuS.start (w : World) (C : Nat → List Pt) : OuS w w (.slice none 0 0) 0 C [] := ⟨Below.refl _ _, World.ownsRow_nil _ _ _ _, ⟨rfl, fun i hi => by omega⟩⟩
theorem OuS.next (h : OuS w W v i C cs) (hb : Below W.heap.size W W') : OuS w W' v i C cs := ⟨h.bel.trans (hb.mono h.bel.size), own_bel h.own hb, h.fo.next hb⟩
theorem OuS.push (h : OuS w W v i C cs) {v' : Value} {B : Option Addr} {c d : Nat} (hd : (C i).length = d) (hp : Ptl W B d (C i)) (ht : T39 W B) (ho : W'.ownsRow w.heap.size 47 1 v' (i + 1) (cs ++ [.slice B d c])) (hg : W.grownBy W' v.ownBlock) : OuS w W' v' (i + 1) C (cs ++ [.slice B d c]) :=
  ⟨below_grown h.bel h.own hg, ho, (h.fo.grown h.own hg).snoc hd (hp.grown ht h.own hg) (ht.grown h.own hg)⟩
theorem OuS.ctl {A : Option Addr} {c : Nat} (h : OuS w W (.slice A i c) i C cs) : Ctl W A i ((List.range i).map C) :=
  ⟨by simp, fun j hj => by
    obtain ⟨ad, h1, h2, h3⟩ := own_cell h.own (by omega)
    obtain ⟨B, c', h4, h5, _⟩ := h.fo.get j hj
    rw [ct_gen hj]
    exact ⟨ad, B, c', h1, h2, h3 _ _ h4, h5⟩⟩
end
/-- The points of a contour so far. -/
structure RpS (w W : World) (v : Value) (n : Nat) (R : List Pt) : Prop where
  bel : Below w.heap.size w W
  own : W.ownsRow w.heap.size 46 3 v n (ptC R)
section
variable {w W W' : World} {v : Value} {n : Nat} {R : List Pt}
theorem RpS.start (w : World) : RpS w w (.slice none 0 0) 0 [] := ⟨Below.refl _ _, World.ownsRow_nil _ _ _ _⟩
theorem RpS.next (h : RpS w W v n R) (hb : Below W.heap.size W W') : RpS w W' v n R := ⟨h.bel.trans (hb.mono h.bel.size), own_bel h.own hb⟩
theorem RpS.push (h : RpS w W v n R) {v' : Value} {e : Pt} (ho : W'.ownsRow w.heap.size 46 3 v' (n + 1) (ptC R ++ [.int .i64 e.1, .int .i64 e.2.1, .bool e.2.2])) (hg : W.grownBy W' v.ownBlock) : RpS w W' v' (n + 1) (R ++ [e]) :=
  ⟨below_grown h.bel h.own hg, by rw [ptC_snoc]; exact ho⟩
end
/-- A point is appended, at a step of a region that draws its order. -/
theorem step_pt0 {ops : Array Oper} {o : Oper} {a : Act} {K : Act → World → Prop} {Q : Exit → Act → World → Prop} {E0 : Prop} {wr : World} (hgd : o.guard = none) (s x : Operand)
    (ho : o.op = .call { callee := .builtin .append, args := #[s, x], argTypes := #[47, 47] }) (w : World) (v : Value) (n : Nat) (R : List Pt) (e1 e2 : Int) (e3 : Bool) (hs : a.eval s = v)
    (hown : RpS w wr v n R) (hn : n ≤ 1000000) (hx : a.eval x = .slice (some ⟨wr.heap.size, 0, none⟩) 1 1)
    (h : ∀ A c w', RpS w w' (.slice A (n + 1) c) (n + 1) (R ++ [(e1, e2, e3)]) → K (a.put o.dst (.slice A (n + 1) c)) w') :
    if Region.wanted o (yielded ops a.tmps) = true then Oper.wp Try.prog o a (wr.alloc (.cells #[.int .i64 e1, .int .i64 e2, .bool e3] 46)) K Q else E0 := by
  have hw : Region.wanted o (yielded ops a.tmps) = true := by simp [Region.wanted, hgd]
  rw [if_pos hw]
  obtain ⟨i0, hi0, hz0, hz1, hz2⟩ := info_parts Try.info46
  have hA := hown.next ((Below.refl wr.heap.size wr).alloc (Nat.le_refl _) (.cells #[.int .i64 e1, .int .i64 e2, .bool e3] 46))
  refine wp_append_own _ s x 47 ho w.heap.size 46 i0 _ 3 24 Try.underlying47 hi0 hz0 hz1 hz2 rfl (by decide) v n (ptC R) hs hA.own ⟨wr.heap.size, 0, none⟩ 1 1 [.int .i64 e1, .int .i64 e2, .bool e3] hx rfl (cells_new _ _ _) (by intro u hu; simp at hu; rcases hu with rfl | rfl | rfl <;> rfl) ?_ ?_ ?_ ?_
  · unfold maxLen; omega
  · omega
  · exact hA.bel.size
  · intro v' w' h1 h2 _
    have h3 := hA.push (e := (e1, e2, e3)) h1 h2
    obtain ⟨A, c, rfl⟩ := own_form h1
    exact h A c w' h3
theorem step_pt {ops : Array Oper} {o : Oper} {a : Act} {K : Act → World → Prop} {Q : Exit → Act → World → Prop} {E0 : Prop} {wr : World} (hgd : o.guard = none) (s x : Operand)
    (ho : o.op = .call { callee := .builtin .append, args := #[s, x], argTypes := #[47, 47] }) (w : World) (v : Value) (n : Nat) (R : List Pt) (e1 e2 : Int) (e3 : Bool) (hs : a.eval s = v)
    (hown : RpS w wr v n R) (hn : n ≤ 1000000) (hx : a.eval x = .slice (some ⟨wr.heap.size, 0, none⟩) 1 1)
    (h : ∀ A c w', RpS w w' (.slice A (n + 1) c) (n + 1) (R ++ [(e1, e2, e3)]) → K (a.put o.dst (.slice A (n + 1) c)) w') :
    if Region.wanted o (yielded ops a.tmps) = true then Oper.wp Try.prog o a (wr.alloc (.cells #[.int .i64 e1, .int .i64 e2, .bool e3] 46)).drew K Q else E0 :=
  step_pt0 (wr := wr.drew) hgd s x ho w v n R e1 e2 e3 hs (hown.next (Below.drew (Below.refl _ _))) hn hx h
end Go.Proofs.Ytlfnagfcggmeaaa
