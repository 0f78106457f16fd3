/- Proved here: what Places answers, in the document; both joined. Condition: a text of at most a billion bytes. -/
import Derived.Test.YtibbgmahdiphpaaMd
namespace Go.Proofs.Ytibbgmahdiphpaa
open Go.RowKit

theorem rplaces_no (h : Hd) (s : ByteArray) (z : Int) (w : World) (hm : ¬ MayP h) : Calls Try.prog 11 #[.agg #[.int .i64 h.em, .bool h.lg, .int .i64 h.gl, .int .i64 h.me, .int .i64 h.a1, .int .i64 h.a2, .int .i64 h.a3], .string s, .int .i64 z] w (LsE (PlE h s.data.toList z) (PlL h s.data.toList z) w) := by
  have hE : PlE h s.data.toList z = 1 := by unfold PlE; rw [if_neg hm]
  have cm := fun W => rmay_any h W
  rw [decide_eq_false hm] at cm
  have CM := Lib.hid cm
  have S := Lib.hid (MS.start w h)
  have HP := Lib.hid (fun w' (hb : Below w.heap.size w w') => lsE_err hE (show PlL h s.data.toList z = [] by unfold PlL; rw [hE]; rfl) hb)
  obtain ⟨f0, f1, f2, f3, f4, f5, f6⟩ := S.out.cells
  clear cm hm hE
  go_enter Try.func11, Try.ntmps11
  go_wp2_with (go_at_call 19; (with_reducible refine (CM.out _).mono ?_); rintro e w1 ⟨rfl, hb⟩; have S := Lib.hid (S.out.next hb); clear hb)
  go_ret2
  exact HP.out _ S.out.bel
set_option maxHeartbeats 1000000 in
theorem rplaces_short_false (em : Int) (G M : Nat) (a1 a2 a3 : Int) (s : ByteArray) (z : Int) (w : World) (hm : MayP ⟨em, false, G, M, a1, a2, a3⟩) (hl : s.size < (G + 1) * eaN false) :
    Calls Try.prog 11 #[.agg #[.int .i64 em, .bool false, .int .i64 (G : Int), .int .i64 (M : Int), .int .i64 a1, .int .i64 a2, .int .i64 a3], .string s, .int .i64 z] w (LsE (PlE ⟨em, false, G, M, a1, a2, a3⟩ s.data.toList z) (PlL ⟨em, false, G, M, a1, a2, a3⟩ s.data.toList z) w) := by
  obtain ⟨_, ⟨b1, b2⟩, ⟨b3, b4⟩, _⟩ := id hm
  simp only at b1 b2 b3 b4
  have hE : PlE ⟨em, false, G, M, a1, a2, a3⟩ s.data.toList z = 3 := by unfold PlE; rw [if_pos hm, size_list, if_pos (by simpa using hl)]
  have cm := fun W => rmay_any ⟨em, false, G, M, a1, a2, a3⟩ W
  rw [decide_eq_true hm] at cm
  have CM := Lib.hid cm
  have S := Lib.hid (MS.start w ⟨em, false, G, M, a1, a2, a3⟩)
  have hG : G ≤ 1024 := by omega
  have hT1 := ea_le false G hG
  have e1 : IntKind.i64.wrap ((G : Int) + 1) = ((G + 1 : Nat) : Int) := by rw [i64_in _ (by omega)]; omega
  have HP := Lib.hid (fun w' (hb : Below w.heap.size w w') => lsE_err hE (show PlL ⟨em, false, G, M, a1, a2, a3⟩ s.data.toList z = [] by unfold PlL; rw [hE]; rfl) hb)
  have hl2 : s.size < 2 * (G + 1) := by rw [Nat.mul_comm]; exact hl
  obtain ⟨N, hN⟩ : ∃ N, N = G + 1 := ⟨_, rfl⟩
  rw [← hN] at e1 hl2
  have e2 : IntKind.i64.wrap (2 * (N : Int)) = ((2 * N : Nat) : Int) := by rw [i64_in _ (by omega)]; omega
  obtain ⟨T, hT⟩ : ∃ T, T = 2 * N := ⟨_, rfl⟩
  rw [← hT] at e2 hl2
  clear cm hm hE hT hN hl hT1 b1 b2 b3 b4
  go_enter Try.func11, Try.ntmps11
  go_upto_region 1 with fail
  obtain ⟨b, hb⟩ : ∃ b, b = w.heap.size := ⟨_, rfl⟩
  obtain ⟨W0, hW0⟩ : ∃ W, W = w.alloc (.cells #[.int .i64 em, .bool false, .int .i64 (G : Int), .int .i64 (M : Int), .int .i64 a1, .int .i64 a2, .int .i64 a3] 23) := ⟨_, rfl⟩
  rw [← hW0] at S ⊢
  rw [← hb] at S ⊢
  obtain ⟨f0, f1, f2, f3, f4, f5, f6⟩ := S.out.cells
  clear hb hW0
  go_wp2_with (go_at_call 19; (with_reducible refine (CM.out _).mono ?_); rintro e w1 ⟨rfl, hbl⟩; have S := Lib.hid (S.out.next hbl); clear hbl f0 f1 f2 f3 f4 f5 f6; obtain ⟨f0, f1, f2, f3, f4, f5, f6⟩ := S.out.cells)
  go_ret2
  exact HP.out _ S.out.bel
set_option maxHeartbeats 2000000 in
theorem rplaces_ok_false (em : Int) (G M : Nat) (a1 a2 a3 : Int) (s : ByteArray) (z : Int) (w : World) (hm : MayP ⟨em, false, G, M, a1, a2, a3⟩) (hs : s.size ≤ 1000000000) (hl : (G + 1) * eaN false ≤ s.size) :
    Calls Try.prog 11 #[.agg #[.int .i64 em, .bool false, .int .i64 (G : Int), .int .i64 (M : Int), .int .i64 a1, .int .i64 a2, .int .i64 a3], .string s, .int .i64 z] w (LsE (PlE ⟨em, false, G, M, a1, a2, a3⟩ s.data.toList z) (PlL ⟨em, false, G, M, a1, a2, a3⟩ s.data.toList z) w) := by
  obtain ⟨_, ⟨b1, b2⟩, ⟨b3, b4⟩, _⟩ := id hm
  simp only at b1 b2 b3 b4
  have cm := fun W => rmay_any ⟨em, false, G, M, a1, a2, a3⟩ W
  rw [decide_eq_true hm] at cm
  have CM := Lib.hid cm
  have S := Lib.hid (MS.start w ⟨em, false, G, M, a1, a2, a3⟩)
  have hG : G ≤ 1024 := by omega
  have hT1 := ea_le false G hG
  have e1 : IntKind.i64.wrap ((G : Int) + 1) = ((G + 1 : Nat) : Int) := by rw [i64_in _ (by omega)]; omega
  have HG := Lib.hid (fun N (hN : N = G + 1) (h : okUp false s.data.toList z N) => plE_good hN hm hl h)
  have HB := Lib.hid (fun N k (hN : N = G + 1) (hk : k < N) h => plE_bad (z := z) (k := k) hN hm hl hk h)
  have HI := Lib.hid (show ∀ k, k < G + 1 → ∃ j n p : Nat, IntKind.i64.wrap (2 * (k : Int)) = (j : Int) ∧ IntKind.i64.wrap (n : Int) = (n : Int) ∧ IntKind.i64.wrap (2 * (n : Int)) = (p : Int) ∧ plN false s.data.toList k = p ∧ ∀ W, Calls Try.prog 20 #[.string s, .int .i64 (j : Int)] W fun e w' => e = .returned (.tuple #[.int .u16 (n : Int), .int .i64 0]) ∧ W = w' by
    intro k hk
    simp only [eaN, Bool.false_eq_true, if_false] at hl
    have := n2_lt s.data.toList (2 * k)
    exact ⟨2 * k, n2 s.data.toList (2 * k), 2 * n2 s.data.toList (2 * k), by rw [i64_in _ (by omega)]; omega, i64_in _ (by omega), by rw [i64_in _ (by omega)]; omega, rfl, fun W => ru16_in s _ _ rfl W hs (by omega)⟩)
  have hl2 : 2 * (G + 1) ≤ s.size := by rw [Nat.mul_comm]; exact hl
  obtain ⟨N, hN⟩ : ∃ N, N = G + 1 := ⟨_, rfl⟩
  rw [← hN] at e1 hl2 HI
  have HG := Lib.hid (HG.out N hN)
  have HB := Lib.hid (fun k => HB.out N k hN)
  have e2 : IntKind.i64.wrap (2 * (N : Int)) = ((2 * N : Nat) : Int) := by rw [i64_in _ (by omega)]; omega
  obtain ⟨T, hT⟩ : ∃ T, T = 2 * N := ⟨_, rfl⟩
  rw [← hT] at e2 hl2
  have hlt : ¬ s.size < T := by omega
  have HN := Lib.hid hN
  obtain ⟨i3, hi0, hz0, hz1, hz2⟩ := info_parts Try.info3
  have H3 := Lib.hid (show Try.prog.info? 3 = some i3 ∧ i3.zero = some (.int .i64 0) ∧ i3.size = 1 ∧ i3.bytes = 8 from ⟨hi0, hz0, hz1, hz2⟩)
  obtain ⟨f, hf⟩ : ∃ f : Nat → Int, f = fun i => (plN false s.data.toList i : Int) := ⟨_, rfl⟩
  have HFF := Lib.hid (show ∀ i, f i = (plN false s.data.toList i : Int) from fun i => by rw [hf])
  rw [← hf] at HG
  clear cm hm hT hN hl hl2 hT1 b1 b2 b3 b4 hs hf hi0 hz0 hz1 hz2
  go_enter Try.func11, Try.ntmps11
  go_upto_region 1 with fail
  obtain ⟨b, hb⟩ : ∃ b, b = w.heap.size := ⟨_, rfl⟩
  obtain ⟨W0, hW0⟩ : ∃ W, W = w.alloc (.cells #[.int .i64 em, .bool false, .int .i64 (G : Int), .int .i64 (M : Int), .int .i64 a1, .int .i64 a2, .int .i64 a3] 23) := ⟨_, rfl⟩
  rw [← hW0] at S ⊢
  rw [← hb] at S ⊢
  obtain ⟨f0, f1, f2, f3, f4, f5, f6⟩ := S.out.cells
  clear hb hW0
  go_upto_region 8 with (go_at_call 19; (with_reducible refine (CM.out _).mono ?_); rintro e w1 ⟨rfl, hbl⟩; have S := Lib.hid (S.out.next hbl); clear hbl f0 f1 f2 f3 f4 f5 f6; obtain ⟨f0, f1, f2, f3, f4, f5, f6⟩ := S.out.cells)
  have HF := Lib.hid (GS.start S.out)
  clear f0 f1 f2 f3 f4 f5 f6 S hlt e1 e2 CM
  go_wp2_with fail
  go_loopw [9, 10, 11] (fun v u i wr => ∃ k : Nat, ∃ A c, v = .slice A k c ∧ u = .int .i64 (plA false s.data.toList k : Int) ∧ i = .int .i64 (k : Int) ∧ k ≤ G + 1 ∧ okUp false s.data.toList z k ∧ GS w wr b ⟨em, false, G, M, a1, a2, a3⟩ (.slice A k c) k (gen k f)) (fun _ _ i _ => G + 1 - (intOf i).toNat)
  case atStart => exact ⟨0, none, 0, rfl, rfl, rfl, Nat.zero_le _, okUp_zero _ _ _, HF.out⟩
  case round =>
    obtain ⟨k, A, c, rfl, rfl, rfl, hk, hok, hF⟩ := hrel
    have HF := Lib.hid hF
    have HOK := Lib.hid hok
    obtain ⟨f0, f1, f2, f3, f4, f5, f6⟩ := hF.ms.cells
    by_cases hgo : k ≤ G
    · obtain ⟨j, n, p, e1, e2, e3, hp, hc⟩ := HI.out k (by rw [HN.out]; omega)
      have HC := Lib.hid hc
      have HBK := Lib.hid (HB.out k (by rw [HN.out]; omega))
      have HSU := Lib.hid (fun h1 h2 => okUp_succ HOK.out h1 h2)
      have HNX := Lib.hid (show plA false s.data.toList (k + 1) = plN false s.data.toList k from rfl)
      have HFK := Lib.hid (HFF.out k)
      obtain ⟨q, hq⟩ : ∃ q, q = plA false s.data.toList k := ⟨_, rfl⟩
      rw [hp] at HBK HSU HNX HFK
      rw [← hq] at HBK HSU ⊢
      clear hF hok hp hq hc
      by_cases hpq : p < q
      · have HX := Lib.hid (HBK.out (by omega))
        go_wp2_with (go_at_call 20; (with_reducible refine (HC.out _).mono ?_); rintro e w2 ⟨rfl, rfl⟩)
        go_ret2
        exact lsE_err HX.out.1 HX.out.2 HF.out.ms.bel
      · by_cases hpz : z < (p : Int)
        · have HX := Lib.hid (HBK.out (by omega))
          go_wp2_with (go_at_call 20; (with_reducible refine (HC.out _).mono ?_); rintro e w2 ⟨rfl, rfl⟩)
          go_ret2
          exact lsE_err HX.out.1 HX.out.2 HF.out.ms.bel
        · have HX := Lib.hid (HSU.out (by omega) (by omega))
          go_upto_region 22 with (go_at_call 20; (with_reducible refine (HC.out _).mono ?_); rintro e w2 ⟨rfl, rfl⟩)
          have H6 := Lib.hid (HF.out.next ((Below.refl _ wr).alloc (Nat.le_refl _) (.cells #[.int .i64 (p : Int)] 3)))
          go_wp2_with (at_builtin; go_must (refine wpList_append_own _ rfl (.tmp 66) (.tmp 68) 26 rfl w.heap.size 3 i3 _ 1 8 Try.underlying26 H3.out.1 H3.out.2.1 H3.out.2.2.1 H3.out.2.2.2 rfl (by decide) (.slice A k c) k (ci (gen k f)) rfl H6.out.own ⟨wr.heap.size, 0, none⟩ 1 1 [.int .i64 (p : Int)] rfl rfl (cells_new _ _ _) (by intro u hu; simp at hu; subst hu; rfl) (by unfold maxLen; omega) (by omega) (by have := HF.out.ms.bel.size; simp; omega) ?_); intro v' w7 hown' hg' _; have H7 := Lib.hid (H6.out.push hg' hown'); clear hown' hg')
          obtain ⟨A7, c7, rfl⟩ := own_form H7.out.own
          exact ⟨⟨k + 1, A7, c7, rfl, by rw [HNX.out], by simp, by omega, HX.out, by rw [gen_snoc, HFK.out]; exact H7.out⟩, by simp [intOf]; omega⟩
    · obtain rfl : k = N := by rw [HN.out]; omega
      have HX := Lib.hid (HG.out HOK.out)
      clear hF hok
      go_wp2_with fail
      go_ret2
      exact HF.out.fin (by rw [gen_len]) HX.out.1 HX.out.2
set_option maxHeartbeats 1000000 in
theorem rplaces_short_true (em : Int) (G M : Nat) (a1 a2 a3 : Int) (s : ByteArray) (z : Int) (w : World) (hm : MayP ⟨em, true, G, M, a1, a2, a3⟩) (hl : s.size < (G + 1) * eaN true) :
    Calls Try.prog 11 #[.agg #[.int .i64 em, .bool true, .int .i64 (G : Int), .int .i64 (M : Int), .int .i64 a1, .int .i64 a2, .int .i64 a3], .string s, .int .i64 z] w (LsE (PlE ⟨em, true, G, M, a1, a2, a3⟩ s.data.toList z) (PlL ⟨em, true, G, M, a1, a2, a3⟩ s.data.toList z) w) := by
  obtain ⟨_, ⟨b1, b2⟩, ⟨b3, b4⟩, _⟩ := id hm
  simp only at b1 b2 b3 b4
  have hE : PlE ⟨em, true, G, M, a1, a2, a3⟩ s.data.toList z = 3 := by unfold PlE; rw [if_pos hm, size_list, if_pos (by simpa using hl)]
  have cm := fun W => rmay_any ⟨em, true, G, M, a1, a2, a3⟩ W
  rw [decide_eq_true hm] at cm
  have CM := Lib.hid cm
  have S := Lib.hid (MS.start w ⟨em, true, G, M, a1, a2, a3⟩)
  have hG : G ≤ 1024 := by omega
  have hT1 := ea_le true G hG
  have e1 : IntKind.i64.wrap ((G : Int) + 1) = ((G + 1 : Nat) : Int) := by rw [i64_in _ (by omega)]; omega
  have HP := Lib.hid (fun w' (hb : Below w.heap.size w w') => lsE_err hE (show PlL ⟨em, true, G, M, a1, a2, a3⟩ s.data.toList z = [] by unfold PlL; rw [hE]; rfl) hb)
  have hl2 : s.size < 4 * (G + 1) := by rw [Nat.mul_comm]; exact hl
  obtain ⟨N, hN⟩ : ∃ N, N = G + 1 := ⟨_, rfl⟩
  rw [← hN] at e1 hl2
  have e2 : IntKind.i64.wrap (4 * (N : Int)) = ((4 * N : Nat) : Int) := by rw [i64_in _ (by omega)]; omega
  obtain ⟨T, hT⟩ : ∃ T, T = 4 * N := ⟨_, rfl⟩
  rw [← hT] at e2 hl2
  clear cm hm hE hT hN hl hT1 b1 b2 b3 b4
  go_enter Try.func11, Try.ntmps11
  go_upto_region 1 with fail
  obtain ⟨b, hb⟩ : ∃ b, b = w.heap.size := ⟨_, rfl⟩
  obtain ⟨W0, hW0⟩ : ∃ W, W = w.alloc (.cells #[.int .i64 em, .bool true, .int .i64 (G : Int), .int .i64 (M : Int), .int .i64 a1, .int .i64 a2, .int .i64 a3] 23) := ⟨_, rfl⟩
  rw [← hW0] at S ⊢
  rw [← hb] at S ⊢
  obtain ⟨f0, f1, f2, f3, f4, f5, f6⟩ := S.out.cells
  clear hb hW0
  go_wp2_with (go_at_call 19; (with_reducible refine (CM.out _).mono ?_); rintro e w1 ⟨rfl, hbl⟩; have S := Lib.hid (S.out.next hbl); clear hbl f0 f1 f2 f3 f4 f5 f6; obtain ⟨f0, f1, f2, f3, f4, f5, f6⟩ := S.out.cells)
  go_ret2
  exact HP.out _ S.out.bel
set_option maxHeartbeats 2000000 in
theorem rplaces_ok_true (em : Int) (G M : Nat) (a1 a2 a3 : Int) (s : ByteArray) (z : Int) (w : World) (hm : MayP ⟨em, true, G, M, a1, a2, a3⟩) (hs : s.size ≤ 1000000000) (hl : (G + 1) * eaN true ≤ s.size) :
    Calls Try.prog 11 #[.agg #[.int .i64 em, .bool true, .int .i64 (G : Int), .int .i64 (M : Int), .int .i64 a1, .int .i64 a2, .int .i64 a3], .string s, .int .i64 z] w (LsE (PlE ⟨em, true, G, M, a1, a2, a3⟩ s.data.toList z) (PlL ⟨em, true, G, M, a1, a2, a3⟩ s.data.toList z) w) := by
  obtain ⟨_, ⟨b1, b2⟩, ⟨b3, b4⟩, _⟩ := id hm
  simp only at b1 b2 b3 b4
  have cm := fun W => rmay_any ⟨em, true, G, M, a1, a2, a3⟩ W
  rw [decide_eq_true hm] at cm
  have CM := Lib.hid cm
  have S := Lib.hid (MS.start w ⟨em, true, G, M, a1, a2, a3⟩)
  have hG : G ≤ 1024 := by omega
  have hT1 := ea_le true G hG
  have e1 : IntKind.i64.wrap ((G : Int) + 1) = ((G + 1 : Nat) : Int) := by rw [i64_in _ (by omega)]; omega
  have HG := Lib.hid (fun N (hN : N = G + 1) (h : okUp true s.data.toList z N) => plE_good hN hm hl h)
  have HB := Lib.hid (fun N k (hN : N = G + 1) (hk : k < N) h => plE_bad (z := z) (k := k) hN hm hl hk h)
  have HI := Lib.hid (show ∀ k, k < G + 1 → ∃ j n p : Nat, IntKind.i64.wrap (4 * (k : Int)) = (j : Int) ∧ IntKind.i64.wrap (n : Int) = (p : Int) ∧ IntKind.i64.wrap (n : Int) = (p : Int) ∧ plN true s.data.toList k = p ∧ ∀ W, Calls Try.prog 23 #[.string s, .int .i64 (j : Int)] W fun e w' => e = .returned (.tuple #[.int .u32 (n : Int), .int .i64 0]) ∧ W = w' by
    intro k hk
    simp only [eaN, if_true] at hl
    have := n4_lt s.data.toList (4 * k)
    exact ⟨4 * k, n4 s.data.toList (4 * k), n4 s.data.toList (4 * k), by rw [i64_in _ (by omega)]; omega, i64_in _ (by omega), i64_in _ (by omega), rfl, fun W => ru32_in s _ _ rfl W hs (by omega)⟩)
  have hl2 : 4 * (G + 1) ≤ s.size := by rw [Nat.mul_comm]; exact hl
  obtain ⟨N, hN⟩ : ∃ N, N = G + 1 := ⟨_, rfl⟩
  rw [← hN] at e1 hl2 HI
  have HG := Lib.hid (HG.out N hN)
  have HB := Lib.hid (fun k => HB.out N k hN)
  have e2 : IntKind.i64.wrap (4 * (N : Int)) = ((4 * N : Nat) : Int) := by rw [i64_in _ (by omega)]; omega
  obtain ⟨T, hT⟩ : ∃ T, T = 4 * N := ⟨_, rfl⟩
  rw [← hT] at e2 hl2
  have hlt : ¬ s.size < T := by omega
  have HN := Lib.hid hN
  obtain ⟨i3, hi0, hz0, hz1, hz2⟩ := info_parts Try.info3
  have H3 := Lib.hid (show Try.prog.info? 3 = some i3 ∧ i3.zero = some (.int .i64 0) ∧ i3.size = 1 ∧ i3.bytes = 8 from ⟨hi0, hz0, hz1, hz2⟩)
  obtain ⟨f, hf⟩ : ∃ f : Nat → Int, f = fun i => (plN true s.data.toList i : Int) := ⟨_, rfl⟩
  have HFF := Lib.hid (show ∀ i, f i = (plN true s.data.toList i : Int) from fun i => by rw [hf])
  rw [← hf] at HG
  clear cm hm hT hN hl hl2 hT1 b1 b2 b3 b4 hs hf hi0 hz0 hz1 hz2
  go_enter Try.func11, Try.ntmps11
  go_upto_region 1 with fail
  obtain ⟨b, hb⟩ : ∃ b, b = w.heap.size := ⟨_, rfl⟩
  obtain ⟨W0, hW0⟩ : ∃ W, W = w.alloc (.cells #[.int .i64 em, .bool true, .int .i64 (G : Int), .int .i64 (M : Int), .int .i64 a1, .int .i64 a2, .int .i64 a3] 23) := ⟨_, rfl⟩
  rw [← hW0] at S ⊢
  rw [← hb] at S ⊢
  obtain ⟨f0, f1, f2, f3, f4, f5, f6⟩ := S.out.cells
  clear hb hW0
  go_upto_region 8 with (go_at_call 19; (with_reducible refine (CM.out _).mono ?_); rintro e w1 ⟨rfl, hbl⟩; have S := Lib.hid (S.out.next hbl); clear hbl f0 f1 f2 f3 f4 f5 f6; obtain ⟨f0, f1, f2, f3, f4, f5, f6⟩ := S.out.cells)
  have HF := Lib.hid (GS.start S.out)
  clear f0 f1 f2 f3 f4 f5 f6 S hlt e1 e2 CM
  go_wp2_with fail
  go_loopw [9, 10, 11] (fun v u i wr => ∃ k : Nat, ∃ A c, v = .slice A k c ∧ u = .int .i64 (plA true s.data.toList k : Int) ∧ i = .int .i64 (k : Int) ∧ k ≤ G + 1 ∧ okUp true s.data.toList z k ∧ GS w wr b ⟨em, true, G, M, a1, a2, a3⟩ (.slice A k c) k (gen k f)) (fun _ _ i _ => G + 1 - (intOf i).toNat)
  case atStart => exact ⟨0, none, 0, rfl, rfl, rfl, Nat.zero_le _, okUp_zero _ _ _, HF.out⟩
  case round =>
    obtain ⟨k, A, c, rfl, rfl, rfl, hk, hok, hF⟩ := hrel
    have HF := Lib.hid hF
    have HOK := Lib.hid hok
    obtain ⟨f0, f1, f2, f3, f4, f5, f6⟩ := hF.ms.cells
    by_cases hgo : k ≤ G
    · obtain ⟨j, n, p, e1, e2, e3, hp, hc⟩ := HI.out k (by rw [HN.out]; omega)
      have HC := Lib.hid hc
      have HBK := Lib.hid (HB.out k (by rw [HN.out]; omega))
      have HSU := Lib.hid (fun h1 h2 => okUp_succ HOK.out h1 h2)
      have HNX := Lib.hid (show plA true s.data.toList (k + 1) = plN true s.data.toList k from rfl)
      have HFK := Lib.hid (HFF.out k)
      obtain ⟨q, hq⟩ : ∃ q, q = plA true s.data.toList k := ⟨_, rfl⟩
      rw [hp] at HBK HSU HNX HFK
      rw [← hq] at HBK HSU ⊢
      clear hF hok hp hq hc
      by_cases hpq : p < q
      · have HX := Lib.hid (HBK.out (by omega))
        go_wp2_with (go_at_call 23; (with_reducible refine (HC.out _).mono ?_); rintro e w2 ⟨rfl, rfl⟩)
        go_ret2
        exact lsE_err HX.out.1 HX.out.2 HF.out.ms.bel
      · by_cases hpz : z < (p : Int)
        · have HX := Lib.hid (HBK.out (by omega))
          go_wp2_with (go_at_call 23; (with_reducible refine (HC.out _).mono ?_); rintro e w2 ⟨rfl, rfl⟩)
          go_ret2
          exact lsE_err HX.out.1 HX.out.2 HF.out.ms.bel
        · have HX := Lib.hid (HSU.out (by omega) (by omega))
          go_upto_region 22 with (go_at_call 23; (with_reducible refine (HC.out _).mono ?_); rintro e w2 ⟨rfl, rfl⟩)
          have H6 := Lib.hid (HF.out.next ((Below.refl _ wr).alloc (Nat.le_refl _) (.cells #[.int .i64 (p : Int)] 3)))
          go_wp2_with (at_builtin; go_must (refine wpList_append_own _ rfl (.tmp 66) (.tmp 68) 26 rfl w.heap.size 3 i3 _ 1 8 Try.underlying26 H3.out.1 H3.out.2.1 H3.out.2.2.1 H3.out.2.2.2 rfl (by decide) (.slice A k c) k (ci (gen k f)) rfl H6.out.own ⟨wr.heap.size, 0, none⟩ 1 1 [.int .i64 (p : Int)] rfl rfl (cells_new _ _ _) (by intro u hu; simp at hu; subst hu; rfl) (by unfold maxLen; omega) (by omega) (by have := HF.out.ms.bel.size; simp; omega) ?_); intro v' w7 hown' hg' _; have H7 := Lib.hid (H6.out.push hg' hown'); clear hown' hg')
          obtain ⟨A7, c7, rfl⟩ := own_form H7.out.own
          exact ⟨⟨k + 1, A7, c7, rfl, by rw [HNX.out], by simp, by omega, HX.out, by rw [gen_snoc, HFK.out]; exact H7.out⟩, by simp [intOf]; omega⟩
    · obtain rfl : k = N := by rw [HN.out]; omega
      have HX := Lib.hid (HG.out HOK.out)
      clear hF hok
      go_wp2_with fail
      go_ret2
      exact HF.out.fin (by rw [gen_len]) HX.out.1 HX.out.2
theorem places_any (h : Hd) (s : ByteArray) (z : Int) (w : World) (hs : s.size ≤ 1000000000) : Calls Try.prog 10 #[.agg #[.int .i64 h.em, .bool h.lg, .int .i64 h.gl, .int .i64 h.me, .int .i64 h.a1, .int .i64 h.a2, .int .i64 h.a3], .string s, .int .i64 z] w (LsE (PlE h s.data.toList z) (PlL h s.data.toList z) w) := by
  by_cases hm : MayP h
  · obtain ⟨G, M, h1, h2, h3, h4, h5, h6⟩ := hm.nat
    obtain ⟨em, lg, gl, me, a1, a2, a3⟩ := h
    simp only at h1 h2
    subst h1 h2
    rcases Nat.lt_or_ge s.size ((G + 1) * eaN lg) with hl | hl
    · exact places_short em lg G M a1 a2 a3 s z w hm hl
    · exact places_ok em lg G M a1 a2 a3 s z w hm hs hl
  · exact places_no h s z w hm
theorem rplaces_any (h : Hd) (s : ByteArray) (z : Int) (w : World) (hs : s.size ≤ 1000000000) : Calls Try.prog 11 #[.agg #[.int .i64 h.em, .bool h.lg, .int .i64 h.gl, .int .i64 h.me, .int .i64 h.a1, .int .i64 h.a2, .int .i64 h.a3], .string s, .int .i64 z] w (LsE (PlE h s.data.toList z) (PlL h s.data.toList z) w) := by
  by_cases hm : MayP h
  · obtain ⟨G, M, h1, h2, h3, h4, h5, h6⟩ := hm.nat
    obtain ⟨em, lg, gl, me, a1, a2, a3⟩ := h
    simp only at h1 h2
    subst h1 h2
    rcases Nat.lt_or_ge s.size ((G + 1) * eaN lg) with hl | hl
    · cases lg
      · exact rplaces_short_false em G M a1 a2 a3 s z w hm hl
      · exact rplaces_short_true em G M a1 a2 a3 s z w hm hl
    · cases lg
      · exact rplaces_ok_false em G M a1 a2 a3 s z w hm hs hl
      · exact rplaces_ok_true em G M a1 a2 a3 s z w hm hs hl
  · exact rplaces_no h s z w hm
end Go.Proofs.Ytibbgmahdiphpaa
