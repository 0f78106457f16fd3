/- Proved here: what Parse answers, in the program. Condition: a text of at most 10^6 bytes, or of more than 2^20. -/
import Derived.Test.YtlidagofjkilgaaUe
namespace Go.Proofs.Ytlidagofjkilgaa
open Go.RowKit

/-- A list of tables, and an error, are answered. -/
def PrE (l : List UInt8) (w : World) (e : Ending) (w' : World) : Prop := ∃ A n c, e = .returned (.tuple #[.slice A n c, .int .i64 (PE l)]) ∧ Tl w' A n (PT l) ∧ Below w.heap.size w w'
theorem tl_nil (w : World) : Tl w none 0 [] := ⟨rfl, fun i hi => by omega⟩
theorem prE_err {l : List UInt8} {w w' : World} {x : Int} (h : PE l = x) (hx : x ≠ 0) (hb : Below w.heap.size w w') : PrE l w (.returned (.tuple #[.slice none 0 0, .int .i64 x])) w' := by
  refine ⟨none, 0, 0, (by rw [h] <;> rfl), ?_, hb⟩
  unfold PT
  rw [h, if_neg hx]
  exact tl_nil w'
theorem cnt_q (s : ByteArray) (w : World) (x : Int) (k : Nat) (hs : s.size ≤ 1000000000) (hx : x = cntE s.data.toList) (hk : k = cN s.data.toList) : Calls Try.prog 28 #[.string s] w fun e w' => e = .returned (.tuple #[.int .i64 (k : Int), .int .i64 x]) ∧ Below w.heap.size w w' := by subst hx hk; exact count_any s w hs
theorem parse_bad (s : ByteArray) (w : World) (hs : s.size ≤ 1000000000) (hE : cntE s.data.toList ≠ 0) : Calls Try.prog 11 #[.string s] w (PrE s.data.toList w) := by
  have hPE : PE s.data.toList = cntE s.data.toList := by unfold PE; rw [if_neg hE]
  obtain ⟨x, hx⟩ : ∃ x, x = cntE s.data.toList := ⟨_, rfl⟩
  have hc := fun W => cnt_q s W x 0 hs hx (by rw [cN_not hE])
  rw [← hx] at hPE hE
  have e1 : (x != 0) = true := by simp [hE]
  have HC := Lib.hid hc
  have HP := Lib.hid (fun w' (hb : Below w.heap.size w w') => prE_err hPE hE hb)
  clear hx hc hPE hE
  go_enter Try.func11, Try.ntmps11
  go_wp2_with (go_at_call 28; (with_reducible refine (HC.out _).mono ?_); rintro e w1 ⟨rfl, hb⟩; have B1 := Lib.hid hb; clear hb)
  go_ret2
  exact HP.out _ B1.out
set_option maxRecDepth 100000 in
set_option maxHeartbeats 8000000 in
theorem parse_good (s : ByteArray) (w : World) (hs : s.size ≤ 1000000) (hE : cntE s.data.toList = 0) : Calls Try.prog 11 #[.string s] w (PrE s.data.toList w) := by
  obtain ⟨hz, h0, h64, _⟩ := cntE_zero hE
  rw [size_list] at hz
  obtain ⟨n, hn⟩ : ∃ n, n = cntN s.data.toList := ⟨_, rfl⟩
  have hPE : PE s.data.toList = fe s.data.toList n n := by unfold PE; rw [if_pos hE, hn]
  have hPT : PE s.data.toList = 0 → PT s.data.toList = tabs s.data.toList n := fun h => by unfold PT; rw [if_pos h, hn]
  have hc := fun W => cnt_q s W 0 n (by omega) hE.symm (by unfold cN; rw [if_pos hE, hn])
  rw [← hn] at hz h0 h64
  have HC := Lib.hid hc
  have HPE := Lib.hid hPE
  have HPT := Lib.hid hPT
  have HSZ := Lib.hid (And.intro hs hz)
  obtain ⟨i25, a25, b25, c25, d25⟩ := info_parts Try.info25
  obtain ⟨i67, a67, b67, c67, d67⟩ := info_parts Try.info67
  have H25 := Lib.hid (And.intro a25 (And.intro b25 (And.intro c25 d25)))
  have H67 := Lib.hid (And.intro a67 (And.intro b67 (And.intro c67 d67)))
  have w1 : IntKind.i64.wrap ((n : Int) * 16) = (n : Int) * 16 := i64_in _ (by omega)
  have w2 : IntKind.i64.wrap (12 + (n : Int) * 16) = 12 + (n : Int) * 16 := i64_in _ (by omega)
  have w3 : IntKind.u32.wrap (12 + (n : Int) * 16) = ((12 + 16 * n : Nat) : Int) := by rw [IntKind.wrap_u32]; omega
  obtain ⟨fin, hfin⟩ : ∃ f, f = 12 + 16 * n := ⟨_, rfl⟩
  rw [← hfin] at w3
  have HFI := Lib.hid hfin
  clear hn hE hc hPE hPT hz h0 a25 b25 c25 d25 a67 b67 c67 d67 hfin
  go_enter Try.func11, Try.ntmps11
  go_wp2_with (go_at_call 28; (with_reducible refine (HC.out _).mono ?_); rintro e w1 ⟨rfl, hb⟩; have K0 := Lib.hid (PsS.start hb); clear hb)
  go_loopw [6, 7, 20] (fun x y v wi => ∃ (k : Nat) (Ao Aa : Option Addr) (co ca : Nat), v = .int .i64 (k : Int) ∧ k ≤ n ∧ x = .slice Ao k co ∧ y = .slice Aa k ca ∧ fe s.data.toList n k = 0 ∧ PsS w wi x y k k (tabs s.data.toList k) (rows s.data.toList k)) (fun _ _ v _ => n - (intOf v).toNat)
  case atStart => exact ⟨0, none, none, 0, 0, rfl, Nat.zero_le _, rfl, rfl, rfl, K0.out⟩
  case round =>
    obtain ⟨k, Ao, Aa, co, ca, rfl, hk, rfl, rfl, hfe, hK⟩ := hrel
    have HK := Lib.hid hK
    have HFE := Lib.hid hfe
    clear hK hfe
    by_cases hgo : k < n
    · have hsz := HSZ.out
      have hrd := fun W => read_any s k W (by omega) (by omega)
      have hrE : rE s.data.toList n k = takeE s.data.toList (rowOf s.data.toList k) (rows s.data.toList k) fin := by unfold rE; rw [HFI.out]
      have htk := fun W (hA : Al W Aa k (rows s.data.toList k)) => take_any s (rowOf s.data.toList k) Aa k ca (rows s.data.toList k) fin W hsz.1 hA (by omega) (by have := piece_len_le s.data.toList (12 + 16 * k) 4; show (piece _ _ _).length ≤ _; omega) (bv_le _ 4 (piece_len_le _ _ _)) (bv_le _ 4 (piece_len_le _ _ _)) (bv_le _ 4 (piece_len_le _ _ _)) (fun x hx => by have := rows_in HFE.out x hx; rw [size_list] at this; exact this)
      rw [← hrE] at htk
      obtain ⟨r, hr⟩ : ∃ r, r = rowOf s.data.toList k := ⟨_, rfl⟩
      have hts := tabs_succ s.data.toList k
      have hrs := rows_succ s.data.toList k
      rw [← hr] at hrd htk hts hrs
      have hDz : rE s.data.toList n k = 0 → takeD s.data.toList r (rows s.data.toList k) fin = piece s.data.toList r.place r.size := fun h => by unfold takeD; rw [hr, ← hrE, if_pos h]
      obtain ⟨X, hX⟩ : ∃ X : ByteArray, X = ⟨r.tag.toArray⟩ := ⟨_, rfl⟩
      obtain ⟨D, hD⟩ : ∃ X : ByteArray, X = ⟨(takeD s.data.toList r (rows s.data.toList k) fin).toArray⟩ := ⟨_, rfl⟩
      obtain ⟨sm, hsm⟩ : ∃ x, x = r.sum := ⟨_, rfl⟩
      obtain ⟨pl, hpl⟩ : ∃ x, x = r.place := ⟨_, rfl⟩
      obtain ⟨sz, hsz0⟩ : ∃ x, x = r.size := ⟨_, rfl⟩
      rw [← hX, ← hsm, ← hpl, ← hsz0] at hrd
      rw [← hX, ← hsm, ← hpl, ← hsz0, ← hD] at htk
      obtain ⟨x, hx⟩ : ∃ x, x = rE s.data.toList n k := ⟨_, rfl⟩
      rw [← hx] at htk hDz
      have HRD := Lib.hid hrd
      have HTK := Lib.hid htk
      have HX := Lib.hid hx
      have HTS := Lib.hid (fun (h : x = 0) => show tabs s.data.toList (k + 1) = tabs s.data.toList k ++ [(r.tag, takeD s.data.toList r (rows s.data.toList k) fin)] by rw [hts, hDz h])
      have HRS := Lib.hid hrs
      have HEQ := Lib.hid (And.intro hX (And.intro hD (And.intro hsm (And.intro hpl hsz0))))
      clear hsz hrd hrE htk hr hts hrs hDz hX hD hsm hpl hsz0 hx
      go_upto_region 9 with (go_at_call 29; (with_reducible refine (HRD.out _).mono ?_); rintro e w2 ⟨rfl, hb⟩; have K1 := Lib.hid (HK.out.next hb); clear hb)
      have K2 := Lib.hid (And.intro (K1.out.next ((Below.refl _ _).alloc (Nat.le_refl _) (.cells #[.string X, .int .u32 (sm : Int), .int .u32 (pl : Int), .int .u32 (sz : Int)] 67))) (show Rb (w2.alloc (.cells #[.string X, .int .u32 (sm : Int), .int .u32 (pl : Int), .int .u32 (sz : Int)] 67)) w2.heap.size X sm pl sz from heap_alloc_new w2 _))
      obtain ⟨g, hg⟩ : ∃ g, g = w2.heap.size := ⟨_, rfl⟩
      obtain ⟨W3, hW3⟩ : ∃ W, W = w2.alloc (.cells #[.string X, .int .u32 (sm : Int), .int .u32 (pl : Int), .int .u32 (sz : Int)] 67) := ⟨_, rfl⟩
      rw [← hg, ← hW3] at K2 ⊢
      clear hg hW3 K1
      obtain ⟨f0, f1, f2, f3⟩ := K2.out.2.cells
      go_upto_region 10 with (go_at_call 30; (with_reducible refine (HTK.out _ (K2.out.1.al (rows_len _ _))).mono ?_); rintro e w4 ⟨rfl, hb⟩; have K4 := Lib.hid (And.intro (K2.out.1.next hb) (K2.out.2.bel hb)); clear hb)
      clear f0 f1 f2 f3 K2
      by_cases hx0 : x = 0
      · have HTS2 := Lib.hid (HTS.out hx0)
        have HFE2 := Lib.hid (show fe s.data.toList n (k + 1) = 0 by rw [fe_succ HFE.out, ← HX.out, hx0])
        subst hx0
        obtain ⟨f0, f1, f2, f3⟩ := K4.out.2.cells
        go_upto_region 12 with fail
        go_upto_region 13 with (at_builtin; go_must (refine wpList_append_own _ rfl (.tmp 40) (.tmp 45) 22 rfl w.heap.size 25 i25 _ 2 32 Try.underlying22 H25.out.1 H25.out.2.1 H25.out.2.2.1 H25.out.2.2.2 rfl (by decide) (.slice Ao k co) k (tabC (tabs s.data.toList k)) rfl (K4.out.1.oo.alloc _) ⟨w4.heap.size, 0, none⟩ 1 1 [.string X, .string D] rfl rfl (cells_new _ _ _) (by intro u hu; simp at hu; rcases hu with rfl | rfl <;> rfl) (by unfold maxLen; omega) (by omega) (by have := K4.out.1.bel.size; simp; omega) ?_); intro v' w5 hown' hg' _)
        have K5 := Lib.hid (show PsS w w5 v' (.slice Aa k ca) (k + 1) k (tabs s.data.toList k ++ [(r.tag, takeD s.data.toList r (rows s.data.toList k) fin)]) (rows s.data.toList k) ∧ Rb w5 g X sm pl sz from by
          have hbl : Below w4.heap.size w4 (w4.alloc (.cells #[.string X, .string D] 25)) := (Below.refl _ _).alloc (Nat.le_refl _) _
          have h1 := K4.out.1.next hbl
          refine ⟨h1.tab hg' (by rw [← HEQ.out.1, ← HEQ.out.2.1]; exact hown'), h1.box hg' (K4.out.2.bel hbl)⟩)
        obtain ⟨A', c', rfl⟩ := own_form hown'
        clear hg' hown' f0 f1 f2 f3 K4
        obtain ⟨f0, f1, f2, f3⟩ := K5.out.2.cells
        go_upto_region 14 with (at_builtin; go_must (refine wpList_append_own _ rfl (.tmp 47) (.tmp 49) 65 rfl w.heap.size 67 i67 _ 4 32 Try.underlying65 H67.out.1 H67.out.2.1 H67.out.2.2.1 H67.out.2.2.2 rfl (by decide) (.slice Aa k ca) k (rowC (rows s.data.toList k)) rfl (K5.out.1.oa.alloc _) ⟨w5.heap.size, 0, none⟩ 1 1 [.string X, .int .u32 (sm : Int), .int .u32 (pl : Int), .int .u32 (sz : Int)] rfl rfl (cells_new _ _ _) (by intro u hu; simp at hu; rcases hu with rfl | rfl | rfl | rfl <;> rfl) (by unfold maxLen; omega) (by omega) (by have := K5.out.1.bel.size; simp; omega) ?_); intro v' w6 hown' hg' _)
        have K6 := Lib.hid (show PsS w w6 (.slice A' (k + 1) c') v' (k + 1) (k + 1) (tabs s.data.toList (k + 1)) (rows s.data.toList (k + 1)) from by
          have hbl : Below w5.heap.size w5 (w5.alloc (.cells #[.string X, .int .u32 (sm : Int), .int .u32 (pl : Int), .int .u32 (sz : Int)] 67)) := (Below.refl _ _).alloc (Nat.le_refl _) _
          have h1 := K5.out.1.next hbl
          rw [HTS2.out, HRS.out]
          exact h1.row hg' (by rw [← HEQ.out.1, ← HEQ.out.2.2.1, ← HEQ.out.2.2.2.1, ← HEQ.out.2.2.2.2]; exact hown'))
        obtain ⟨A2, c2, rfl⟩ := own_form hown'
        clear hg' hown' f0 f1 f2 f3 K5
        go_wp2_with fail
        exact ⟨⟨k + 1, A', A2, c', c2, by simp, by omega, rfl, rfl, HFE2.out, K6.out⟩, by simp [intOf]; omega⟩
      · have e1 : (x != 0) = true := by simp [hx0]
        have HP := Lib.hid (fun w' (hb : Below w.heap.size w w') => prE_err (show PE s.data.toList = x by rw [HPE.out, HX.out]; exact fe_at HFE.out (by rw [← HX.out]; exact hx0) hgo) hx0 hb)
        clear hx0
        go_wp2_with fail
        go_ret2
        exact HP.out _ K4.out.1.bel
    · have hkn : k = n := by omega
      subst hkn
      have HP0 := Lib.hid (show PE s.data.toList = 0 by rw [HPE.out]; exact HFE.out)
      go_wp2_with fail
      go_ret2
      refine ⟨Ao, k, co, (by rw [HP0.out] <;> rfl), ?_, HK.out.bel⟩
      rw [HPT.out HP0.out]
      exact own_tl HK.out.oo (tabs_len _ _)
theorem parse_any (s : ByteArray) (w : World) (hs : s.size ≤ 1000000) : Calls Try.prog 11 #[.string s] w (PrE s.data.toList w) := by
  by_cases hE : cntE s.data.toList = 0
  · exact parse_good s w hs hE
  · exact parse_bad s w (by omega) hE
end Go.Proofs.Ytlidagofjkilgaa
