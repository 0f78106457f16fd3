/- Proved here: what mayPlaces and Loca answer, in the program. No condition · what a reader is in memory, and what New, Err, At and Left answer. Condition: the reader lies in a block of its own · what a reader's pass and next answer, and the document's Take and Num. Condition: the reader lies in a block of its own, its text has at most a billion bytes · what a reader's calls that read or skip answer. Condition: the reader lies in a block of its own, its text has at most a billion bytes. -/
import Derived.Test.YtfhaloclbbmbeaaGreatM13
import Derived.WalkKit
import Derived.WalkSpells
import Derived.WalkLawsBesides
import Derived.Deep.DeepFit
import Derived.Deep.QuietTactic
import Derived.BigQuiet
import Derived.Lib.Hide
import Derived.StillTailTactics
import Derived.Deep.RegionHeld3
import Derived.ChangeAlike
import Derived.RegionTactic
import Derived.IntWalk
import Derived.Laws.BitsAllLaws
import Derived.Laws.Bits64b
import Derived.Laws.IdiomStrings
import Derived.Deep.CutBlock
import Derived.Deep.CutRange
import Derived.Deep.DeepCutAuto
namespace Go.Proofs.YtfhaloclbbmbeaaGreat
open Go.RowKit
def paN (xs : List Int) (k : Nat) : Int := match k with | 0 => 0 | k + 1 => co xs k
def okP (lg : Bool) (xs : List Int) (n : Nat) : Prop := ∀ i, i < n → paN xs i ≤ co xs i ∧ mayPl lg (co xs i)
instance (lg : Bool) (xs : List Int) (n : Nat) : Decidable (okP lg xs n) := inferInstanceAs (Decidable (∀ i, i < n → _ ∧ _))
def mayPs (h : Hd) (xs : List Int) : Prop := (xs.length : Int) = h.gl + 1 ∧ okP h.lg xs xs.length
instance (h : Hd) (xs : List Int) : Decidable (mayPs h xs) := inferInstanceAs (Decidable (_ ∧ _))
theorem okP_zero (lg : Bool) (xs : List Int) : okP lg xs 0 := fun i hi => by omega
theorem okP_succ {lg : Bool} {xs : List Int} {k : Nat} (h : okP lg xs k) (h1 : paN xs k ≤ co xs k ∧ mayPl lg (co xs k)) : okP lg xs (k + 1) := fun i hi => by
  rcases Nat.lt_or_ge i k with hk | hk
  · exact h i hk
  · rw [show i = k by omega]; exact h1
theorem okP_pos {lg : Bool} {xs : List Int} : ∀ {k : Nat}, okP lg xs k → 0 ≤ paN xs k
  | 0, _ => Int.le_refl _
  | k + 1, h => by
    have h1 := okP_pos (k := k) (fun i hi => h i (by omega))
    have h2 := (h k (by omega)).1
    show 0 ≤ co xs k
    omega
namespace N11
theorem mayPs_no (em : Int) (lg : Bool) (G M : Nat) (a1 a2 a3 : Int) (A : Option Addr) (m c : Nat) (xs : List Int) (w : World) (hI : Il w A m xs) (hG : G ≤ 1024) (hne : ¬ m = G + 1) :
    Calls Tryz.prog 103 #[.agg #[.int .i64 em, .bool lg, .int .i64 (G : Int), .int .i64 (M : Int), .int .i64 a1, .int .i64 a2, .int .i64 a3], .slice A m c] w fun e w' => e = .returned (.bool (decide (mayPs ⟨em, lg, G, M, a1, a2, a3⟩ xs))) ∧ Below w.heap.size w w' := by
  have hE : decide (mayPs ⟨em, lg, G, M, a1, a2, a3⟩ xs) = false := decide_eq_false (fun h => hne (by have h1 := h.1; have := hI.len; simp only at h1; omega))
  have S := Lib.hid (MS.start w ⟨em, lg, G, M, a1, a2, a3⟩)
  obtain ⟨f0, f1, f2, f3, f4, f5, f6⟩ := S.out.cells
  have e1 : IntKind.i64.wrap ((G : Int) + 1) = ((G + 1 : Nat) : Int) := by rw [i64_in _ (by omega)]; omega
  obtain ⟨N, hN⟩ : ∃ N, N = G + 1 := ⟨_, rfl⟩
  rw [← hN] at e1 hne
  rw [hE]
  clear hE hI hN hG
  go_enter Tryz.func103, Tryz.ntmps103
  go_wp2_with fail
  go_ret
  exact ⟨rfl, S.out.bel⟩
set_option maxHeartbeats 2000000 in
theorem mayPs_yes (em : Int) (lg : Bool) (G M : Nat) (a1 a2 a3 : Int) (A : Option Addr) (m c : Nat) (xs : List Int) (w : World) (hI : Il w A m xs) (hG : G ≤ 1024) (hmG : m = G + 1) :
    Calls Tryz.prog 103 #[.agg #[.int .i64 em, .bool lg, .int .i64 (G : Int), .int .i64 (M : Int), .int .i64 a1, .int .i64 a2, .int .i64 a3], .slice A m c] w fun e w' => e = .returned (.bool (decide (mayPs ⟨em, lg, G, M, a1, a2, a3⟩ xs))) ∧ Below w.heap.size w w' := by
  have hlen := hI.len
  have HY := Lib.hid (show okP lg xs m → decide (mayPs ⟨em, lg, G, M, a1, a2, a3⟩ xs) = true from fun h => decide_eq_true ⟨by simp only; omega, by rw [hlen]; exact h⟩)
  have HN := Lib.hid (show ∀ k, k < m → ¬ (paN xs k ≤ co xs k ∧ mayPl lg (co xs k)) → decide (mayPs ⟨em, lg, G, M, a1, a2, a3⟩ xs) = false from fun k hk h => decide_eq_false (fun h2 => h (h2.2 k (by rw [hlen]; exact hk))))
  have e1 : IntKind.i64.wrap ((G : Int) + 1) = (m : Int) := by rw [i64_in _ (by omega)]; omega
  have hm : m ≤ 1025 := by omega
  have S := Lib.hid (MS.start w ⟨em, lg, G, M, a1, a2, a3⟩)
  have HI := Lib.hid hI
  have CP := Lib.hid (fun p (hp : 0 ≤ p) W => mayPlace_any ⟨em, lg, G, M, a1, a2, a3⟩ p W hp)
  simp only at CP
  clear hI hlen hmG
  go_enter Tryz.func103, Tryz.ntmps103
  go_upto_region 1 with fail
  obtain ⟨b, hb⟩ : ∃ b, b = w.heap.size := ⟨_, rfl⟩
  obtain ⟨W0, hW0⟩ : ∃ W, W = w.alloc (.cells #[.int .i64 em, .bool lg, .int .i64 (G : Int), .int .i64 (M : Int), .int .i64 a1, .int .i64 a2, .int .i64 a3] 39) := ⟨_, rfl⟩
  rw [← hW0] at S ⊢
  rw [← hb] at S ⊢
  obtain ⟨f0, f1, f2, f3, f4, f5, f6⟩ := S.out.cells
  clear hb hW0
  go_wp2_with fail
  go_loopw [5, 16] (fun v i wr => ∃ k : Nat, v = .int .i64 (paN xs k) ∧ i = .int .i64 (k : Int) ∧ k ≤ m ∧ okP lg xs k ∧ MS w wr b ⟨em, lg, G, M, a1, a2, a3⟩) (fun _ i _ => m - (intOf i).toNat)
  case atStart => exact ⟨0, rfl, rfl, Nat.zero_le _, okP_zero _ _, S.out⟩
  case round =>
    obtain ⟨k, rfl, rfl, hk, hok, hS⟩ := hrel
    have HS := Lib.hid hS
    by_cases hgo : k < m
    · obtain ⟨f0, f1, f2, f3, f4, f5, f6⟩ := hS.cells
      obtain ⟨a, rfl, c0⟩ := HI.out.at_ hS.bel hgo
      have HSK := Lib.hid (fun h1 => okP_succ (k := k) hok h1)
      have HNK := Lib.hid (HN.out k hgo)
      have HNX := Lib.hid (show paN xs (k + 1) = co xs k from rfl)
      have hpos := okP_pos hok
      obtain ⟨p, hp⟩ : ∃ p, p = co xs k := ⟨_, rfl⟩
      obtain ⟨q, hq⟩ : ∃ q, q = paN xs k := ⟨_, rfl⟩
      rw [← hp, ← hq] at HSK HNK
      rw [← hp] at c0 HNX
      rw [← hq] at hpos ⊢
      clear hS hok hp hq
      by_cases h0 : p < q
      · have HX := Lib.hid (HNK.out (by omega))
        clear hpos
        go_wp2_with fail
        go_ret
        exact ⟨by rw [HX.out]; rfl, HS.out.bel⟩
      · have hc := CP.out p (by omega)
        by_cases h1 : mayPl lg p
        · rw [decide_eq_true h1] at hc
          have HX := Lib.hid (HSK.out ⟨by omega, h1⟩)
          have HC := Lib.hid hc
          clear hpos hc h1
          go_wp2_with (go_at_call 175; (with_reducible refine (HC.out _).mono ?_); rintro e w4 ⟨rfl, hb⟩; have HS := Lib.hid (HS.out.next hb); clear hb)
          exact ⟨⟨k + 1, by rw [HNX.out], by simp, by omega, HX.out, HS.out⟩, by simp [intOf]; omega⟩
        · rw [decide_eq_false h1] at hc
          have HX := Lib.hid (HNK.out (fun h => h1 h.2))
          have HC := Lib.hid hc
          clear hpos hc h1
          go_wp2_with (go_at_call 175; (with_reducible refine (HC.out _).mono ?_); rintro e w4 ⟨rfl, hb⟩; have HS := Lib.hid (HS.out.next hb); clear hb)
          go_ret
          exact ⟨by rw [HX.out]; rfl, HS.out.bel⟩
    · obtain rfl : k = m := by omega
      have HX := Lib.hid (HY.out hok)
      clear hS hok
      go_wp2_with fail
      go_ret
      exact ⟨by rw [HX.out]; rfl, HS.out.bel⟩
theorem mayPs_any (h : Hd) (A : Option Addr) (m c : Nat) (xs : List Int) (w : World) (hm : MayP h) (hI : Il w A m xs) :
    Calls Tryz.prog 103 #[.agg #[.int .i64 h.em, .bool h.lg, .int .i64 h.gl, .int .i64 h.me, .int .i64 h.a1, .int .i64 h.a2, .int .i64 h.a3], .slice A m c] w fun e w' => e = .returned (.bool (decide (mayPs h xs))) ∧ Below w.heap.size w w' := by
  obtain ⟨G, M, h1, h2, h3, h4, h5, h6⟩ := hm.nat
  obtain ⟨em, lg, gl, me, a1, a2, a3⟩ := h
  simp only at h1 h2
  subst h1 h2
  by_cases he : m = G + 1
  · exact mayPs_yes em lg G M a1 a2 a3 A m c xs w hI h4 he
  · exact mayPs_no em lg G M a1 a2 a3 A m c xs w hI h4 he
end N11
def loK (lg : Bool) (x : Int) : List UInt8 := if lg then byt 4 x.toNat else byt 2 (x.toNat / 2)
def loB (lg : Bool) (xs : List Int) : Nat → List UInt8
  | 0 => []
  | k + 1 => loB lg xs k ++ loK lg (co xs k)
theorem loK_len (lg : Bool) (x : Int) : (loK lg x).length = eaN lg := by unfold loK eaN; split <;> exact byt_len _ _
theorem loB_len (lg : Bool) (xs : List Int) : ∀ k, (loB lg xs k).length = k * eaN lg
  | 0 => by simp [loB]
  | k + 1 => by simp only [loB, List.length_append, loB_len lg xs k, loK_len, Nat.succ_mul]
theorem loB_le (lg : Bool) (xs : List Int) (k : Nat) (hk : k ≤ 1025) : (loB lg xs k).length ≤ 4100 := by rw [loB_len]; unfold eaN; split <;> omega
def LoE (h : Hd) (xs : List Int) : Int := if MayP h ∧ mayPs h xs then 0 else 1
def LoS (h : Hd) (xs : List Int) : List UInt8 := if MayP h ∧ mayPs h xs then loB h.lg xs xs.length else []
namespace N11
theorem loca_no (h : Hd) (A : Option Addr) (m c : Nat) (xs : List Int) (w : World) (hm : ¬ MayP h) : Calls Tryz.prog 48 #[.agg #[.int .i64 h.em, .bool h.lg, .int .i64 h.gl, .int .i64 h.me, .int .i64 h.a1, .int .i64 h.a2, .int .i64 h.a3], .slice A m c] w (StE (LoE h xs) (LoS h xs) w) := by
  have cm := fun W => may_any h W
  rw [decide_eq_false hm] at cm
  have CM := Lib.hid cm
  have S := Lib.hid (MS.start w h)
  have HP := Lib.hid (fun w' (hb : Below w.heap.size w w') => stE_err (show LoE h xs = 1 from if_neg (fun h => hm h.1)) (show LoS h xs = [] from if_neg (fun h => hm h.1)) hb)
  obtain ⟨f0, f1, f2, f3, f4, f5, f6⟩ := S.out.cells
  clear cm hm
  go_enter Tryz.func48, Tryz.ntmps48
  go_wp2_with (go_at_call 90; (with_reducible refine (CM.out _).mono ?_); rintro e w1 ⟨rfl, hb⟩; have S := Lib.hid (S.out.next hb); clear hb)
  go_ret2
  exact HP.out _ S.out.bel
theorem loca_bad (h : Hd) (A : Option Addr) (m c : Nat) (xs : List Int) (w : World) (hI : Il w A m xs) (hm : MayP h) (hx : ¬ mayPs h xs) : Calls Tryz.prog 48 #[.agg #[.int .i64 h.em, .bool h.lg, .int .i64 h.gl, .int .i64 h.me, .int .i64 h.a1, .int .i64 h.a2, .int .i64 h.a3], .slice A m c] w (StE (LoE h xs) (LoS h xs) w) := by
  have cm := fun W => may_any h W
  rw [decide_eq_true hm] at cm
  have CM := Lib.hid cm
  have cw := fun W (hI : Il W A m xs) => mayPs_any h A m c xs W hm hI
  rw [decide_eq_false hx] at cw
  have CW := Lib.hid cw
  have HI := Lib.hid hI
  have S := Lib.hid (MS.start w h)
  have HP := Lib.hid (fun w' (hb : Below w.heap.size w w') => stE_err (show LoE h xs = 1 from if_neg (fun h => hx h.2)) (show LoS h xs = [] from if_neg (fun h => hx h.2)) hb)
  obtain ⟨f0, f1, f2, f3, f4, f5, f6⟩ := S.out.cells
  clear cm cw hm hx hI
  go_enter Tryz.func48, Tryz.ntmps48
  go_wp2_with (first
    | (go_at_call 90; (with_reducible refine (CM.out _).mono ?_); rintro e w1 ⟨rfl, hb⟩; have S := Lib.hid (S.out.next hb); clear hb f0 f1 f2 f3 f4 f5 f6; obtain ⟨f0, f1, f2, f3, f4, f5, f6⟩ := S.out.cells)
    | (go_at_call 103; (with_reducible refine (CW.out _ (HI.out.bel S.out.bel)).mono ?_); rintro e w1 ⟨rfl, hb⟩; have S := Lib.hid (S.out.next hb); clear hb))
  go_ret2
  exact HP.out _ S.out.bel
set_option maxRecDepth 100000 in
set_option maxHeartbeats 2000000 in
theorem loca_ok_false (em : Int) (G M : Nat) (a1 a2 a3 : Int) (A : Option Addr) (m c : Nat) (xs : List Int) (w : World) (hI : Il w A m xs) (hm : MayP ⟨em, false, G, M, a1, a2, a3⟩) (hx : mayPs ⟨em, false, G, M, a1, a2, a3⟩ xs) (hmG : m = G + 1) :
    Calls Tryz.prog 48 #[.agg #[.int .i64 em, .bool false, .int .i64 (G : Int), .int .i64 (M : Int), .int .i64 a1, .int .i64 a2, .int .i64 a3], .slice A m c] w (StE (LoE ⟨em, false, G, M, a1, a2, a3⟩ xs) (LoS ⟨em, false, G, M, a1, a2, a3⟩ xs) w) := by
  have cm := fun W => may_any ⟨em, false, G, M, a1, a2, a3⟩ W
  rw [decide_eq_true hm] at cm
  have CM := Lib.hid cm
  have cw := fun W (hI : Il W A m xs) => mayPs_any ⟨em, false, G, M, a1, a2, a3⟩ A m c xs W hm hI
  rw [decide_eq_true hx] at cw
  have CW := Lib.hid cw
  simp only at CM CW
  obtain ⟨_, ⟨b1, b2⟩, ⟨b3, b4⟩, _⟩ := id hm
  simp only at b1 b2 b3 b4
  have hmm : m ≤ 1025 := by omega
  have HP := Lib.hid (fun w' (hb : Below w.heap.size w w') => stE_ok (l' := loB false xs m) (show LoE ⟨em, false, G, M, a1, a2, a3⟩ xs = 0 from if_pos ⟨hm, hx⟩) (show LoS ⟨em, false, G, M, a1, a2, a3⟩ xs = loB false xs m by unfold LoS; rw [if_pos ⟨hm, hx⟩, hI.len]) hb)
  have HI := Lib.hid hI
  have S := Lib.hid (MS.start w ⟨em, false, G, M, a1, a2, a3⟩)
  have HX := Lib.hid (show ∀ k, k < m → ∃ n j : Nat, ∃ D : ByteArray, co xs k = (n : Int) ∧ (n : Int) / 2 = (j : Int) ∧ (n : Int).tdiv 2 = (j : Int) ∧ IntKind.i64.wrap (j : Int) = (j : Int) ∧ IntKind.u16.wrap (j : Int) = (j : Int) ∧ (∀ W, Calls Tryz.prog 102 #[.int .u16 (j : Int)] W fun e w' => e = .returned (.string D) ∧ Below W.heap.size W w') ∧ D.size = 2 ∧ D.data.toList = loK false (co xs k) by
    intro k hk
    have h0 := okP_pos (k := k) (fun i hi => hx.2 i (by rw [hI.len]; omega))
    obtain ⟨h1, h2⟩ := hx.2 k (by rw [hI.len]; exact hk)
    obtain ⟨h2, h3⟩ : co xs k % 2 = 0 ∧ co xs k ≤ 131070 := h2
    refine ⟨(co xs k).toNat, (co xs k).toNat / 2, ⟨(byt 2 ((co xs k).toNat / 2)).toArray⟩, by omega, by omega, by rw [Int.tdiv_eq_ediv_of_nonneg (by omega)]; omega, i64_in _ (by omega), wrap_u16n _ (by omega), fun W => p16_any _ W (by omega), ?_, rfl⟩
    show (byt 2 ((co xs k).toNat / 2)).toArray.size = 2
    rw [List.size_toArray]; exact byt_len 2 _)
  clear cm cw hm hx hI hmG b1 b2 b3 b4
  go_enter Tryz.func48, Tryz.ntmps48
  go_upto_region 1 with fail
  obtain ⟨b, hb⟩ : ∃ b, b = w.heap.size := ⟨_, rfl⟩
  obtain ⟨W0, hW0⟩ : ∃ W, W = w.alloc (.cells #[.int .i64 em, .bool false, .int .i64 (G : Int), .int .i64 (M : Int), .int .i64 a1, .int .i64 a2, .int .i64 a3] 39) := ⟨_, rfl⟩
  rw [← hW0] at S ⊢
  rw [← hb] at S ⊢
  obtain ⟨f0, f1, f2, f3, f4, f5, f6⟩ := S.out.cells
  clear hb hW0
  go_upto_region 3 with (first
    | (go_at_call 90; (with_reducible refine (CM.out _).mono ?_); rintro e w1 ⟨rfl, hb⟩; have S := Lib.hid (S.out.next hb); clear hb f0 f1 f2 f3 f4 f5 f6; obtain ⟨f0, f1, f2, f3, f4, f5, f6⟩ := S.out.cells)
    | (go_at_call 103; (with_reducible refine (CW.out _ (HI.out.bel S.out.bel)).mono ?_); rintro e w2 ⟨rfl, hb⟩; have S := Lib.hid (S.out.next hb); clear hb))
  go_upto_region 4 with fail
  have HS := Lib.hid (BS.start S.out)
  obtain ⟨g, hg⟩ : ∃ g, g = w2.heap.size := ⟨_, rfl⟩
  obtain ⟨W3, hW3⟩ : ∃ W, W = w2.alloc (.cells #[.pointer none, .slice none 0 0] 173) := ⟨_, rfl⟩
  rw [← hW3] at HS ⊢
  rw [← hg] at HS ⊢
  clear hg hW3 f0 f1 f2 f3 f4 f5 f6 S CM CW
  go_wp2_with fail
  go_loopw [20] (fun i wr => ∃ k : Nat, i = .int .i64 (k : Int) ∧ k ≤ m ∧ BS w wr b g ⟨em, false, G, M, a1, a2, a3⟩ (loB false xs k)) (fun i _ => m - (intOf i).toNat)
  case atStart => exact ⟨0, rfl, Nat.zero_le _, HS.out⟩
  case round =>
    obtain ⟨k, rfl, hk, hS⟩ := hrel
    have HS := Lib.hid hS
    by_cases hgo : k < m
    · obtain ⟨f0, f1, f2, f3, f4, f5, f6⟩ := hS.ms.cells
      obtain ⟨a, rfl, c0⟩ := HI.out.at_ hS.ms.bel hgo
      obtain ⟨n, j, D, hn, hw, hw2, hw3, hw4, hc, hd1, hd2⟩ := HX.out k hgo
      have HC := Lib.hid hc
      have HD := Lib.hid (And.intro hd1 hd2)
      have HL := Lib.hid (loB_le false xs k (by omega))
      have HNX := Lib.hid (show loB false xs (k + 1) = loB false xs k ++ loK false (co xs k) from rfl)
      rw [← HD.out.2] at HNX
      obtain ⟨l, hl⟩ : ∃ l, l = loB false xs k := ⟨_, rfl⟩
      rw [← hl] at HL HNX HS
      rw [hn] at c0
      clear hS hc hd1 hd2 hl hn
      go_wp2_with (first
        | (go_at_call 102; (with_reducible refine (HC.out _).mono ?_); rintro e w4 ⟨rfl, hb⟩; have HS := Lib.hid (HS.out.next hb); clear hb)
        | (go_at_call 97; (with_reducible refine (ws_any _ _ _ D _ HS.out.bld (by rw [HD.out.1]; have := HL.out; omega) HS.out.le).mono ?_); rintro e w5 ⟨rfl, h1, h2, _⟩; have HS5 := Lib.hid (HS.out.wrote h1 h2); clear h1 h2))
      exact ⟨⟨k + 1, by simp, by omega, by rw [HNX.out]; exact HS5.out⟩, by simp [intOf]; omega⟩
    · obtain rfl : k = m := by omega
      clear hS
      go_wp2_with (go_at_call 100; (with_reducible refine (str_any _ _ _ _ HS.out.bld HS.out.le).mono ?_); rintro e w8 ⟨rfl, hb⟩; have HB8 := Lib.hid (HS.out.fin hb); clear hb)
      go_ret2
      exact HP.out _ HB8.out
set_option maxRecDepth 100000 in
set_option maxHeartbeats 2000000 in
theorem loca_ok_true (em : Int) (G M : Nat) (a1 a2 a3 : Int) (A : Option Addr) (m c : Nat) (xs : List Int) (w : World) (hI : Il w A m xs) (hm : MayP ⟨em, true, G, M, a1, a2, a3⟩) (hx : mayPs ⟨em, true, G, M, a1, a2, a3⟩ xs) (hmG : m = G + 1) :
    Calls Tryz.prog 48 #[.agg #[.int .i64 em, .bool true, .int .i64 (G : Int), .int .i64 (M : Int), .int .i64 a1, .int .i64 a2, .int .i64 a3], .slice A m c] w (StE (LoE ⟨em, true, G, M, a1, a2, a3⟩ xs) (LoS ⟨em, true, G, M, a1, a2, a3⟩ xs) w) := by
  have cm := fun W => may_any ⟨em, true, G, M, a1, a2, a3⟩ W
  rw [decide_eq_true hm] at cm
  have CM := Lib.hid cm
  have cw := fun W (hI : Il W A m xs) => mayPs_any ⟨em, true, G, M, a1, a2, a3⟩ A m c xs W hm hI
  rw [decide_eq_true hx] at cw
  have CW := Lib.hid cw
  simp only at CM CW
  obtain ⟨_, ⟨b1, b2⟩, ⟨b3, b4⟩, _⟩ := id hm
  simp only at b1 b2 b3 b4
  have hmm : m ≤ 1025 := by omega
  have HP := Lib.hid (fun w' (hb : Below w.heap.size w w') => stE_ok (l' := loB true xs m) (show LoE ⟨em, true, G, M, a1, a2, a3⟩ xs = 0 from if_pos ⟨hm, hx⟩) (show LoS ⟨em, true, G, M, a1, a2, a3⟩ xs = loB true xs m by unfold LoS; rw [if_pos ⟨hm, hx⟩, hI.len]) hb)
  have HI := Lib.hid hI
  have S := Lib.hid (MS.start w ⟨em, true, G, M, a1, a2, a3⟩)
  have HX := Lib.hid (show ∀ k, k < m → ∃ n j : Nat, ∃ D : ByteArray, co xs k = (n : Int) ∧ IntKind.u32.wrap (n : Int) = (n : Int) ∧ j = n ∧ j = j ∧ j = j ∧ (∀ W, Calls Tryz.prog 91 #[.int .u32 (n : Int)] W fun e w' => e = .returned (.string D) ∧ Below W.heap.size W w') ∧ D.size = 4 ∧ D.data.toList = loK true (co xs k) by
    intro k hk
    have h0 := okP_pos (k := k) (fun i hi => hx.2 i (by rw [hI.len]; omega))
    obtain ⟨h1, h2⟩ := hx.2 k (by rw [hI.len]; exact hk)
    have h2 : co xs k ≤ 1048576 := h2
    refine ⟨(co xs k).toNat, _, ⟨(byt 4 (co xs k).toNat).toArray⟩, by omega, wrap_u32n _ (by omega), rfl, rfl, rfl, fun W => p32_any _ W (by omega), ?_, rfl⟩
    show (byt 4 (co xs k).toNat).toArray.size = 4
    rw [List.size_toArray]; exact byt_len 4 _)
  clear cm cw hm hx hI hmG b1 b2 b3 b4
  go_enter Tryz.func48, Tryz.ntmps48
  go_upto_region 1 with fail
  obtain ⟨b, hb⟩ : ∃ b, b = w.heap.size := ⟨_, rfl⟩
  obtain ⟨W0, hW0⟩ : ∃ W, W = w.alloc (.cells #[.int .i64 em, .bool true, .int .i64 (G : Int), .int .i64 (M : Int), .int .i64 a1, .int .i64 a2, .int .i64 a3] 39) := ⟨_, rfl⟩
  rw [← hW0] at S ⊢
  rw [← hb] at S ⊢
  obtain ⟨f0, f1, f2, f3, f4, f5, f6⟩ := S.out.cells
  clear hb hW0
  go_upto_region 3 with (first
    | (go_at_call 90; (with_reducible refine (CM.out _).mono ?_); rintro e w1 ⟨rfl, hb⟩; have S := Lib.hid (S.out.next hb); clear hb f0 f1 f2 f3 f4 f5 f6; obtain ⟨f0, f1, f2, f3, f4, f5, f6⟩ := S.out.cells)
    | (go_at_call 103; (with_reducible refine (CW.out _ (HI.out.bel S.out.bel)).mono ?_); rintro e w2 ⟨rfl, hb⟩; have S := Lib.hid (S.out.next hb); clear hb))
  go_upto_region 4 with fail
  have HS := Lib.hid (BS.start S.out)
  obtain ⟨g, hg⟩ : ∃ g, g = w2.heap.size := ⟨_, rfl⟩
  obtain ⟨W3, hW3⟩ : ∃ W, W = w2.alloc (.cells #[.pointer none, .slice none 0 0] 173) := ⟨_, rfl⟩
  rw [← hW3] at HS ⊢
  rw [← hg] at HS ⊢
  clear hg hW3 f0 f1 f2 f3 f4 f5 f6 S CM CW
  go_wp2_with fail
  go_loopw [20] (fun i wr => ∃ k : Nat, i = .int .i64 (k : Int) ∧ k ≤ m ∧ BS w wr b g ⟨em, true, G, M, a1, a2, a3⟩ (loB true xs k)) (fun i _ => m - (intOf i).toNat)
  case atStart => exact ⟨0, rfl, Nat.zero_le _, HS.out⟩
  case round =>
    obtain ⟨k, rfl, hk, hS⟩ := hrel
    have HS := Lib.hid hS
    by_cases hgo : k < m
    · obtain ⟨f0, f1, f2, f3, f4, f5, f6⟩ := hS.ms.cells
      obtain ⟨a, rfl, c0⟩ := HI.out.at_ hS.ms.bel hgo
      obtain ⟨n, j, D, hn, hw, hw2, hw3, hw4, hc, hd1, hd2⟩ := HX.out k hgo
      have HC := Lib.hid hc
      have HD := Lib.hid (And.intro hd1 hd2)
      have HL := Lib.hid (loB_le true xs k (by omega))
      have HNX := Lib.hid (show loB true xs (k + 1) = loB true xs k ++ loK true (co xs k) from rfl)
      rw [← HD.out.2] at HNX
      obtain ⟨l, hl⟩ : ∃ l, l = loB true xs k := ⟨_, rfl⟩
      rw [← hl] at HL HNX HS
      rw [hn] at c0
      clear hS hc hd1 hd2 hl hn hw2 hw3 hw4
      go_wp2_with (first
        | (go_at_call 91; (with_reducible refine (HC.out _).mono ?_); rintro e w4 ⟨rfl, hb⟩; have HS := Lib.hid (HS.out.next hb); clear hb)
        | (go_at_call 97; (with_reducible refine (ws_any _ _ _ D _ HS.out.bld (by rw [HD.out.1]; have := HL.out; omega) HS.out.le).mono ?_); rintro e w5 ⟨rfl, h1, h2, _⟩; have HS5 := Lib.hid (HS.out.wrote h1 h2); clear h1 h2))
      exact ⟨⟨k + 1, by simp, by omega, by rw [HNX.out]; exact HS5.out⟩, by simp [intOf]; omega⟩
    · obtain rfl : k = m := by omega
      clear hS
      go_wp2_with (go_at_call 100; (with_reducible refine (str_any _ _ _ _ HS.out.bld HS.out.le).mono ?_); rintro e w8 ⟨rfl, hb⟩; have HB8 := Lib.hid (HS.out.fin hb); clear hb)
      go_ret2
      exact HP.out _ HB8.out
theorem loca_any (h : Hd) (A : Option Addr) (m c : Nat) (xs : List Int) (w : World) (hI : Il w A m xs) : Calls Tryz.prog 48 #[.agg #[.int .i64 h.em, .bool h.lg, .int .i64 h.gl, .int .i64 h.me, .int .i64 h.a1, .int .i64 h.a2, .int .i64 h.a3], .slice A m c] w (StE (LoE h xs) (LoS h xs) w) := by
  by_cases hm : MayP h
  · by_cases hx : mayPs h xs
    · obtain ⟨G, M, h1, h2, h3, h4, h5, h6⟩ := hm.nat
      have hmG : m = G + 1 := by have := hx.1; have := hI.len; omega
      obtain ⟨em, lg, gl, me, a1, a2, a3⟩ := h
      simp only at h1 h2
      subst h1 h2
      cases lg
      · exact loca_ok_false em G M a1 a2 a3 A m c xs w hI hm hx hmG
      · exact loca_ok_true em G M a1 a2 a3 A m c xs w hI hm hx hmG
    · exact loca_bad h A m c xs w hI hm hx
  · exact loca_no h A m c xs w hm
end N11
end Go.Proofs.YtfhaloclbbmbeaaGreat
namespace Go.Proofs.YtfhaloclbbmbeaaGreat
open Go.RowKit
theorem left_any (g : Nat) (s : ByteArray) (a : Nat) (f : Bool) (w : World) (h : Rd 278 w g s a f) (hs : s.size ≤ 1000000000) (ha : a ≤ s.size) : Calls Tryz.prog 212 #[.pointer (some ⟨g, 0, none⟩)] w fun e w' => e = .returned (.int .i64 ((s.size : Int) - a)) ∧ Below w.heap.size w w' := by
  obtain ⟨f1, f2, f3, _, _⟩ := h.facts
  have hw := i64_in ((s.size : Int) - a) (by omega)
  clear h
  go_enter Tryz.func212, Tryz.ntmps212
  go_wp2_with fail
  go_quiet (fail)
  all_goals
    go_wp2_with fail
    go_ret
    exact ⟨rfl, below_drewN (Below.refl _ _) _⟩
end Go.Proofs.YtfhaloclbbmbeaaGreat
namespace Go.Proofs.YtfhaloclbbmbeaaGreat
open Go.RowKit
theorem outR_len (l : List UInt8) (a : Nat) (f : Bool) (n : Nat) : (outR l a f (n : Int)).length ≤ n := by
  unfold outR
  split
  · simpa using piece_len_le l a n
  · simp
end Go.Proofs.YtfhaloclbbmbeaaGreat
namespace Go.Proofs.YtfhaloclbbmbeaaGreat
open Go.RowKit
theorem rdu16_any (g : Nat) (s : ByteArray) (a : Nat) (f : Bool) (w : World) (h : Rd 278 w g s a f) (hs : s.size ≤ 1000000000) (ha : a ≤ s.size) :
    Calls Tryz.prog 210 #[.pointer (some ⟨g, 0, none⟩)] w fun e w' => e = .returned (.int .u16 (bv (outR s.data.toList a f 2) 0 : Int)) ∧ PsE 278 g s a f 2 w w' := by
  have HP := Lib.hid (next_any g s a f 2 w h hs ha (by omega))
  have hlt := bv_le _ 2 (outR_len s.data.toList a f 2)
  rw [show ((2 : Nat) : Int) = 2 from rfl] at HP hlt
  obtain ⟨m, hm⟩ : ∃ m, m = bv (outR s.data.toList a f 2) 0 := ⟨_, rfl⟩
  rw [← hm] at HP hlt ⊢
  have hw := wrap_u16n m hlt
  clear h hm
  go_enter Tryz.func210, Tryz.ntmps210
  go_wp2_with (go_at_call 203; (with_reducible refine HP.out.mono ?_); rintro e w1 ⟨rfl, hp⟩; have H1 := Lib.hid hp; clear hp)
  go_ret
  exact ⟨rfl, H1.out⟩
end Go.Proofs.YtfhaloclbbmbeaaGreat
