/- Proved here: what Widths answers, joined; what Places answers, in the program. Condition: a text of at most a billion bytes · what Places answers, in the document; both joined. Condition: a text of at most a billion bytes · what strings.Builder's WriteString and String do, at a builder in a block of the call's own. Condition: fewer than 2^47 bytes · what mayWidths and Hmtx answer, in the program. Condition: a list of at most 10^6 numbers. -/
import Derived.Test.YtfhaloclbbmbeaaGreatM11
import Derived.Deep.RegionHeld3
import Derived.Lib.Builder
import Derived.Lib.AppendStr
namespace Go.Proofs.YtfhaloclbbmbeaaGreat
open Go.RowKit
namespace N11
theorem widths_any (h : Hd) (s : ByteArray) (w : World) (hs : s.size ≤ 1000000000) : Calls Tryz.prog 73 #[.agg #[.int .i64 h.em, .bool h.lg, .int .i64 h.gl, .int .i64 h.me, .int .i64 h.a1, .int .i64 h.a2, .int .i64 h.a3], .string s] w (LsE (WE h s.data.toList) (WL h s.data.toList) w) := by
  by_cases hm : MayP h
  · obtain ⟨G, M, h1, h2, h3, h4, h5, h6⟩ := hm.nat
    obtain ⟨em, lg, gl, me, a1, a2, a3⟩ := h
    simp only at h1 h2
    subst h1 h2
    rcases Nat.lt_or_ge s.size (4 * M + 2 * (G - M)) with hl | hl
    · exact widths_short em lg G M a1 a2 a3 s w hm hs hl
    · exact widths_ok em lg G M a1 a2 a3 s w hm hs hl
  · exact widths_no h s w hm
end N11
def plA (lg : Bool) (l : List UInt8) (k : Nat) : Nat := match k with | 0 => 0 | k + 1 => plN lg l k
def okUp (lg : Bool) (l : List UInt8) (z : Int) (n : Nat) : Prop := ∀ i, i < n → plA lg l i ≤ plN lg l i ∧ (plN lg l i : Int) ≤ z
instance (lg : Bool) (l : List UInt8) (z : Int) (n : Nat) : Decidable (okUp lg l z n) := inferInstanceAs (Decidable (∀ i, i < n → _ ∧ _))
def PlE (h : Hd) (l : List UInt8) (z : Int) : Int := if MayP h then (if l.length < (h.gl.toNat + 1) * eaN h.lg then 3 else if okUp h.lg l z (h.gl.toNat + 1) then 0 else 4) else 1
def PlL (h : Hd) (l : List UInt8) (z : Int) : List Int := if PlE h l z = 0 then gen (h.gl.toNat + 1) (fun i => (plN h.lg l i : Int)) else []
theorem okUp_zero (lg : Bool) (l : List UInt8) (z : Int) : okUp lg l z 0 := fun i hi => by omega
theorem okUp_succ {lg : Bool} {l : List UInt8} {z : Int} {k : Nat} (h : okUp lg l z k) (h1 : plA lg l k ≤ plN lg l k) (h2 : (plN lg l k : Int) ≤ z) : okUp lg l z (k + 1) := fun i hi => by
  rcases Nat.lt_or_ge i k with hk | hk
  · exact h i hk
  · rw [show i = k by omega]; exact ⟨h1, h2⟩
theorem ea_le (lg : Bool) (G : Nat) (hG : G ≤ 1024) : (G + 1) * eaN lg ≤ 4100 := by unfold eaN; split <;> omega
namespace N11
theorem places_no (h : Hd) (s : ByteArray) (z : Int) (w : World) (hm : ¬ MayP h) : Calls Tryz.prog 74 #[.agg #[.int .i64 h.em, .bool h.lg, .int .i64 h.gl, .int .i64 h.me, .int .i64 h.a1, .int .i64 h.a2, .int .i64 h.a3], .string s, .int .i64 z] w (LsE (PlE h s.data.toList z) (PlL h s.data.toList z) w) := by
  have hE : PlE h s.data.toList z = 1 := by unfold PlE; rw [if_neg hm]
  have cm := fun W => may_any h W
  rw [decide_eq_false hm] at cm
  have CM := Lib.hid cm
  have S := Lib.hid (MS.start w h)
  have HP := Lib.hid (fun w' (hb : Below w.heap.size w w') => lsE_err hE (show PlL h s.data.toList z = [] by unfold PlL; rw [hE]; rfl) hb)
  obtain ⟨f0, f1, f2, f3, f4, f5, f6⟩ := S.out.cells
  clear cm hm hE
  go_enter Tryz.func74, Tryz.ntmps74
  go_wp2_with (go_at_call 90; (with_reducible refine (CM.out _).mono ?_); rintro e w1 ⟨rfl, hb⟩; have S := Lib.hid (S.out.next hb); clear hb)
  go_ret2
  exact HP.out _ S.out.bel
set_option maxHeartbeats 1000000 in
theorem places_short (em : Int) (lg : Bool) (G M : Nat) (a1 a2 a3 : Int) (s : ByteArray) (z : Int) (w : World) (hm : MayP ⟨em, lg, G, M, a1, a2, a3⟩) (hl : s.size < (G + 1) * eaN lg) :
    Calls Tryz.prog 74 #[.agg #[.int .i64 em, .bool lg, .int .i64 (G : Int), .int .i64 (M : Int), .int .i64 a1, .int .i64 a2, .int .i64 a3], .string s, .int .i64 z] w (LsE (PlE ⟨em, lg, G, M, a1, a2, a3⟩ s.data.toList z) (PlL ⟨em, lg, G, M, a1, a2, a3⟩ s.data.toList z) w) := by
  obtain ⟨_, ⟨b1, b2⟩, ⟨b3, b4⟩, _⟩ := id hm
  simp only at b1 b2 b3 b4
  have hE : PlE ⟨em, lg, G, M, a1, a2, a3⟩ s.data.toList z = 3 := by unfold PlE; rw [if_pos hm, size_list, if_pos (by simpa using hl)]
  have cm := fun W => may_any ⟨em, lg, G, M, a1, a2, a3⟩ W
  rw [decide_eq_true hm] at cm
  have CM := Lib.hid cm
  have S := Lib.hid (MS.start w ⟨em, lg, G, M, a1, a2, a3⟩)
  have hG : G ≤ 1024 := by omega
  have hT1 := ea_le lg G hG
  have e1 : IntKind.i64.wrap ((G : Int) + 1) = ((G + 1 : Nat) : Int) := by rw [i64_in _ (by omega)]; omega
  have HP := Lib.hid (fun w' (hb : Below w.heap.size w w') => lsE_err hE (show PlL ⟨em, lg, G, M, a1, a2, a3⟩ s.data.toList z = [] by unfold PlL; rw [hE]; rfl) hb)
  have CE := Lib.hid (fun W => each_any ⟨em, lg, G, M, a1, a2, a3⟩ W)
  obtain ⟨T, hT⟩ : ∃ T, T = (G + 1) * eaN lg := ⟨_, rfl⟩
  obtain ⟨N, hN⟩ : ∃ N, N = G + 1 := ⟨_, rfl⟩
  rw [← hN] at e1 hT
  simp only at CE
  obtain ⟨ea, hea⟩ : ∃ ea, ea = eaN lg := ⟨_, rfl⟩
  rw [← hea] at CE hT
  have e2 : IntKind.i64.wrap ((N : Int) * (ea : Int)) = (T : Int) := by
    have : (N : Int) * (ea : Int) = ((N * ea : Nat) : Int) := by simp
    rw [this, ← hT, i64_in _ (by rw [hea, hN] at hT; omega)]
  have hlt : s.size < T := by rw [hT, hN, hea]; exact hl
  clear cm hm hE hT hN hea hl hT1 b1 b2 b3 b4
  go_enter Tryz.func74, Tryz.ntmps74
  go_upto_region 1 with fail
  obtain ⟨b, hb⟩ : ∃ b, b = w.heap.size := ⟨_, rfl⟩
  obtain ⟨W0, hW0⟩ : ∃ W, W = w.alloc (.cells #[.int .i64 em, .bool lg, .int .i64 (G : Int), .int .i64 (M : Int), .int .i64 a1, .int .i64 a2, .int .i64 a3] 39) := ⟨_, rfl⟩
  rw [← hW0] at S ⊢
  rw [← hb] at S ⊢
  obtain ⟨f0, f1, f2, f3, f4, f5, f6⟩ := S.out.cells
  clear hb hW0
  go_upto_region 3 with (go_at_call 90; (with_reducible refine (CM.out _).mono ?_); rintro e w1 ⟨rfl, hbl⟩; have S := Lib.hid (S.out.next hbl); clear hbl f0 f1 f2 f3 f4 f5 f6; obtain ⟨f0, f1, f2, f3, f4, f5, f6⟩ := S.out.cells)
  go_region_held3 (fun w' => w'.cell? ⟨b, 0, none⟩ = some (.int .i64 em) ∧ w'.cell? ⟨b, 1, none⟩ = some (.bool lg) ∧ w'.cell? ⟨b, 2, none⟩ = some (.int .i64 (G : Int)) ∧ w'.cell? ⟨b, 3, none⟩ = some (.int .i64 (M : Int)) ∧ w'.cell? ⟨b, 4, none⟩ = some (.int .i64 a1) ∧ w'.cell? ⟨b, 5, none⟩ = some (.int .i64 a2) ∧ w'.cell? ⟨b, 6, none⟩ = some (.int .i64 a3))
    (first | with_reducible exact S.out.cells | go_keep)
    ((go_at_call 146; (with_reducible refine (CE.out _).mono ?_); rintro e wx ⟨rfl, hb⟩; (first | have S := Lib.hid (S.out.next hb) | have S := Lib.hid (S.out.drew.next hb)); clear hb))
  all_goals
    go_wp2_with fail
    go_ret2
    exact HP.out _ S.out.bel
end N11
theorem plE_good {em : Int} {lg : Bool} {G M : Nat} {a1 a2 a3 : Int} {s : ByteArray} {z : Int} {N : Nat} (hN : N = G + 1) (hm : MayP ⟨em, lg, G, M, a1, a2, a3⟩) (hl : (G + 1) * eaN lg ≤ s.size) (h : okUp lg s.data.toList z N) :
    PlE ⟨em, lg, G, M, a1, a2, a3⟩ s.data.toList z = 0 ∧ PlL ⟨em, lg, G, M, a1, a2, a3⟩ s.data.toList z = gen N (fun i => (plN lg s.data.toList i : Int)) := by
  subst hN
  have hE : PlE ⟨em, lg, G, M, a1, a2, a3⟩ s.data.toList z = 0 := by
    unfold PlE
    rw [if_pos hm, if_neg (by rw [size_list]; simpa using hl)]
    exact if_pos h
  refine ⟨hE, ?_⟩
  unfold PlL
  rw [hE]
  rfl
theorem plE_bad {em : Int} {lg : Bool} {G M : Nat} {a1 a2 a3 : Int} {s : ByteArray} {z : Int} {N k : Nat} (hN : N = G + 1) (hm : MayP ⟨em, lg, G, M, a1, a2, a3⟩) (hl : (G + 1) * eaN lg ≤ s.size) (hk : k < N) (h : ¬ (plA lg s.data.toList k ≤ plN lg s.data.toList k ∧ (plN lg s.data.toList k : Int) ≤ z)) :
    PlE ⟨em, lg, G, M, a1, a2, a3⟩ s.data.toList z = 4 ∧ PlL ⟨em, lg, G, M, a1, a2, a3⟩ s.data.toList z = [] := by
  subst hN
  have hE : PlE ⟨em, lg, G, M, a1, a2, a3⟩ s.data.toList z = 4 := by
    unfold PlE
    rw [if_pos hm, if_neg (by rw [size_list]; simpa using hl)]
    exact if_neg (fun h2 => h (h2 k hk))
  refine ⟨hE, ?_⟩
  unfold PlL
  rw [hE]
  rfl
namespace N11
set_option maxHeartbeats 2000000 in
theorem places_ok (em : Int) (lg : Bool) (G M : Nat) (a1 a2 a3 : Int) (s : ByteArray) (z : Int) (w : World) (hm : MayP ⟨em, lg, G, M, a1, a2, a3⟩) (hs : s.size ≤ 1000000000) (hl : (G + 1) * eaN lg ≤ s.size) :
    Calls Tryz.prog 74 #[.agg #[.int .i64 em, .bool lg, .int .i64 (G : Int), .int .i64 (M : Int), .int .i64 a1, .int .i64 a2, .int .i64 a3], .string s, .int .i64 z] w (LsE (PlE ⟨em, lg, G, M, a1, a2, a3⟩ s.data.toList z) (PlL ⟨em, lg, G, M, a1, a2, a3⟩ s.data.toList z) w) := by
  obtain ⟨_, ⟨b1, b2⟩, ⟨b3, b4⟩, _⟩ := id hm
  simp only at b1 b2 b3 b4
  have cm := fun W => may_any ⟨em, lg, G, M, a1, a2, a3⟩ W
  rw [decide_eq_true hm] at cm
  have CM := Lib.hid cm
  have S := Lib.hid (MS.start w ⟨em, lg, G, M, a1, a2, a3⟩)
  have hG : G ≤ 1024 := by omega
  have hT1 := ea_le lg G hG
  have e1 : IntKind.i64.wrap ((G : Int) + 1) = ((G + 1 : Nat) : Int) := by rw [i64_in _ (by omega)]; omega
  have CE := Lib.hid (fun W => each_any ⟨em, lg, G, M, a1, a2, a3⟩ W)
  have HG := Lib.hid (fun N (hN : N = G + 1) (h : okUp lg s.data.toList z N) => plE_good hN hm hl h)
  have HB := Lib.hid (fun N k (hN : N = G + 1) (hk : k < N) h => plE_bad (z := z) (k := k) hN hm hl hk h)
  have CP := Lib.hid (show ∀ k, k < G + 1 → ∀ W, Calls Tryz.prog 147 #[.agg #[.int .i64 em, .bool lg, .int .i64 (G : Int), .int .i64 (M : Int), .int .i64 a1, .int .i64 a2, .int .i64 a3], .string s, .int .i64 (k : Int)] W fun e w' => e = .returned (.int .i64 (plN lg s.data.toList k : Int)) ∧ Below W.heap.size W w' from fun k hk W => place_any ⟨em, lg, G, M, a1, a2, a3⟩ s k W hs (Nat.le_trans (Nat.mul_le_mul_right _ (by omega)) hl))
  obtain ⟨T, hT⟩ : ∃ T, T = (G + 1) * eaN lg := ⟨_, rfl⟩
  obtain ⟨N, hN⟩ : ∃ N, N = G + 1 := ⟨_, rfl⟩
  rw [← hN] at e1 hT CP
  have HG := Lib.hid (HG.out N hN)
  have HB := Lib.hid (fun k => HB.out N k hN)
  simp only at CE
  obtain ⟨ea, hea⟩ : ∃ ea, ea = eaN lg := ⟨_, rfl⟩
  rw [← hea] at CE hT
  have e2 : IntKind.i64.wrap ((N : Int) * (ea : Int)) = (T : Int) := by
    have : (N : Int) * (ea : Int) = ((N * ea : Nat) : Int) := by simp
    rw [this, ← hT, i64_in _ (by rw [hea, hN] at hT; omega)]
  have hlt : ¬ s.size < T := by rw [hT, hN, hea]; omega
  have hmk := fun W => mkInt N (by omega) W (N : Int) rfl
  have hNG : N ≤ 1025 := by omega
  clear cm hm hT hN hea hl hT1 b1 b2 b3 b4 hs
  go_enter Tryz.func74, Tryz.ntmps74
  go_upto_region 1 with fail
  obtain ⟨b, hb⟩ : ∃ b, b = w.heap.size := ⟨_, rfl⟩
  obtain ⟨W0, hW0⟩ : ∃ W, W = w.alloc (.cells #[.int .i64 em, .bool lg, .int .i64 (G : Int), .int .i64 (M : Int), .int .i64 a1, .int .i64 a2, .int .i64 a3] 39) := ⟨_, rfl⟩
  rw [← hW0] at S ⊢
  rw [← hb] at S ⊢
  obtain ⟨f0, f1, f2, f3, f4, f5, f6⟩ := S.out.cells
  clear hb hW0
  go_upto_region 3 with (go_at_call 90; (with_reducible refine (CM.out _).mono ?_); rintro e w1 ⟨rfl, hbl⟩; have S := Lib.hid (S.out.next hbl); clear hbl f0 f1 f2 f3 f4 f5 f6; obtain ⟨f0, f1, f2, f3, f4, f5, f6⟩ := S.out.cells)
  go_region_held3 (fun w' => w'.cell? ⟨b, 0, none⟩ = some (.int .i64 em) ∧ w'.cell? ⟨b, 1, none⟩ = some (.bool lg) ∧ w'.cell? ⟨b, 2, none⟩ = some (.int .i64 (G : Int)) ∧ w'.cell? ⟨b, 3, none⟩ = some (.int .i64 (M : Int)) ∧ w'.cell? ⟨b, 4, none⟩ = some (.int .i64 a1) ∧ w'.cell? ⟨b, 5, none⟩ = some (.int .i64 a2) ∧ w'.cell? ⟨b, 6, none⟩ = some (.int .i64 a3))
    (first | with_reducible exact S.out.cells | go_keep)
    ((go_at_call 146; (with_reducible refine (CE.out _).mono ?_); rintro e wx ⟨rfl, hb⟩; (first | have S := Lib.hid (S.out.next hb) | have S := Lib.hid (S.out.drew.next hb)); clear hb))
  clear f0 f1 f2 f3 f4 f5 f6
  go_upto_region 5 with fail
  obtain ⟨f0, f1, f2, f3, f4, f5, f6⟩ := S.out.cells
  go_upto_region 6 with fail
  obtain ⟨f, hf⟩ : ∃ f : Nat → Int, f = fun i => (plN lg s.data.toList i : Int) := ⟨_, rfl⟩
  have HF := Lib.hid (Fw.start S.out N)
  obtain ⟨g, hg⟩ : ∃ g, g = wx.heap.size := ⟨_, rfl⟩
  obtain ⟨W2, hW2⟩ : ∃ W, W = wx.alloc (.cells (ci (List.replicate N 0)).toArray 3) := ⟨_, rfl⟩
  rw [← hW2] at HF ⊢
  rw [← hg] at HF ⊢
  rw [← fill_start N f] at HF
  have HFF := Lib.hid (show ∀ i, f i = (plN lg s.data.toList i : Int) from fun i => by rw [hf])
  rw [← hf] at HG
  clear hg hW2 hf f0 f1 f2 f3 f4 f5 f6 S hmk hlt e1 e2 CM CE
  go_wp2_with fail
  go_loopw [9, 30] (fun v i wr => ∃ k : Nat, v = .int .i64 (plA lg s.data.toList k : Int) ∧ i = .int .i64 (k : Int) ∧ k ≤ N ∧ okUp lg s.data.toList z k ∧ Fw w wr b g ⟨em, lg, G, M, a1, a2, a3⟩ (fillN N f k)) (fun _ i _ => N - (intOf i).toNat)
  case atStart => exact ⟨0, rfl, rfl, Nat.zero_le _, okUp_zero _ _ _, HF.out⟩
  case round =>
    obtain ⟨k, rfl, rfl, hk, hok, hF⟩ := hrel
    have HF := Lib.hid hF
    have HOK := Lib.hid hok
    by_cases hgo : k < N
    · have HC := Lib.hid (CP.out k hgo)
      have HBK := Lib.hid (HB.out k hgo)
      have HSU := Lib.hid (fun h1 h2 => okUp_succ HOK.out h1 h2)
      have HNX := Lib.hid (show plA lg s.data.toList (k + 1) = plN lg s.data.toList k from rfl)
      have HFK := Lib.hid (HFF.out k)
      obtain ⟨p, hp⟩ : ∃ p, p = plN lg s.data.toList k := ⟨_, rfl⟩
      obtain ⟨q, hq⟩ : ∃ q, q = plA lg s.data.toList k := ⟨_, rfl⟩
      rw [← hp] at HC HBK HSU HNX HFK
      rw [← hq] at HBK HSU ⊢
      obtain ⟨f0, f1, f2, f3, f4, f5, f6⟩ := hF.ms.cells
      have HLN := Lib.hid (fill_len f hk)
      have HLT := Lib.hid hgo
      clear hF hok hp hq
      by_cases hpq : p < q
      · have HX := Lib.hid (HBK.out (by omega))
        go_wp2_with (go_at_call 147; (with_reducible refine (HC.out _).mono ?_); rintro e w2 ⟨rfl, hbl⟩; have HF := Lib.hid (HF.out.next hbl); clear hbl)
        go_ret2
        exact lsE_err HX.out.1 HX.out.2 HF.out.ms.bel
      · by_cases hpz : z < (p : Int)
        · have HX := Lib.hid (HBK.out (by omega))
          go_wp2_with (go_at_call 147; (with_reducible refine (HC.out _).mono ?_); rintro e w2 ⟨rfl, hbl⟩; have HF := Lib.hid (HF.out.next hbl); clear hbl)
          go_ret2
          exact lsE_err HX.out.1 HX.out.2 HF.out.ms.bel
        · have HX := Lib.hid (HSU.out (by omega) (by omega))
          go_wp2_with (go_at_call 147; (with_reducible refine (HC.out _).mono ?_); rintro e w2 ⟨rfl, hbl⟩; have HF := Lib.hid (HF.out.next hbl); clear hbl; have g0 := HF.out.row.get k (by rw [HLN.out]; exact HLT.out); have g1 := HF.out.row.fr k)
          exact ⟨⟨k + 1, by rw [HNX.out], by simp, by omega, HX.out, by rw [← fill_set f HLT.out, HFK.out]; exact HF.out.set k _⟩, by simp [intOf]; omega⟩
    · obtain rfl : k = N := by omega
      rw [fill_end] at HF
      have HX := Lib.hid (HG.out HOK.out)
      clear hF hok
      go_wp2_with fail
      go_ret2
      exact HF.out.fin (by rw [gen_len]) HX.out.1 HX.out.2
end N11
end Go.Proofs.YtfhaloclbbmbeaaGreat
namespace Go.Proofs.YtfhaloclbbmbeaaGreat
open Go.RowKit
namespace N11
theorem places_any (h : Hd) (s : ByteArray) (z : Int) (w : World) (hs : s.size ≤ 1000000000) : Calls Tryz.prog 74 #[.agg #[.int .i64 h.em, .bool h.lg, .int .i64 h.gl, .int .i64 h.me, .int .i64 h.a1, .int .i64 h.a2, .int .i64 h.a3], .string s, .int .i64 z] w (LsE (PlE h s.data.toList z) (PlL h s.data.toList z) w) := by
  by_cases hm : MayP h
  · obtain ⟨G, M, h1, h2, h3, h4, h5, h6⟩ := hm.nat
    obtain ⟨em, lg, gl, me, a1, a2, a3⟩ := h
    simp only at h1 h2
    subst h1 h2
    rcases Nat.lt_or_ge s.size ((G + 1) * eaN lg) with hl | hl
    · exact places_short em lg G M a1 a2 a3 s z w hm hl
    · exact places_ok em lg G M a1 a2 a3 s z w hm hs hl
  · exact places_no h s z w hm
end N11
end Go.Proofs.YtfhaloclbbmbeaaGreat
namespace Go.Proofs.YtfhaloclbbmbeaaGreat
open Go.RowKit
end Go.Proofs.YtfhaloclbbmbeaaGreat
namespace Go.Proofs.YtfhaloclbbmbeaaGreat
open Go.RowKit
def okW (M : Nat) (xs : List Int) (n : Nat) : Prop := ∀ i, i < n → 0 ≤ co xs i ∧ co xs i ≤ 65535 ∧ co xs i = co xs (min i (M - 1))
instance (M : Nat) (xs : List Int) (n : Nat) : Decidable (okW M xs n) := inferInstanceAs (Decidable (∀ i, i < n → _))
def mayW (h : Hd) (xs : List Int) : Prop := (xs.length : Int) = h.gl ∧ okW h.me.toNat xs xs.length
instance (h : Hd) (xs : List Int) : Decidable (mayW h xs) := inferInstanceAs (Decidable (_ ∧ _))
theorem okW_succ {M : Nat} {xs : List Int} {k : Nat} (h : okW M xs k) (h1 : 0 ≤ co xs k ∧ co xs k ≤ 65535 ∧ co xs k = co xs (min k (M - 1))) : okW M xs (k + 1) := fun i hi => by
  rcases Nat.lt_or_ge i k with hk | hk
  · exact h i hk
  · rw [show i = k by omega]; exact h1
namespace N11
theorem mayW_no (em : Int) (lg : Bool) (G M : Nat) (a1 a2 a3 : Int) (A : Option Addr) (m c : Nat) (xs : List Int) (w : World) (hI : Il w A m xs) (hne : ¬ m = G) :
    Calls Tryz.prog 101 #[.agg #[.int .i64 em, .bool lg, .int .i64 (G : Int), .int .i64 (M : Int), .int .i64 a1, .int .i64 a2, .int .i64 a3], .slice A m c] w fun e w' => e = .returned (.bool (decide (mayW ⟨em, lg, G, M, a1, a2, a3⟩ xs))) ∧ Below w.heap.size w w' := by
  have hE : decide (mayW ⟨em, lg, G, M, a1, a2, a3⟩ xs) = false := decide_eq_false (fun h => hne (by have h1 := h.1; have := hI.len; simp only at h1; omega))
  have S := Lib.hid (MS.start w ⟨em, lg, G, M, a1, a2, a3⟩)
  obtain ⟨f0, f1, f2, f3, f4, f5, f6⟩ := S.out.cells
  rw [hE]
  clear hE hI
  go_enter Tryz.func101, Tryz.ntmps101
  go_wp2_with fail
  go_ret
  exact ⟨rfl, S.out.bel⟩
set_option maxHeartbeats 2000000 in
theorem mayW_yes (em : Int) (lg : Bool) (G M : Nat) (a1 a2 a3 : Int) (A : Option Addr) (c : Nat) (xs : List Int) (w : World) (hm : MayP ⟨em, lg, G, M, a1, a2, a3⟩) (hI : Il w A G xs) :
    Calls Tryz.prog 101 #[.agg #[.int .i64 em, .bool lg, .int .i64 (G : Int), .int .i64 (M : Int), .int .i64 a1, .int .i64 a2, .int .i64 a3], .slice A G c] w fun e w' => e = .returned (.bool (decide (mayW ⟨em, lg, G, M, a1, a2, a3⟩ xs))) ∧ Below w.heap.size w w' := by
  obtain ⟨_, ⟨b1, b2⟩, ⟨b3, b4⟩, _⟩ := id hm
  simp only at b1 b2 b3 b4
  have hG : G ≤ 1024 := by omega
  have hlen := hI.len
  have HY := Lib.hid (show okW M xs G → decide (mayW ⟨em, lg, G, M, a1, a2, a3⟩ xs) = true from fun h => decide_eq_true ⟨by simp only; omega, by rw [hlen]; exact h⟩)
  have HN := Lib.hid (show ∀ k, k < G → ¬ (0 ≤ co xs k ∧ co xs k ≤ 65535 ∧ co xs k = co xs (min k (M - 1))) → decide (mayW ⟨em, lg, G, M, a1, a2, a3⟩ xs) = false from fun k hk h => decide_eq_false (fun h2 => h (h2.2 k (by rw [hlen]; exact hk))))
  have e5 : IntKind.i64.wrap ((M : Int) - 1) = ((M - 1 : Nat) : Int) := by rw [i64_in _ (by omega)]; omega
  obtain ⟨M1, hM1⟩ : ∃ j, j = M - 1 := ⟨_, rfl⟩
  rw [← hM1] at e5 HN
  have HM1 := Lib.hid (show M1 < G by omega)
  have S := Lib.hid (MS.start w ⟨em, lg, G, M, a1, a2, a3⟩)
  have HI := Lib.hid hI
  have HOK0 := Lib.hid (show okW M xs 0 from fun i hi => by omega)
  have HSU := Lib.hid (show ∀ k, okW M xs k → 0 ≤ co xs k ∧ co xs k ≤ 65535 ∧ co xs k = co xs (min k M1) → okW M xs (k + 1) from fun k h h1 => okW_succ h (by rw [← hM1]; exact h1))
  clear hm hI hlen hM1 b1 b2 b3 b4
  go_enter Tryz.func101, Tryz.ntmps101
  go_upto_region 1 with fail
  obtain ⟨b, hb⟩ : ∃ b, b = w.heap.size := ⟨_, rfl⟩
  obtain ⟨W0, hW0⟩ : ∃ W, W = w.alloc (.cells #[.int .i64 em, .bool lg, .int .i64 (G : Int), .int .i64 (M : Int), .int .i64 a1, .int .i64 a2, .int .i64 a3] 39) := ⟨_, rfl⟩
  rw [← hW0] at S ⊢
  rw [← hb] at S ⊢
  obtain ⟨f0, f1, f2, f3, f4, f5, f6⟩ := S.out.cells
  clear hb hW0
  go_wp2_with fail
  go_loopw [14] (fun i wr => ∃ k : Nat, i = .int .i64 (k : Int) ∧ k ≤ G ∧ okW M xs k ∧ MS w wr b ⟨em, lg, G, M, a1, a2, a3⟩) (fun i _ => G - (intOf i).toNat)
  case atStart => exact ⟨0, rfl, Nat.zero_le _, HOK0.out, S.out⟩
  case round =>
    obtain ⟨k, rfl, hk, hok, hS⟩ := hrel
    have HS := Lib.hid hS
    have HOK := Lib.hid hok
    by_cases hgo : k < G
    · obtain ⟨f0, f1, f2, f3, f4, f5, f6⟩ := hS.cells
      obtain ⟨a, rfl, c0⟩ := HI.out.at_ hS.bel hgo
      obtain ⟨a', ha', c1⟩ := HI.out.at_ hS.bel HM1.out
      injection ha' with ha'
      subst ha'
      have hM1 := HM1.out
      have HSK := Lib.hid (HSU.out k hok)
      have HNK := Lib.hid (HN.out k hgo)
      have hmin : min k M1 = if M1 < k then M1 else k := by split <;> omega
      rw [hmin] at HSK HNK
      obtain ⟨x, hx⟩ : ∃ x, x = co xs k := ⟨_, rfl⟩
      by_cases hmk : M1 < k
      · rw [if_pos hmk] at HSK HNK
        have hmn : min (k : Int) (M1 : Int) = (M1 : Int) := by omega
        obtain ⟨y, hy⟩ : ∃ y, y = co xs M1 := ⟨_, rfl⟩
        rw [← hx, ← hy] at HSK HNK
        rw [← hx] at c0
        rw [← hy] at c1
        clear hS hok hmin hx hy
        by_cases h0 : x < 0
        · have HX := Lib.hid (HNK.out (by omega))
          go_wp2_with fail
          go_ret
          exact ⟨by rw [HX.out]; rfl, HS.out.bel⟩
        · by_cases h1 : 65535 < x
          · have HX := Lib.hid (HNK.out (by omega))
            go_wp2_with fail
            go_ret
            exact ⟨by rw [HX.out]; rfl, HS.out.bel⟩
          · by_cases h2 : x = y
            · have HX := Lib.hid (HSK.out (by omega))
              subst h2
              go_wp2_with fail
              exact ⟨⟨k + 1, by simp, by omega, HX.out, HS.out⟩, by simp [intOf]; omega⟩
            · have HX := Lib.hid (HNK.out (fun h => h2 h.2.2))
              have h3 : (x != y) = true := by simp [h2]
              go_wp2_with fail
              go_ret
              exact ⟨by rw [HX.out]; rfl, HS.out.bel⟩
      · rw [if_neg hmk, ← hx] at HSK HNK
        have hmn : min (k : Int) (M1 : Int) = (k : Int) := by omega
        rw [← hx] at c0
        clear hS hok hmin hx c1
        by_cases h0 : x < 0
        · have HX := Lib.hid (HNK.out (by omega))
          go_wp2_with fail
          go_ret
          exact ⟨by rw [HX.out]; rfl, HS.out.bel⟩
        · by_cases h1 : 65535 < x
          · have HX := Lib.hid (HNK.out (by omega))
            go_wp2_with fail
            go_ret
            exact ⟨by rw [HX.out]; rfl, HS.out.bel⟩
          · have HX := Lib.hid (HSK.out (by omega))
            go_wp2_with fail
            exact ⟨⟨k + 1, by simp, by omega, HX.out, HS.out⟩, by simp [intOf]; omega⟩
    · obtain rfl : k = G := by omega
      have HX := Lib.hid (HY.out hok)
      clear hS hok
      go_wp2_with fail
      go_ret
      exact ⟨by rw [HX.out]; rfl, HS.out.bel⟩
theorem mayW_any (h : Hd) (A : Option Addr) (m c : Nat) (xs : List Int) (w : World) (hm : MayP h) (hI : Il w A m xs) :
    Calls Tryz.prog 101 #[.agg #[.int .i64 h.em, .bool h.lg, .int .i64 h.gl, .int .i64 h.me, .int .i64 h.a1, .int .i64 h.a2, .int .i64 h.a3], .slice A m c] w fun e w' => e = .returned (.bool (decide (mayW h xs))) ∧ Below w.heap.size w w' := by
  obtain ⟨G, M, h1, h2, h3, h4, h5, h6⟩ := hm.nat
  obtain ⟨em, lg, gl, me, a1, a2, a3⟩ := h
  simp only at h1 h2
  subst h1 h2
  by_cases he : m = G
  · subst he
    exact mayW_yes em lg m M a1 a2 a3 A c xs w hm hI
  · exact mayW_no em lg G M a1 a2 a3 A m c xs w hI he
end N11
end Go.Proofs.YtfhaloclbbmbeaaGreat
