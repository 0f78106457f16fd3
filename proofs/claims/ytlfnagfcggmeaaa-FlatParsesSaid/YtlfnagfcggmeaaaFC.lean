/- Proved here: what the document's Outline, Depth and Same answer. Condition: shapes that lie in memory, within limits. · what the document's Same answers of shapes and themselves. Condition: shapes that lie in memory, within limits. -/
import Derived.Test.YtlfnagfcggmeaaaFg
import Derived.Deep.RegionHeld3
namespace Go.Proofs.Ytlfnagfcggmeaaa
open Go.RowKit

theorem goL_err (rec : Int → List Int → Int → GR) (pl : Bool) (now : List Int) :
    ∀ (r : List C.Prt) (out : List (List Pt)) (d v : Int), (goL rec pl now r out d v).1 ≠ 0 → (goL rec pl now r out d v).2.1 = [] ∧ (goL rec pl now r out d v).2.2.1 = 0
  | [], out, d, v, h => absurd rfl h
  | p :: r, out, d, v, h => by
    rw [goL_cons] at h ⊢
    by_cases c1 : p.1 ∈ now
    · rw [if_pos c1]; exact ⟨rfl, rfl⟩
    rw [if_neg c1] at h ⊢
    by_cases c2 : 8 < now.length
    · rw [if_pos c2]; exact ⟨rfl, rfl⟩
    rw [if_neg c2] at h ⊢
    by_cases c3 : 4096 < v + 1
    · rw [if_pos c3]; exact ⟨rfl, rfl⟩
    rw [if_neg c3] at h ⊢
    by_cases c4 : (rec p.1 now (v + 1)).1 ≠ 0
    · rw [if_pos c4]; exact ⟨rfl, rfl⟩
    rw [if_neg c4] at h ⊢
    by_cases c5 : pl = true
    · rw [if_pos c5] at h ⊢; exact goL_err rec pl now r _ _ _ h
    rw [if_neg c5] at h ⊢
    by_cases c6 : movE p (rec p.1 now (v + 1)).2.1 ≠ 0
    · rw [if_pos c6]; exact ⟨rfl, rfl⟩
    rw [if_neg c6] at h ⊢
    by_cases c7 : 256 < (out ++ movL p (rec p.1 now (v + 1)).2.1).length ∨ 4096 < tots (out ++ movL p (rec p.1 now (v + 1)).2.1)
    · rw [if_pos c7]; exact ⟨rfl, rfl⟩
    rw [if_neg c7] at h ⊢
    exact goL_err rec pl now r _ _ _ h
theorem goP_nil (SS : List Shp) (pl : Bool) (n : Nat) (g : Int) (inn : List Int) (v : Int) (h : (goP SS pl (n + 1) g inn v).1 ≠ 0) : (goP SS pl (n + 1) g inn v).2.1 = [] ∧ (goP SS pl (n + 1) g inn v).2.2.1 = 0 := by
  unfold goP at h ⊢
  by_cases c : (sh SS g.toNat).2 = []
  · rw [if_pos c] at h; exact absurd rfl h
  · rw [if_neg c] at h ⊢; exact goL_err _ pl _ _ _ _ _ h
/-- What Outline and Depth answer: an error, and the outline, or how deep. -/
def okG15 (SS : List Shp) (G : Int) : Prop := MayS SS ∧ 0 ≤ G ∧ G < (SS.length : Int)
instance (SS : List Shp) (G : Int) : Decidable (okG15 SS G) := inferInstanceAs (Decidable (_ ∧ _))
def outA (SS : List Shp) (G : Int) : Int × List (List Pt) := if okG15 SS G then ((goP SS false 9 G [] 0).1, (goP SS false 9 G [] 0).2.1) else (1, [])
def depA (SS : List Shp) (G : Int) : Int × Int := if okG15 SS G then ((goP SS true 9 G [] 0).1, (goP SS true 9 G [] 0).2.2.1) else (1, 0)
theorem go_top (SS : List Shp) (pl : Bool) (A : Option Addr) (m c : Nat) (i : Nat) (w : World) (hM : MayS SS) (hS : Shl w A m SS) (hi : i < m) :
    Gr (w.alloc (.cells #[.slice A m c, .int .i64 0, .bool pl] 61)) w.heap.size A m c 0 pl ∧
    Calls Try.prog 20 #[.pointer (some ⟨w.heap.size, 0, none⟩), .int .i64 (i : Int), .slice none 0 0] (w.alloc (.cells #[.slice A m c, .int .i64 0, .bool pl] 61)) (GoP (goP SS pl 9 (i : Int) [] 0) w.heap.size A m c pl (w.alloc (.cells #[.slice A m c, .int .i64 0, .bool pl] 61))) := by
  have hg : Gr (w.alloc (.cells #[.slice A m c, .int .i64 0, .bool pl] 61)) w.heap.size A m c 0 pl := heap_alloc_new w _
  have ho : Onl w.heap.size w (w.alloc (.cells #[.slice A m c, .int .i64 0, .bool pl] 61)) := Onl.of ((Below.refl _ _).alloc (Nat.le_refl _) _)
  exact ⟨hg, go_any SS hM pl w.heap.size A m c hS.len.symm 9 i [] 0 none 0 0 _ (by omega) rfl hi (by omega) (by omega) hg ((ShlN.old hS (Nat.le_refl _)).onl ho) rfl (.inl ⟨rfl, rfl, rfl, rfl⟩)⟩
set_option maxHeartbeats 4000000 in
set_option maxRecDepth 100000 in
theorem routline_any (A : Option Addr) (m c : Nat) (SS : List Shp) (G : Int) (w : World) (hP : Shl w A m SS) (hL : LimS SS) (hm : m ≤ 100000) :
    Calls Try.prog 9 #[.slice A m c, .int .i64 G] w (PaP (outA SS G) w) := by
  have hlen := hP.len
  have CM := Lib.hid (smay_any A m c SS w hP hL hm)
  by_cases hM : MayS SS
  rotate_left
  · rw [decide_eq_false hM] at CM
    have HX := Lib.hid (show outA SS G = (1, []) from by unfold outA; rw [if_neg (fun h => hM h.1)])
    clear hP hL hlen hM
    go_enter Try.func9, Try.ntmps9
    go_wp2_with (go_at_call 14; (with_reducible refine CM.out.mono ?_); rintro e w1 ⟨rfl, hb⟩; have HB := Lib.hid hb; clear hb)
    go_ret2
    exact paP_err HX.out HB.out
  rw [decide_eq_true hM] at CM
  by_cases h0 : G < 0
  · have HX := Lib.hid (show outA SS G = (1, []) from by unfold outA; rw [if_neg (fun h => by have := h.2.1; omega)])
    clear hP hL hlen hM
    go_enter Try.func9, Try.ntmps9
    go_wp2_with (go_at_call 14; (with_reducible refine CM.out.mono ?_); rintro e w1 ⟨rfl, hb⟩; have HB := Lib.hid hb; clear hb)
    go_ret2
    exact paP_err HX.out HB.out
  by_cases h1 : (m : Int) ≤ G
  · have HX := Lib.hid (show outA SS G = (1, []) from by unfold outA; rw [if_neg (fun h => by have := h.2.2; omega)])
    have e1 : decide ((m : Int) ≤ G) = true := decide_eq_true h1
    clear hP hL hlen hM
    go_enter Try.func9, Try.ntmps9
    go_wp2_with (go_at_call 14; (with_reducible refine CM.out.mono ?_); rintro e w1 ⟨rfl, hb⟩; have HB := Lib.hid hb; clear hb)
    go_ret2
    exact paP_err HX.out HB.out
  obtain ⟨i, rfl⟩ : ∃ i : Nat, G = (i : Int) := ⟨G.toNat, by omega⟩
  have e1 : decide ((m : Int) ≤ (i : Int)) = false := decide_eq_false h1
  have e0 : decide ((i : Int) < 0) = false := decide_eq_false h0
  have HX := Lib.hid (show outA SS (i : Int) = ((goP SS false 9 (i : Int) [] 0).1, (goP SS false 9 (i : Int) [] 0).2.1) from by unfold outA; rw [if_pos ⟨hM, by omega, by omega⟩])
  have HN := Lib.hid (goP_nil SS false 8 (i : Int) [] 0)
  have CG := Lib.hid (fun W (hb : Below w.heap.size w W) => (go_top SS false A m c i W hM (hP.bel hb) (by omega)).2)
  obtain ⟨R, hR⟩ : ∃ R, R = goP SS false 9 (i : Int) [] 0 := ⟨_, rfl⟩
  rw [← hR] at HX HN CG
  obtain ⟨E, L, d, v⟩ := R
  dsimp only at HX HN
  clear hP hL hlen hM hR
  by_cases hE : E = 0
  · subst hE
    go_enter Try.func9, Try.ntmps9
    go_wp2_with (first
      | (go_at_call 14; (with_reducible refine CM.out.mono ?_); rintro e w1 ⟨rfl, hb⟩; have HB := Lib.hid hb; clear hb)
      | (go_at_call 20; (with_reducible refine (CG.out _ HB.out).mono ?_); rintro e w2 ⟨A', k', c', rfl, ho, _, hc⟩; have HO := Lib.hid ho; have HC := Lib.hid hc; clear ho hc))
    go_ret2
    refine ⟨A', k', c', by rw [HX.out]; rfl, by rw [HX.out]; exact HC.out.ctl, ?_⟩
    have hb0 := HB.out.alloc HB.out.size (.cells #[.slice A m c, .int .i64 0, .bool false] 61)
    exact hb0.trans (HO.out.below HB.out.size hb0.size)
  · have e2 : (E != 0) = true := by simp [hE]
    obtain ⟨hl, hd⟩ := HN.out hE
    subst hl
    clear hE hd
    go_enter Try.func9, Try.ntmps9
    go_wp2_with (first
      | (go_at_call 14; (with_reducible refine CM.out.mono ?_); rintro e w1 ⟨rfl, hb⟩; have HB := Lib.hid hb; clear hb)
      | (go_at_call 20; (with_reducible refine (CG.out _ HB.out).mono ?_); rintro e w2 ⟨A', k', c', rfl, ho, _, hc⟩; have HO := Lib.hid ho; clear ho hc))
    go_ret2
    have hb0 := HB.out.alloc HB.out.size (.cells #[.slice A m c, .int .i64 0, .bool false] 61)
    exact paP_err HX.out (hb0.trans (HO.out.below HB.out.size hb0.size))
set_option maxHeartbeats 4000000 in
set_option maxRecDepth 100000 in
theorem rdepth_any (A : Option Addr) (m c : Nat) (SS : List Shp) (G : Int) (w : World) (hP : Shl w A m SS) (hL : LimS SS) (hm : m ≤ 100000) :
    Calls Try.prog 11 #[.slice A m c, .int .i64 G] w fun e w' => e = .returned (.tuple #[.int .i64 (depA SS G).2, .int .i64 (depA SS G).1]) ∧ Below w.heap.size w w' := by
  have hlen := hP.len
  have CM := Lib.hid (smay_any A m c SS w hP hL hm)
  by_cases hM : MayS SS
  rotate_left
  · rw [decide_eq_false hM] at CM
    have HX := Lib.hid (show depA SS G = (1, 0) from by unfold depA; rw [if_neg (fun h => hM h.1)])
    clear hP hL hlen hM
    go_enter Try.func11, Try.ntmps11
    go_wp2_with (go_at_call 14; (with_reducible refine CM.out.mono ?_); rintro e w1 ⟨rfl, hb⟩; have HB := Lib.hid hb; clear hb)
    go_ret2
    exact ⟨by rw [HX.out]; rfl, HB.out⟩
  rw [decide_eq_true hM] at CM
  by_cases h0 : G < 0
  · have HX := Lib.hid (show depA SS G = (1, 0) from by unfold depA; rw [if_neg (fun h => by have := h.2.1; omega)])
    clear hP hL hlen hM
    go_enter Try.func11, Try.ntmps11
    go_wp2_with (go_at_call 14; (with_reducible refine CM.out.mono ?_); rintro e w1 ⟨rfl, hb⟩; have HB := Lib.hid hb; clear hb)
    go_ret2
    exact ⟨by rw [HX.out]; rfl, HB.out⟩
  by_cases h1 : (m : Int) ≤ G
  · have HX := Lib.hid (show depA SS G = (1, 0) from by unfold depA; rw [if_neg (fun h => by have := h.2.2; omega)])
    have e1 : decide ((m : Int) ≤ G) = true := decide_eq_true h1
    clear hP hL hlen hM
    go_enter Try.func11, Try.ntmps11
    go_wp2_with (go_at_call 14; (with_reducible refine CM.out.mono ?_); rintro e w1 ⟨rfl, hb⟩; have HB := Lib.hid hb; clear hb)
    go_ret2
    exact ⟨by rw [HX.out]; rfl, HB.out⟩
  obtain ⟨i, rfl⟩ : ∃ i : Nat, G = (i : Int) := ⟨G.toNat, by omega⟩
  have e1 : decide ((m : Int) ≤ (i : Int)) = false := decide_eq_false h1
  have e0 : decide ((i : Int) < 0) = false := decide_eq_false h0
  have HX := Lib.hid (show depA SS (i : Int) = ((goP SS true 9 (i : Int) [] 0).1, (goP SS true 9 (i : Int) [] 0).2.2.1) from by unfold depA; rw [if_pos ⟨hM, by omega, by omega⟩])
  have HN := Lib.hid (goP_nil SS true 8 (i : Int) [] 0)
  have CG := Lib.hid (fun W (hb : Below w.heap.size w W) => (go_top SS true A m c i W hM (hP.bel hb) (by omega)).2)
  obtain ⟨R, hR⟩ : ∃ R, R = goP SS true 9 (i : Int) [] 0 := ⟨_, rfl⟩
  rw [← hR] at HX HN CG
  obtain ⟨E, L, d, v⟩ := R
  dsimp only at HX HN
  clear hP hL hlen hM hR
  by_cases hE : E = 0
  · subst hE
    go_enter Try.func11, Try.ntmps11
    go_wp2_with (first
      | (go_at_call 14; (with_reducible refine CM.out.mono ?_); rintro e w1 ⟨rfl, hb⟩; have HB := Lib.hid hb; clear hb)
      | (go_at_call 20; (with_reducible refine (CG.out _ HB.out).mono ?_); rintro e w2 ⟨A', k', c', rfl, ho, _, hc⟩; have HO := Lib.hid ho; have HC := Lib.hid hc; clear ho hc))
    go_ret2
    refine ⟨by rw [HX.out]; rfl, ?_⟩
    have hb0 := HB.out.alloc HB.out.size (.cells #[.slice A m c, .int .i64 0, .bool true] 61)
    exact hb0.trans (HO.out.below HB.out.size hb0.size)
  · have e2 : (E != 0) = true := by simp [hE]
    obtain ⟨hl, hd⟩ := HN.out hE
    subst hd
    clear hE hl
    go_enter Try.func11, Try.ntmps11
    go_wp2_with (first
      | (go_at_call 14; (with_reducible refine CM.out.mono ?_); rintro e w1 ⟨rfl, hb⟩; have HB := Lib.hid hb; clear hb)
      | (go_at_call 20; (with_reducible refine (CG.out _ HB.out).mono ?_); rintro e w2 ⟨A', k', c', rfl, ho, _, hc⟩; have HO := Lib.hid ho; clear ho hc))
    go_ret2
    have hb0 := HB.out.alloc HB.out.size (.cells #[.slice A m c, .int .i64 0, .bool true] 61)
    exact ⟨by rw [HX.out]; rfl, hb0.trans (HO.out.below HB.out.size hb0.size)⟩
end Go.Proofs.Ytlfnagfcggmeaaa
namespace Go.Proofs.Ytlfnagfcggmeaaa
open Go.RowKit

theorem Shl.lt {w : World} {ad : Addr} {m : Nat} {SS : List Shp} (h : Shl w (some ad) m SS) {i : Nat} (hi : i < m) : ad.block < w.heap.size := by
  obtain ⟨ad', B, c, B', c', h1, h2, _⟩ := h.get i hi
  injection h1 with h1
  subst h1
  exact h2
set_option maxHeartbeats 8000000 in
set_option maxRecDepth 100000 in
theorem ssame_any (A A' : Option Addr) (m c c' : Nat) (SS : List Shp) (w : World) (h : Shl w A m SS) (h' : Shl w A' m SS) (hL : ∀ i, i < m → (sh SS i).1.length ≤ 1000000 ∧ (∀ j, j < (sh SS i).1.length → (ct (sh SS i).1 j).length ≤ 1000000) ∧ (sh SS i).2.length ≤ 1000000) (hm : m ≤ 1000000) :
    Calls Try.prog 17 #[.slice A m c, .slice A' m c'] w fun e w' => e = .returned (.bool true) ∧ Below w.heap.size w w' := by
  have HX := Lib.hid h
  have HY := Lib.hid h'
  have HL := Lib.hid hL
  clear h h' hL
  go_enter Try.func17, Try.ntmps17
  go_wp2_with fail
  go_loopw [5] (fun i wr => ∃ k : Nat, i = .int .i64 (k : Int) ∧ k ≤ m ∧ Below w.heap.size w wr) (fun i _ => m - (intOf i).toNat)
  case atStart => exact ⟨0, rfl, Nat.zero_le _, Below.refl _ _⟩
  case round =>
    obtain ⟨k, rfl, hk, hb⟩ := hrel
    have HB := Lib.hid hb
    by_cases hgo : k < m
    · obtain ⟨ad, B, c1, B', c1', rfl, d0, d1, hC, hP⟩ := HX.out.at_ hb hgo
      obtain ⟨ad2, D, c2, D', c2', rfl, d2, d3, hC2, hP2⟩ := HY.out.at_ hb hgo
      have hl1 := Nat.lt_of_lt_of_le (HX.out.lt hgo) hb.size
      have hl2 := Nat.lt_of_lt_of_le (HY.out.lt hgo) hb.size
      obtain ⟨l1, l2, l3⟩ := HL.out k hgo
      obtain ⟨s, hs⟩ : ∃ s, s = sh SS k := ⟨_, rfl⟩
      rw [← hs] at d0 d1 d2 d3 hC hP hC2 hP2 l1 l2 l3
      obtain ⟨CC, PP⟩ := s
      dsimp only at d0 d1 d2 d3 hC hP hC2 hP2 l1 l2 l3
      obtain ⟨n1, hn1⟩ : ∃ n, n = CC.length := ⟨_, rfl⟩
      obtain ⟨n2, hn2⟩ : ∃ n, n = PP.length := ⟨_, rfl⟩
      rw [← hn1] at d0 d2 hC hC2 l1 l2
      rw [← hn2] at d1 d3 hP hP2 l3
      have HF := Lib.hid (show ∀ W, Below wr.heap.size wr W → W.cell? (ad.add (k * 2)) = some (.slice B n1 c1) ∧ W.cell? { block := (ad.add (k * 2)).block, off := (ad.add (k * 2)).off + 1 } = some (.slice B' n2 c1') ∧ W.cell? (ad2.add (k * 2)) = some (.slice D n1 c2) ∧ W.cell? { block := (ad2.add (k * 2)).block, off := (ad2.add (k * 2)).off + 1 } = some (.slice D' n2 c2') from fun W hW =>
        ⟨(hW.cell (by rw [block_of_add]; exact hl1)).trans d0, (hW.cell (by show (ad.add (k * 2)).block < _; rw [block_of_add]; exact hl1)).trans d1, (hW.cell (by rw [block_of_add]; exact hl2)).trans d2, (hW.cell (by show (ad2.add (k * 2)).block < _; rw [block_of_add]; exact hl2)).trans d3⟩)
      have CG := Lib.hid (fun W (hW : Below wr.heap.size wr W) => same_any B D n1 c1 c2 CC W (hC.bel hW) (hC2.bel hW) l1 l2)
      have CP := Lib.hid (fun W (hW : Below wr.heap.size wr W) => C.same_any B' D' n2 c1' c2' PP W (hP.bel hW) (hP2.bel hW) l3)
      have H := Lib.hid (Below.refl wr.heap.size wr)
      clear hs hn1 hn2 hC hC2 hP hP2 hb l1 l2 l3 hl1 hl2
      go_upto_region 6 with fail
      go_region_held3 (fun w' => w'.cell? (ad.add (k * 2)) = some (.slice B n1 c1) ∧ w'.cell? { block := (ad.add (k * 2)).block, off := (ad.add (k * 2)).off + 1 } = some (.slice B' n2 c1') ∧ w'.cell? (ad2.add (k * 2)) = some (.slice D n1 c2) ∧ w'.cell? { block := (ad2.add (k * 2)).block, off := (ad2.add (k * 2)).off + 1 } = some (.slice D' n2 c2'))
        (first | with_reducible exact HF.out _ H.out | with_reducible exact HF.out _ (Below.drew H.out) | go_keep)
        (first
          | (go_at_call 12; first | ((with_reducible refine (CG.out _ H.out).mono ?_); rintro e w4 ⟨rfl, hb⟩; have H := Lib.hid (H.out.trans (hb.mono H.out.size)); clear hb) | ((with_reducible refine (CG.out _ (Below.drew H.out)).mono ?_); rintro e w4 ⟨rfl, hb⟩; have H := Lib.hid ((Below.drew H.out).trans (hb.mono H.out.size)); clear hb))
          | (go_at_call 30; first | ((with_reducible refine (CP.out _ H.out).mono ?_); rintro e w4 ⟨rfl, hb⟩; have H := Lib.hid (H.out.trans (hb.mono H.out.size)); clear hb) | ((with_reducible refine (CP.out _ (Below.drew H.out)).mono ?_); rintro e w4 ⟨rfl, hb⟩; have H := Lib.hid ((Below.drew H.out).trans (hb.mono H.out.size)); clear hb)))
      all_goals
        go_wp2_with fail
        exact ⟨⟨k + 1, by simp, by omega, HB.out.trans (H.out.mono HB.out.size)⟩, by simp [intOf]; omega⟩
    · have hkm : k = m := by omega
      subst hkm
      go_wp2_with fail
      go_ret
      exact ⟨rfl, HB.out⟩
end Go.Proofs.Ytlfnagfcggmeaaa
