/- Proved here: what readPlaces answers. Condition: a reader of a text of at most a billion bytes that stands at 10; at most 256 contours · what readPoints answers. Condition: a reader of a text of at most a billion bytes; at most 10000 points. -/
import Derived.Test.YtfhaloclbbmbeaaGreatM28
namespace Go.Proofs.YtfhaloclbbmbeaaGreat
open Go.RowKit
namespace N15
theorem u16_in (g : Nat) (s : ByteArray) (a : Nat) (w : World) (h : Rd 278 w g s a false) (hs : s.size ≤ 1000000000) (ha : a + 2 ≤ s.size) :
    Calls Tryz.prog 210 #[.pointer (some ⟨g, 0, none⟩)] w fun e w' => e = .returned (.int .u16 (n2 s.data.toList a : Int)) ∧ Rd 278 w' g s (a + 2) false ∧ Onl g w w' :=
  (rdu16_any g s a false w h hs (by omega)).mono fun e w' ⟨h1, h2⟩ => ⟨by rw [h1, show (2 : Int) = ((2 : Nat) : Int) from rfl, out_in ha]; rfl, pse_in (n := 2) h2 ha⟩
end N15
def plL (l : List UInt8) (n : Nat) : List Int := gen n fun i => (pl l i : Int)
def plE (l : List UInt8) (n : Nat) : Int := if l.length < 10 + 2 * n then 3 else if ¬ rise l n then 4 else if 4096 < frm l n then 6 else 0
theorem pl_lt (l : List UInt8) (i : Nat) : pl l i < 65536 := n2_lt l _
theorem frm_lt (l : List UInt8) : ∀ i, frm l i ≤ 65536
  | 0 => Nat.zero_le _
  | i + 1 => by have := pl_lt l i; simp only [frm]; omega
namespace N15
set_option maxHeartbeats 8000000 in
set_option maxRecDepth 100000 in
theorem readPlaces_out (g n : Nat) (s : ByteArray) (w : World) (h : Rd 278 w g s 10 false) (hs : s.size ≤ 1000000000) (ha : 10 ≤ s.size) (hn : n ≤ 256) (hout : s.size < 10 + 2 * n) :
    Calls Tryz.prog 282 #[.pointer (some ⟨g, 0, none⟩), .int .i64 (n : Int)] w fun e w' => e = .returned (.tuple #[.slice none 0 0, .int .i64 3]) ∧ Onl g w w' := by
  obtain ⟨z0, hmk⟩ := mkInt n (by omega) (n : Int) rfl
  have S := Lib.hid (RoS.row (RoS.start h ha) (madeCells z0 n) 3)
  have SL := Lib.hid (show (madeCells z0 n).toList.length = n by rw [Array.length_toList, size_madeCells])
  have HS := Lib.hid hs
  have HA0 := Lib.hid (show AtS s.size 10 10 false from ⟨fun _ => ⟨rfl, ha⟩, fun h => by cases h⟩)
  have HO := Lib.hid hout
  clear h hs ha hout
  go_enter Tryz.func282, Tryz.ntmps282
  go_upto_region 2 with fail
  obtain ⟨h9, hh9⟩ : ∃ b, b = w.heap.size := ⟨_, rfl⟩
  obtain ⟨W0, hW0⟩ : ∃ W, W = w.alloc (.cells (madeCells z0 n) 3) := ⟨_, rfl⟩
  have S : Hid (RmS w W0 g s 10 false h9 3 (madeCells z0 n).toList) := by rw [hW0, hh9]; exact S
  rw [← hW0, ← hh9]
  clear hW0 hh9 hmk
  go_wp2_with fail
  go_loopw [15] (fun u wr => ∃ (i a : Nat) (f : Bool) (cs : List Value), u = .int .i64 (i : Int) ∧ i ≤ n ∧ AtS s.size (10 + 2 * i) a f ∧ cs.length = n ∧ RmS w wr g s a f h9 3 cs) (fun u _ => n - (intOf u).toNat)
  case atStart => exact ⟨0, 10, false, _, rfl, Nat.zero_le _, HA0.out, SL.out, S.out⟩
  case round =>
    obtain ⟨i, a, f, cs, rfl, hi, hat, hcl, hS⟩ := hrel
    have HS1 := Lib.hid hS
    have HAT := Lib.hid hat
    by_cases hgo : i < n
    · have CS := Lib.hid (rd16_any g s a f wr hS.r.rd HS.out hS.r.le)
      have hil : i < cs.length := by omega
      have HCL := Lib.hid hcl
      clear hS hat hcl
      go_upto_region 6 with (go_at_call 210; (with_reducible refine CS.out.mono ?_); rintro e w2 ⟨v, a2, f2, rfl, hv, hnx, _, hr, ho⟩; have H2 := Lib.hid (HS1.out.read hr ho hnx.le); have HN := Lib.hid hnx; obtain ⟨u0, hu0⟩ := H2.out.row.has hil; have fr0 := H2.out.row.fr i; clear hr ho hnx)
      go_wp2_with fail
      exact ⟨⟨i + 1, a2, f2, _, by simp, by omega, HAT.out.step HN.out, by rw [List.length_set]; exact HCL.out, H2.out.set i _⟩, by simp [intOf]; omega⟩
    · obtain rfl : i = n := by omega
      have hf : f = true := by
        cases f
        · have := hat.yes rfl; have := HO.out; omega
        · rfl
      subst hf
      clear hS hat hcl
      go_wp2_with (go_at_call 211; (with_reducible refine (err_bad _ _ _ _ HS1.out.r.rd).mono ?_); rintro e w3 ⟨rfl, rfl⟩)
      go_ret2
      exact ⟨rfl, HS1.out.r.onl⟩
set_option maxHeartbeats 8000000 in
set_option maxRecDepth 100000 in
theorem readPlaces_in (g n : Nat) (s : ByteArray) (w : World) (h : Rd 278 w g s 10 false) (hs : s.size ≤ 1000000000) (hn : n ≤ 256) (hin : 10 + 2 * n ≤ s.size) :
    Calls Tryz.prog 282 #[.pointer (some ⟨g, 0, none⟩), .int .i64 (n : Int)] w (FgP 278 .i64 (plE s.data.toList n, plL s.data.toList n, 10 + 2 * n) g s w) := by
  have hE : plE s.data.toList n = if ¬ rise s.data.toList n then 4 else if 4096 < frm s.data.toList n then 6 else 0 := by unfold plE; rw [size_list, if_neg (by omega)]
  obtain ⟨z0, hmk⟩ := mkInt n (by omega) (n : Int) rfl
  have S := Lib.hid (RoS.row (RoS.start h (by omega)) (madeCells z0 n) 3)
  have SF := Lib.hid (FiL.start n z0)
  have HS := Lib.hid hs
  have HIn := Lib.hid hin
  have HE := Lib.hid (show ∀ x w', plE s.data.toList n = x → x ≠ 0 → Onl g w w' → FgP 278 .i64 (plE s.data.toList n, plL s.data.toList n, 10 + 2 * n) g s w (.returned (.tuple #[.slice none 0 0, .int .i64 x])) w' from fun x w' h1 h2 h3 => fgP_err (by rw [h1]) h2 h3)
  have HF := Lib.hid (show ∀ h cs w', plE s.data.toList n = 0 → FiL n (plL s.data.toList n) cs → RmS w w' g s (10 + 2 * n) false h 3 cs → FgP 278 .i64 (plE s.data.toList n, plL s.data.toList n, 10 + 2 * n) g s w (.returned (.tuple #[.slice (some ⟨h, 0, none⟩) n n, .int .i64 0])) w' from fun h cs w' h0 h2 h3 => by
    rw [h0]
    exact ⟨h3.r.onl, _, n, n, rfl, fun _ => ⟨⟨h2.il (gen_len _ _) h3.row, fun ad had => by injection had with had; subst had; show h ≠ g; have := h3.hh; have := h3.r.lg; omega⟩, h3.r.rd, h3.r.le⟩⟩)
  have HX := Lib.hid hE
  clear h hs hin hE
  go_enter Tryz.func282, Tryz.ntmps282
  go_upto_region 2 with fail
  obtain ⟨h9, hh9⟩ : ∃ b, b = w.heap.size := ⟨_, rfl⟩
  obtain ⟨W0, hW0⟩ : ∃ W, W = w.alloc (.cells (madeCells z0 n) 3) := ⟨_, rfl⟩
  have S : Hid (RmS w W0 g s 10 false h9 3 (madeCells z0 n).toList) := by rw [hW0, hh9]; exact S
  rw [← hW0, ← hh9]
  clear hW0 hh9 hmk
  go_wp2_with fail
  go_loopw [15] (fun u wr => ∃ (i : Nat) (cs : List Value), u = .int .i64 (i : Int) ∧ i ≤ n ∧ FiL n (plL s.data.toList i) cs ∧ RmS w wr g s (10 + 2 * i) false h9 3 cs) (fun u _ => n - (intOf u).toNat)
  case atStart => exact ⟨0, _, rfl, Nat.zero_le _, SF.out, S.out⟩
  case round =>
    obtain ⟨i, cs, rfl, hi, hfi, hS⟩ := hrel
    have HS1 := Lib.hid hS
    have HFi := Lib.hid hfi
    by_cases hgo : i < n
    · have CS := Lib.hid (u16_in g s (10 + 2 * i) wr hS.r.rd HS.out (by have := HIn.out; omega))
      have hil : i < cs.length := by rw [hfi.len]; exact hgo
      have HL2 := Lib.hid (show 10 + 2 * i + 2 ≤ s.size by have := HIn.out; omega)
      have hv := pl_lt s.data.toList i
      have HP := Lib.hid (show plL s.data.toList (i + 1) = plL s.data.toList i ++ [(pl s.data.toList i : Int)] from gen_snoc _ _)
      have HG := Lib.hid (show (plL s.data.toList i).length = i from gen_len _ _)
      have CS : Hid (Calls Tryz.prog 210 #[.pointer (some ⟨g, 0, none⟩)] wr fun e w' => e = .returned (.int .u16 (pl s.data.toList i : Int)) ∧ Rd 278 w' g s (10 + 2 * i + 2) false ∧ Onl g wr w') := CS
      obtain ⟨v, hvv⟩ : ∃ v, v = pl s.data.toList i := ⟨_, rfl⟩
      rw [← hvv] at CS hv HP
      clear hS hfi hvv
      go_upto_region 6 with (go_at_call 210; (with_reducible refine CS.out.mono ?_); rintro e w2 ⟨rfl, hr, ho⟩; have H2 := Lib.hid (HS1.out.read hr ho HL2.out); obtain ⟨u0, hu0⟩ := H2.out.row.has hil; have fr0 := H2.out.row.fr i; clear hr ho)
      go_wp2_with fail
      exact ⟨⟨i + 1, _, by simp, by omega, by rw [HP.out]; have := HFi.out.push (by rw [HG.out]; exact hgo) (v : Int); rw [HG.out] at this; exact this, H2.out.set i _⟩, by simp [intOf]; omega⟩
    · obtain rfl : i = n := by omega
      clear hS hfi S SF
      go_wp2_with (go_at_call 211; (with_reducible refine (err_ok _ _ _ _ HS1.out.r.rd).mono ?_); rintro e w3 ⟨rfl, rfl⟩)
      go_loopw [8, 30] (fun v u wi => ∃ (j : Nat), u = .int .i64 (j : Int) ∧ j ≤ i ∧ v = .int .i64 ((frm s.data.toList j : Int) - 1) ∧ rise s.data.toList j ∧ wi = wr) (fun _ u _ => i - (intOf u).toNat)
      case atStart => exact ⟨0, rfl, Nat.zero_le _, rfl, fun k hk => by omega, rfl⟩
      case round =>
        obtain ⟨j, rfl, hj, rfl, hris, rfl⟩ := hrel
        have HR := Lib.hid hris
        by_cases hgj : j < i
        · have hc := HS1.out.row.get (HFi.out.get j (by rw [show (plL s.data.toList i).length = i from gen_len _ _]; exact hgj))
          rw [show co (plL s.data.toList i) j = (pl s.data.toList j : Int) from co_gen hgj] at hc
          have hv := pl_lt s.data.toList j
          have hfr := frm_lt s.data.toList j
          have HN := Lib.hid (show frm s.data.toList (j + 1) = pl s.data.toList j + 1 from rfl)
          have HSU := Lib.hid (show frm s.data.toList j ≤ pl s.data.toList j → rise s.data.toList (j + 1) from fun h => all_succ (P := fun i => frm s.data.toList i ≤ pl s.data.toList i) hris h)
          have HNo := Lib.hid (show ¬ frm s.data.toList j ≤ pl s.data.toList j → ¬ rise s.data.toList i from fun h h2 => h (h2 j hgj))
          obtain ⟨p, hp⟩ : ∃ p, p = pl s.data.toList j := ⟨_, rfl⟩
          obtain ⟨fr, hfr2⟩ : ∃ p, p = frm s.data.toList j := ⟨_, rfl⟩
          rw [← hp] at hc hv HN HSU HNo
          rw [← hfr2] at hfr HSU HNo ⊢
          clear hris hp hfr2
          by_cases hle : fr ≤ p
          · have HX2 := Lib.hid (HSU.out hle)
            have e1 : ¬ (p : Int) ≤ (fr : Int) - 1 := by omega
            clear hle
            go_wp2_with fail
            exact ⟨⟨j + 1, by simp, by omega, by rw [HN.out]; simp, HX2.out, by trivial⟩, by simp [intOf]; omega⟩
          · have HX2 := Lib.hid (HNo.out hle)
            have e1 : (p : Int) ≤ (fr : Int) - 1 := by omega
            have HX3 := Lib.hid (fun w' ho => HE.out 4 w' (by rw [HX.out, if_pos HX2.out]) (by decide) ho)
            clear hle
            go_wp2_with fail
            go_ret2
            exact HX3.out _ HS1.out.r.onl
        · obtain rfl : j = i := by omega
          have hfr := frm_lt s.data.toList j
          by_cases h4 : 4096 < frm s.data.toList j
          · have HX3 := Lib.hid (fun w' ho => HE.out 6 w' (by rw [HX.out, if_neg (fun h => h hris), if_pos h4]) (by decide) ho)
            obtain ⟨fr, hfr2⟩ : ∃ p, p = frm s.data.toList j := ⟨_, rfl⟩
            rw [← hfr2] at h4 hfr ⊢
            have e1 : 4096 ≤ (fr : Int) - 1 := by omega
            clear hris hfr2 h4
            go_wp2_with fail
            go_ret2
            exact HX3.out _ HS1.out.r.onl
          · have HX3 := Lib.hid (HF.out h9 cs _ (by rw [HX.out, if_neg (fun h => h hris), if_neg h4]) HFi.out HS1.out)
            obtain ⟨fr, hfr2⟩ : ∃ p, p = frm s.data.toList j := ⟨_, rfl⟩
            rw [← hfr2] at h4 hfr ⊢
            have e1 : ¬ 4096 ≤ (fr : Int) - 1 := by omega
            clear hris hfr2 h4
            go_wp2_with fail
            go_ret2
            exact HX3.out
theorem readPlaces_any (g n : Nat) (s : ByteArray) (w : World) (h : Rd 278 w g s 10 false) (hs : s.size ≤ 1000000000) (ha : 10 ≤ s.size) (hn : n ≤ 256) :
    Calls Tryz.prog 282 #[.pointer (some ⟨g, 0, none⟩), .int .i64 (n : Int)] w (FgP 278 .i64 (plE s.data.toList n, plL s.data.toList n, 10 + 2 * n) g s w) := by
  by_cases hin : 10 + 2 * n ≤ s.size
  · exact readPlaces_in g n s w h hs hn hin
  · have hE : plE s.data.toList n = 3 := by unfold plE; rw [size_list, if_pos (by omega)]
    refine (readPlaces_out g n s w h hs ha hn (by omega)).mono fun e w' ⟨h1, h2⟩ => ?_
    subst h1
    exact fgP_err (by rw [hE]) (by decide) h2
end N15
end Go.Proofs.YtfhaloclbbmbeaaGreat
namespace Go.Proofs.YtfhaloclbbmbeaaGreat
open Go.RowKit
theorem below_st {B : Nat} {w W : World} {g j : Nat} {u : Value} (h : Below B w W) (hg : B ≤ g) : Below B w (W.setCell ⟨g, j, none⟩ u) := h.setCell (p := ⟨g, j, none⟩) hg u
namespace N15
def PtP (R : Int × List Pt) (g : Nat) (w : World) (e : Ending) (w' : World) : Prop :=
  Onl g w w' ∧ ∃ A k c, e = .returned (.tuple #[.slice A k c, .int .i64 R.1]) ∧ (R.1 = 0 → Ptl w' A k R.2 ∧ k ≤ c)
theorem ptP_err {R : Int × List Pt} {g : Nat} {w w' : World} {x : Int} (h : R = (x, [])) (hx : x ≠ 0) (ho : Onl g w w') : PtP R g w (.returned (.tuple #[.slice none 0 0, .int .i64 x])) w' := by
  subst h
  exact ⟨ho, none, 0, 0, rfl, fun h => absurd h hx⟩
structure Fp (n k : Nat) (P : Nat → Pt) (cs : List Value) : Prop where
  len : cs.length = n * 3
  get : ∀ i, i < k → cs[i * 3]? = some (.int .i64 (P i).1) ∧ cs[i * 3 + 1]? = some (.int .i64 (P i).2.1) ∧ cs[i * 3 + 2]? = some (.bool (P i).2.2)
theorem Fp.set {n k : Nat} {P : Nat → Pt} {cs : List Value} (h : Fp n k P cs) (hk : k < n) : Fp n (k + 1) P (((cs.set (k * 3) (.int .i64 (P k).1)).set (k * 3 + 1) (.int .i64 (P k).2.1)).set (k * 3 + 2) (.bool (P k).2.2)) := by
  refine ⟨by rw [List.length_set, List.length_set, List.length_set]; exact h.len, fun i hi => ?_⟩
  have hl := h.len
  by_cases hik : i = k
  · subst hik
    refine ⟨?_, ?_, ?_⟩
    · rw [List.getElem?_set_ne (by omega), List.getElem?_set_ne (by omega), List.getElem?_set_self (by omega)]
    · rw [List.getElem?_set_ne (by omega), List.getElem?_set_self (by rw [List.length_set]; omega)]
    · rw [List.getElem?_set_self (by rw [List.length_set, List.length_set]; omega)]
  · obtain ⟨h1, h2, h3⟩ := h.get i (by omega)
    refine ⟨?_, ?_, ?_⟩
    · rw [List.getElem?_set_ne (by omega), List.getElem?_set_ne (by omega), List.getElem?_set_ne (by omega)]; exact h1
    · rw [List.getElem?_set_ne (by omega), List.getElem?_set_ne (by omega), List.getElem?_set_ne (by omega)]; exact h2
    · rw [List.getElem?_set_ne (by omega), List.getElem?_set_ne (by omega), List.getElem?_set_ne (by omega)]; exact h3
theorem Fp.start (n : Nat) (z : Array Value) (P : Nat → Pt) : Fp n 0 P (madeCells z (n * 3)).toList := ⟨by rw [Array.length_toList, size_madeCells], fun i hi => by omega⟩
end N15
theorem px_gen {n : Nat} {P : Nat → Pt} {i : Nat} (h : i < n) : px ((List.range n).map P) i = (P i).1 ∧ py ((List.range n).map P) i = (P i).2.1 ∧ po ((List.range n).map P) i = (P i).2.2 := by
  unfold px py po
  have e : ((List.range n).map P).getD i (0, 0, false) = P i := by simp [h]
  rw [e]
  exact ⟨rfl, rfl, rfl⟩
namespace N15
theorem Fp.ptl {n : Nat} {P : Nat → Pt} {cs : List Value} {w : World} {h T : Nat} (k : Fp n n P cs) (r : Rv w h T cs) : Ptl w (some ⟨h, 0, none⟩) n ((List.range n).map P) :=
  ⟨by simp, fun i hi => by
    obtain ⟨h1, h2, h3⟩ := k.get i hi
    obtain ⟨e1, e2, e3⟩ := px_gen (P := P) hi
    refine ⟨_, rfl, r.lt, ?_, ?_, ?_⟩
    · rw [add_at, e1]; exact r.get h1
    · rw [add_at, e2]; exact r.get h2
    · rw [add_at, e3]; exact r.get h3⟩
end N15
theorem mkPts (n : Nat) (hn : n ≤ 100000) (D : Int) (hD : D = (n : Int)) :
    ∃ z : Array Value, ∀ W : World, (Instr.makeSlice 76 (.int .i64 D) (.int .i64 D)).run Tryz.prog W = .ok (.slice (some ⟨W.heap.size, 0, none⟩) n n) (W.alloc (.cells (madeCells z (n * 3)) 75)) := by
  subst hD
  obtain ⟨i0, hi0, hz0, hz1, hz2⟩ := info_parts Tryz.info75
  refine ⟨(Value.agg #[.int .i64 0, .int .i64 0, .bool false]).cells, fun W => ?_⟩
  have := run_makeSlice (P := Tryz.prog) W 76 75 i0 (.agg #[.int .i64 0, .int .i64 0, .bool false]) Tryz.underlying76 hi0 hz0 .i64 .i64 (n : Int) (n : Int) (by omega) (Int.le_refl _) (by rw [hz1]; omega) (by rw [hz2]; omega) (by omega)
  rw [this, hz1, Int.toNat_natCast]
namespace N15
set_option maxHeartbeats 8000000 in
set_option maxRecDepth 100000 in
theorem readPoints_any (g n : Nat) (s : ByteArray) (a0 : Nat) (w : World) (h : Rd 278 w g s a0 false) (hs : s.size ≤ 1000000000) (ha : a0 ≤ s.size) (hn : n ≤ 10000) :
    Calls Tryz.prog 283 #[.pointer (some ⟨g, 0, none⟩), .int .i64 (n : Int)] w (PtP (ptR s.data.toList n a0) g w) := by
  have CF := Lib.hid (readFlags_any g n s a0 w h hs ha (by omega))
  have hok := flgs_ok s.data.toList n [] a0 (by simp) (fun i hi => by simp at hi) (by rw [size_list]; exact ha)
  have HLG := Lib.hid h.lt
  obtain ⟨F, hF⟩ : ∃ F, F = flgs s.data.toList n [] a0 := ⟨_, rfl⟩
  have hR : ptR s.data.toList n a0 = if F.1 ≠ 0 then (F.1, []) else if (unts s.data.toList 2 16 F.2.1 [] F.2.2 0).1 ≠ 0 then ((unts s.data.toList 2 16 F.2.1 [] F.2.2 0).1, []) else if (unts s.data.toList 4 32 F.2.1 [] (unts s.data.toList 2 16 F.2.1 [] F.2.2 0).2.2 0).1 ≠ 0 then ((unts s.data.toList 4 32 F.2.1 [] (unts s.data.toList 2 16 F.2.1 [] F.2.2 0).2.2 0).1, []) else (0, pnts F.2.1 (unts s.data.toList 2 16 F.2.1 [] F.2.2 0).2.1 (unts s.data.toList 4 32 F.2.1 [] (unts s.data.toList 2 16 F.2.1 [] F.2.2 0).2.2 0).2.1 n) := by rw [hF]; rfl
  rw [← hF] at CF hok
  obtain ⟨R, hRR⟩ : ∃ R, R = ptR s.data.toList n a0 := ⟨_, rfl⟩
  rw [← hRR] at hR ⊢
  have HE := Lib.hid (show ∀ x w', R = (x, []) → x ≠ 0 → Onl g w w' → PtP R g w (.returned (.tuple #[.slice none 0 0, .int .i64 x])) w' from fun x w' h1 h2 h3 => ptP_err h1 h2 h3)
  clear hRR hF
  by_cases hF0 : F.1 = 0
  · rw [if_neg (fun h => h hF0)] at hR
    obtain ⟨k1, k2, k3⟩ := hok hF0
    rw [size_list] at k3
    have CF2 := Lib.hid (CF.out.mono fun e w' hh => hh.ok hF0 k1)
    obtain ⟨E1, fl, a1⟩ := F
    simp only at k1 k2 k3 hF0 hR CF2
    have CX := Lib.hid (fun A c W (hI : Il .u8 W A n fl) (hA : Nb A g) (hr : Rd 278 W g s a1 false) => readUnits_any g A n c fl 2 16 s a1 W (.inl ⟨rfl, rfl⟩) hI hA k2 hr hs k3 (by omega))
    have hokx := unts_ok s.data.toList 2 16 fl [] a1 0 (by rw [size_list]; exact k3)
    obtain ⟨X, hX⟩ : ∃ X, X = unts s.data.toList 2 16 fl [] a1 0 := ⟨_, rfl⟩
    rw [← hX] at CX hR hokx
    have CX : Hid (∀ A c W, Il .u8 W A n fl → Nb A g → Rd 278 W g s a1 false → Calls Tryz.prog 296 #[.pointer (some ⟨g, 0, none⟩), .slice A n c, .int .u8 2, .int .u8 16] W (FgP 278 .i64 X g s W)) := CX
    by_cases hX0 : X.1 = 0
    · rw [if_neg (fun h => h hX0)] at hR
      obtain ⟨x1, x2⟩ := hokx hX0
      rw [size_list] at x2
      have CX2 := Lib.hid (fun A c W hI hA hr => (CX.out A c W hI hA hr).mono fun e w' hh => hh.ok hX0 (n := n) (by rw [x1, k1]; simp))
      obtain ⟨E2, xs, a2⟩ := X
      simp only at x1 x2 hX0 hR CX2
      have CY := Lib.hid (fun A c W (hI : Il .u8 W A n fl) (hA : Nb A g) (hr : Rd 278 W g s a2 false) => readUnits_any g A n c fl 4 32 s a2 W (.inr ⟨rfl, rfl⟩) hI hA k2 hr hs x2 (by omega))
      have hoky := unts_ok s.data.toList 4 32 fl [] a2 0 (by rw [size_list]; exact x2)
      obtain ⟨Y, hY⟩ : ∃ Y, Y = unts s.data.toList 4 32 fl [] a2 0 := ⟨_, rfl⟩
      rw [← hY] at CY hR hoky
      have CY : Hid (∀ A c W, Il .u8 W A n fl → Nb A g → Rd 278 W g s a2 false → Calls Tryz.prog 296 #[.pointer (some ⟨g, 0, none⟩), .slice A n c, .int .u8 4, .int .u8 32] W (FgP 278 .i64 Y g s W)) := CY
      by_cases hY0 : Y.1 = 0
      · rw [if_neg (fun h => h hY0)] at hR
        obtain ⟨y1, y2⟩ := hoky hY0
        have CY2 := Lib.hid (fun A c W hI hA hr => (CY.out A c W hI hA hr).mono fun e w' hh => hh.ok hY0 (n := n) (by rw [y1, k1]; simp))
        obtain ⟨E3, ys, a3⟩ := Y
        simp only at hY0 hR CY2
        have HFl := Lib.hid (And.intro k1 k2)
        have HRR := Lib.hid hR
        obtain ⟨z0, hmk⟩ := mkPts n (by omega) (n : Int) rfl
        have HMK := Lib.hid hmk
        clear h hs ha hok k1 k2 k3 hF0 hR hokx hX hX0 x1 x2 hoky hY hY0 y1 y2 CF CX CY hmk
        go_enter Tryz.func283, Tryz.ntmps283
        go_upto_region 10 with (first
          | (go_at_call 295; (with_reducible refine CF2.out.mono ?_); rintro e w2 ⟨A1, c1, rfl, ho, hI, hr⟩; have H1 := Lib.hid (And.intro ho (And.intro hI hr)); clear ho hI hr)
          | (go_at_call 296; (with_reducible refine (CX2.out _ _ _ H1.out.2.1.1 H1.out.2.1.2 H1.out.2.2).mono ?_); rintro e w3 ⟨A2, c2, rfl, ho, hI, hr⟩; have H2 := Lib.hid (And.intro ho (And.intro hI hr)); have J1 := Lib.hid (H1.out.2.1.1.onl H1.out.2.1.2 ho); clear ho hI hr)
          | (go_at_call 296; (with_reducible refine (CY2.out _ _ _ J1.out H1.out.2.1.2 H2.out.2.2).mono ?_); rintro e w4 ⟨A3, c3, rfl, ho, hI, hr⟩; have H3 := Lib.hid (And.intro ho (And.intro hI hr)); have J2 := Lib.hid (J1.out.onl H1.out.2.1.2 ho); have J3 := Lib.hid (H2.out.2.1.1.onl H2.out.2.1.2 ho); clear ho hI hr))
        have HO := Lib.hid ((H1.out.1.trans H2.out.1).trans H3.out.1)
        have hmk := HMK.out
        go_upto_region 11 with fail
        have HB := Lib.hid ((Below.refl w4.heap.size w4).alloc (Nat.le_refl _) (.cells (madeCells z0 (n * 3)) 75))
        have HRv := Lib.hid (Rv.new w4 (madeCells z0 (n * 3)) 75)
        obtain ⟨h9, hh9⟩ : ∃ b, b = w4.heap.size := ⟨_, rfl⟩
        obtain ⟨W0, hW0⟩ : ∃ W, W = w4.alloc (.cells (madeCells z0 (n * 3)) 75) := ⟨_, rfl⟩
        rw [← hW0] at HB HRv ⊢
        rw [← hh9] at HRv ⊢
        have HH := Lib.hid hh9
        clear hW0 hh9 hmk CF2 CX2 CY2
        go_wp2_with fail
        go_loopw [44] (fun u wr => ∃ (i : Nat) (cs : List Value), u = .int .i64 (i : Int) ∧ i ≤ n ∧ Fp n i (pnt fl xs ys) cs ∧ Below w4.heap.size w4 wr ∧ Rv wr h9 75 cs) (fun u _ => n - (intOf u).toNat)
        case atStart => exact ⟨0, _, rfl, Nat.zero_le _, Fp.start n z0 _, HB.out, HRv.out⟩
        case round =>
          obtain ⟨i, cs, rfl, hi, hfp, hb, hrv⟩ := hrel
          have HB1 := Lib.hid hb
          have HR1 := Lib.hid hrv
          have HFP := Lib.hid hfp
          by_cases hgo : i < n
          · obtain ⟨ad, rfl, hc⟩ := J2.out.at_ hb hgo
            obtain ⟨ax, rfl, hx⟩ := J3.out.at_ hb hgo
            obtain ⟨ay, rfl, hy⟩ := H3.out.2.1.1.at_ hb hgo
            obtain ⟨hf1, hf2⟩ := HFl.out.2 i (by rw [HFl.out.1]; exact hgo)
            obtain ⟨f, hf⟩ : ∃ f : Nat, co fl i = (f : Int) := ⟨(co fl i).toNat, by omega⟩
            have e1 : (bits .and .u8 (f : Int) 1 != 0) = isS (f : Int) 1 := and_bit f (by omega) 1 (by simp)
            have e2 : isS (f : Int) 1 = decide (co fl i % 2 = 1) := by unfold isS; rw [hf]; simp
            have HP := Lib.hid (show pnt fl xs ys i = (co xs i, co ys i, decide (co fl i % 2 = 1)) from rfl)
            rw [← e2] at HP
            rw [hf] at hc
            obtain ⟨x, hxx⟩ : ∃ x, x = co xs i := ⟨_, rfl⟩
            obtain ⟨y, hyy⟩ : ∃ y, y = co ys i := ⟨_, rfl⟩
            obtain ⟨o, hoo⟩ : ∃ o, o = isS (f : Int) 1 := ⟨_, rfl⟩
            rw [← hxx] at hx HP
            rw [← hyy] at hy HP
            rw [← hoo] at e1 HP
            have hl := hfp.len
            obtain ⟨v0, o0⟩ := hrv.has (i := i * 3) (by omega)
            obtain ⟨v1, o1⟩ := hrv.has (i := i * 3 + 1) (by omega)
            obtain ⟨v2, o2⟩ := hrv.has (i := i * 3 + 2) (by omega)
            have f0 := hrv.fr (i * 3)
            have f1 := hrv.fr (i * 3 + 1)
            have f2 := hrv.fr (i * 3 + 2)
            clear hb hfp hrv hf1 hf2 hf e2 hxx hyy hoo hl
            go_upto_region 14 with fail
            go_region
            all_goals
              go_wp2_with fail
              exact ⟨⟨i + 1, _, by simp, by omega, by have H := HFP.out.set hgo; rw [HP.out] at H; exact H, Below.drew (below_st (below_st (below_st HB1.out (by rw [HH.out]; exact Nat.le_refl _)) (by rw [HH.out]; exact Nat.le_refl _)) (by rw [HH.out]; exact Nat.le_refl _)), (((HR1.out.set _ _).set _ _).set _ _).bel (Below.drew (Below.refl _ _))⟩, by simp [intOf]; omega⟩
          · obtain rfl : i = n := by omega
            clear hb hfp hrv
            go_wp2_with fail
            go_ret2
            have hr := HRR.out
            exact ⟨HO.out.trans (Onl.of HB1.out), _, _, _, by rw [hr]; rfl, fun _ => ⟨by rw [hr]; exact HFP.out.ptl HR1.out, Nat.le_refl _⟩⟩
      · rw [if_pos hY0] at hR
        have CY2 := Lib.hid (fun A c W hI hA hr => (CY.out A c W hI hA hr).mono fun e w' hh => hh.err)
        obtain ⟨E3, ys, a3⟩ := Y
        simp only at hY0 hR CY2
        have e9 : (E3 != 0) = true := by simp [hY0]
        have HX := Lib.hid (fun w' ho => HE.out E3 w' hR hY0 ho)
        clear h hs ha hok k1 k2 k3 hF0 hR hokx hX hX0 x1 x2 hoky hY hY0 CF CX CY
        go_enter Tryz.func283, Tryz.ntmps283
        go_wp2_with (first
          | (go_at_call 295; (with_reducible refine CF2.out.mono ?_); rintro e w2 ⟨A1, c1, rfl, ho, hI, hr⟩; have H1 := Lib.hid (And.intro ho (And.intro hI hr)); clear ho hI hr)
          | (go_at_call 296; (with_reducible refine (CX2.out _ _ _ H1.out.2.1.1 H1.out.2.1.2 H1.out.2.2).mono ?_); rintro e w3 ⟨A2, c2, rfl, ho, hI, hr⟩; have H2 := Lib.hid (And.intro ho (And.intro hI hr)); have J1 := Lib.hid (H1.out.2.1.1.onl H1.out.2.1.2 ho); clear ho hI hr)
          | (go_at_call 296; (with_reducible refine (CY2.out _ _ _ J1.out H1.out.2.1.2 H2.out.2.2).mono ?_); rintro e w4 ⟨A3, k3, c3, rfl, ho⟩; have H3 := Lib.hid ho; clear ho))
        go_ret2
        exact HX.out _ ((H1.out.1.trans H2.out.1).trans H3.out)
    · rw [if_pos hX0] at hR
      have CX2 := Lib.hid (fun A c W hI hA hr => (CX.out A c W hI hA hr).mono fun e w' hh => hh.err)
      obtain ⟨E2, xs, a2⟩ := X
      simp only at hX0 hR CX2
      have e9 : (E2 != 0) = true := by simp [hX0]
      have HX := Lib.hid (fun w' ho => HE.out E2 w' hR hX0 ho)
      clear h hs ha hok k1 k2 k3 hF0 hR hokx hX hX0 CF CX
      go_enter Tryz.func283, Tryz.ntmps283
      go_wp2_with (first
        | (go_at_call 295; (with_reducible refine CF2.out.mono ?_); rintro e w2 ⟨A1, c1, rfl, ho, hI, hr⟩; have H1 := Lib.hid (And.intro ho (And.intro hI hr)); clear ho hI hr)
        | (go_at_call 296; (with_reducible refine (CX2.out _ _ _ H1.out.2.1.1 H1.out.2.1.2 H1.out.2.2).mono ?_); rintro e w3 ⟨A2, k2, c2, rfl, ho⟩; have H2 := Lib.hid ho; clear ho))
      go_ret2
      exact HX.out _ (H1.out.1.trans H2.out)
  · rw [if_pos hF0] at hR
    have CF2 := Lib.hid (CF.out.mono fun e w' hh => hh.err)
    obtain ⟨E1, fl, a1⟩ := F
    simp only at hF0 hR CF2
    have e9 : (E1 != 0) = true := by simp [hF0]
    have HX := Lib.hid (fun w' ho => HE.out E1 w' hR hF0 ho)
    clear h hs ha hok hF0 hR CF
    go_enter Tryz.func283, Tryz.ntmps283
    go_wp2_with (go_at_call 295; (with_reducible refine CF2.out.mono ?_); rintro e w2 ⟨A1, k1, c1, rfl, ho⟩; have H1 := Lib.hid ho; clear ho)
    go_ret2
    exact HX.out _ H1.out
end N15
end Go.Proofs.YtfhaloclbbmbeaaGreat
