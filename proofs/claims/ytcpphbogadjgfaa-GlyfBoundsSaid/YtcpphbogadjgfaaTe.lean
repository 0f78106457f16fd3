/- Proved here: what readPlaces answers. Condition: a reader of a text of at most a billion bytes that stands at 10; at most 256 contours. -/
import Derived.Test.YtcpphbogadjgfaaTd
namespace Go.Proofs.Ytcpphbogadjgfaa
open Go.RowKit

/-- The reader stands at t, or t is beyond the end. -/
structure AtS (L t a : Nat) (f : Bool) : Prop where
  yes : f = false → a = t ∧ t ≤ L
  no : f = true → L < t
theorem AtS.step {L t a : Nat} {f : Bool} (h : AtS L t a f) {n a' : Nat} {f' : Bool} (k : NxS L a f n a' f') : AtS L (t + n) a' f' := by
  refine ⟨fun hf => ?_, fun hf => ?_⟩
  · obtain ⟨h1, h2, h3⟩ := k.yes hf
    obtain ⟨h4, _⟩ := h.yes h1
    omega
  · rcases k.no hf with h1 | h1
    · have := h.no h1; omega
    · cases f
      · have := (h.yes rfl).1; omega
      · have := h.no rfl; omega
theorem u16_in (g : Nat) (s : ByteArray) (a : Nat) (w : World) (h : Rd 79 w g s a false) (hs : s.size ≤ 1000000000) (ha : a + 2 ≤ s.size) :
    Calls Try.prog 42 #[.pointer (some ⟨g, 0, none⟩)] w fun e w' => e = .returned (.int .u16 (n2 s.data.toList a : Int)) ∧ Rd 79 w' g s (a + 2) false ∧ Onl g w w' :=
  (rdu16_any g s a false w h hs (by omega)).mono fun e w' ⟨h1, h2⟩ => ⟨by rw [h1, show (2 : Int) = ((2 : Nat) : Int) from rfl, out_in ha]; rfl, pse_in (n := 2) h2 ha⟩
/-- The places, as they are told. -/
def plL (l : List UInt8) (n : Nat) : List Int := gen n fun i => (pl l i : Int)
def plE (l : List UInt8) (n : Nat) : Int := if l.length < 10 + 2 * n then 3 else if ¬ rise l n then 4 else if 4096 < frm l n then 6 else 0
theorem gen_snoc (n : Nat) (f : Nat → Int) : gen (n + 1) f = gen n f ++ [f n] := by simp [gen, List.range_succ]
theorem pl_lt (l : List UInt8) (i : Nat) : pl l i < 65536 := n2_lt l _
theorem frm_lt (l : List UInt8) : ∀ i, frm l i ≤ 65536
  | 0 => Nat.zero_le _
  | i + 1 => by have := pl_lt l i; simp only [frm]; omega
set_option maxHeartbeats 8000000 in
set_option maxRecDepth 100000 in
theorem readPlaces_out (g n : Nat) (s : ByteArray) (w : World) (h : Rd 79 w g s 10 false) (hs : s.size ≤ 1000000000) (ha : 10 ≤ s.size) (hn : n ≤ 256) (hout : s.size < 10 + 2 * n) :
    Calls Try.prog 41 #[.pointer (some ⟨g, 0, none⟩), .int .i64 (n : Int)] w fun e w' => e = .returned (.tuple #[.slice none 0 0, .int .i64 3]) ∧ Onl g w w' := by
  obtain ⟨z0, hmk⟩ := mkInt n (by omega) (n : Int) rfl
  have S := Lib.hid (RoS.row (RoS.start h ha) (madeCells z0 n) 3)
  have SL := Lib.hid (show (madeCells z0 n).toList.length = n by rw [Array.length_toList, size_madeCells])
  have HS := Lib.hid hs
  have HA0 := Lib.hid (show AtS s.size 10 10 false from ⟨fun _ => ⟨rfl, ha⟩, fun h => by cases h⟩)
  have HO := Lib.hid hout
  clear h hs ha hout
  go_enter Try.func41, Try.ntmps41
  go_upto_region 2 with fail
  obtain ⟨h9, hh9⟩ : ∃ b, b = w.heap.size := ⟨_, rfl⟩
  obtain ⟨W0, hW0⟩ : ∃ W, W = w.alloc (.cells (madeCells z0 n) 3) := ⟨_, rfl⟩
  have S : Hid (RmS w W0 g s 10 false h9 3 (madeCells z0 n).toList) := by rw [hW0, hh9]; exact S
  rw [← hW0, ← hh9]
  clear hW0 hh9 hmk
  go_wp2_with fail
  go_loopw [15] (fun u wr => ∃ (i a : Nat) (f : Bool) (cs : List Value), u = .int .i64 (i : Int) ∧ i ≤ n ∧ AtS s.size (10 + 2 * i) a f ∧ cs.length = n ∧ RmS w wr g s a f h9 3 cs) (fun u _ => n - (intOf u).toNat)
  case atStart => exact ⟨0, 10, false, _, rfl, Nat.zero_le _, HA0.out, SL.out, S.out⟩
  case round =>
    obtain ⟨i, a, f, cs, rfl, hi, hat, hcl, hS⟩ := hrel
    have HS1 := Lib.hid hS
    have HAT := Lib.hid hat
    by_cases hgo : i < n
    · have CS := Lib.hid (rd16_any g s a f wr hS.r.rd HS.out hS.r.le)
      have hil : i < cs.length := by omega
      have HCL := Lib.hid hcl
      clear hS hat hcl
      go_upto_region 6 with (go_at_call 42; (with_reducible refine CS.out.mono ?_); rintro e w2 ⟨v, a2, f2, rfl, hv, hnx, _, hr, ho⟩; have H2 := Lib.hid (HS1.out.read hr ho hnx.le); have HN := Lib.hid hnx; obtain ⟨u0, hu0⟩ := H2.out.row.has hil; have fr0 := H2.out.row.fr i; clear hr ho hnx)
      go_wp2_with fail
      exact ⟨⟨i + 1, a2, f2, _, by simp, by omega, HAT.out.step HN.out, by rw [List.length_set]; exact HCL.out, H2.out.set i _⟩, by simp [intOf]; omega⟩
    · obtain rfl : i = n := by omega
      have hf : f = true := by
        cases f
        · have := hat.yes rfl; have := HO.out; omega
        · rfl
      subst hf
      clear hS hat hcl
      go_wp2_with (go_at_call 26; (with_reducible refine (err_bad _ _ _ _ HS1.out.r.rd).mono ?_); rintro e w3 ⟨rfl, rfl⟩)
      go_ret2
      exact ⟨rfl, HS1.out.r.onl⟩
set_option maxHeartbeats 8000000 in
set_option maxRecDepth 100000 in
theorem readPlaces_in (g n : Nat) (s : ByteArray) (w : World) (h : Rd 79 w g s 10 false) (hs : s.size ≤ 1000000000) (hn : n ≤ 256) (hin : 10 + 2 * n ≤ s.size) :
    Calls Try.prog 41 #[.pointer (some ⟨g, 0, none⟩), .int .i64 (n : Int)] w (FgP 79 .i64 (plE s.data.toList n, plL s.data.toList n, 10 + 2 * n) g s w) := by
  have hE : plE s.data.toList n = if ¬ rise s.data.toList n then 4 else if 4096 < frm s.data.toList n then 6 else 0 := by unfold plE; rw [size_list, if_neg (by omega)]
  obtain ⟨z0, hmk⟩ := mkInt n (by omega) (n : Int) rfl
  have S := Lib.hid (RoS.row (RoS.start h (by omega)) (madeCells z0 n) 3)
  have SF := Lib.hid (FiL.start n z0)
  have HS := Lib.hid hs
  have HIn := Lib.hid hin
  have HE := Lib.hid (show ∀ x w', plE s.data.toList n = x → x ≠ 0 → Onl g w w' → FgP 79 .i64 (plE s.data.toList n, plL s.data.toList n, 10 + 2 * n) g s w (.returned (.tuple #[.slice none 0 0, .int .i64 x])) w' from fun x w' h1 h2 h3 => fgP_err (by rw [h1]) h2 h3)
  have HF := Lib.hid (show ∀ h cs w', plE s.data.toList n = 0 → FiL n (plL s.data.toList n) cs → RmS w w' g s (10 + 2 * n) false h 3 cs → FgP 79 .i64 (plE s.data.toList n, plL s.data.toList n, 10 + 2 * n) g s w (.returned (.tuple #[.slice (some ⟨h, 0, none⟩) n n, .int .i64 0])) w' from fun h cs w' h0 h2 h3 => by
    rw [h0]
    exact ⟨h3.r.onl, _, n, n, rfl, fun _ => ⟨⟨h2.il (gen_len _ _) h3.row, fun ad had => by injection had with had; subst had; show h ≠ g; have := h3.hh; have := h3.r.lg; omega⟩, h3.r.rd, h3.r.le⟩⟩)
  have HX := Lib.hid hE
  clear h hs hin hE
  go_enter Try.func41, Try.ntmps41
  go_upto_region 2 with fail
  obtain ⟨h9, hh9⟩ : ∃ b, b = w.heap.size := ⟨_, rfl⟩
  obtain ⟨W0, hW0⟩ : ∃ W, W = w.alloc (.cells (madeCells z0 n) 3) := ⟨_, rfl⟩
  have S : Hid (RmS w W0 g s 10 false h9 3 (madeCells z0 n).toList) := by rw [hW0, hh9]; exact S
  rw [← hW0, ← hh9]
  clear hW0 hh9 hmk
  go_wp2_with fail
  go_loopw [15] (fun u wr => ∃ (i : Nat) (cs : List Value), u = .int .i64 (i : Int) ∧ i ≤ n ∧ FiL n (plL s.data.toList i) cs ∧ RmS w wr g s (10 + 2 * i) false h9 3 cs) (fun u _ => n - (intOf u).toNat)
  case atStart => exact ⟨0, _, rfl, Nat.zero_le _, SF.out, S.out⟩
  case round =>
    obtain ⟨i, cs, rfl, hi, hfi, hS⟩ := hrel
    have HS1 := Lib.hid hS
    have HFi := Lib.hid hfi
    by_cases hgo : i < n
    · have CS := Lib.hid (u16_in g s (10 + 2 * i) wr hS.r.rd HS.out (by have := HIn.out; omega))
      have hil : i < cs.length := by rw [hfi.len]; exact hgo
      have HL2 := Lib.hid (show 10 + 2 * i + 2 ≤ s.size by have := HIn.out; omega)
      have hv := pl_lt s.data.toList i
      have HP := Lib.hid (show plL s.data.toList (i + 1) = plL s.data.toList i ++ [(pl s.data.toList i : Int)] from gen_snoc _ _)
      have HG := Lib.hid (show (plL s.data.toList i).length = i from gen_len _ _)
      have CS : Hid (Calls Try.prog 42 #[.pointer (some ⟨g, 0, none⟩)] wr fun e w' => e = .returned (.int .u16 (pl s.data.toList i : Int)) ∧ Rd 79 w' g s (10 + 2 * i + 2) false ∧ Onl g wr w') := CS
      obtain ⟨v, hvv⟩ : ∃ v, v = pl s.data.toList i := ⟨_, rfl⟩
      rw [← hvv] at CS hv HP
      clear hS hfi hvv
      go_upto_region 6 with (go_at_call 42; (with_reducible refine CS.out.mono ?_); rintro e w2 ⟨rfl, hr, ho⟩; have H2 := Lib.hid (HS1.out.read hr ho HL2.out); obtain ⟨u0, hu0⟩ := H2.out.row.has hil; have fr0 := H2.out.row.fr i; clear hr ho)
      go_wp2_with fail
      exact ⟨⟨i + 1, _, by simp, by omega, by rw [HP.out]; have := HFi.out.push (by rw [HG.out]; exact hgo) (v : Int); rw [HG.out] at this; exact this, H2.out.set i _⟩, by simp [intOf]; omega⟩
    · obtain rfl : i = n := by omega
      clear hS hfi S SF
      go_wp2_with (go_at_call 26; (with_reducible refine (err_ok _ _ _ _ HS1.out.r.rd).mono ?_); rintro e w3 ⟨rfl, rfl⟩)
      go_loopw [8, 30] (fun v u wi => ∃ (j : Nat), u = .int .i64 (j : Int) ∧ j ≤ i ∧ v = .int .i64 ((frm s.data.toList j : Int) - 1) ∧ rise s.data.toList j ∧ wi = wr) (fun _ u _ => i - (intOf u).toNat)
      case atStart => exact ⟨0, rfl, Nat.zero_le _, rfl, fun k hk => by omega, rfl⟩
      case round =>
        obtain ⟨j, rfl, hj, rfl, hris, rfl⟩ := hrel
        have HR := Lib.hid hris
        by_cases hgj : j < i
        · have hc := HS1.out.row.get (HFi.out.get j (by rw [show (plL s.data.toList i).length = i from gen_len _ _]; exact hgj))
          rw [show co (plL s.data.toList i) j = (pl s.data.toList j : Int) from co_gen hgj] at hc
          have hv := pl_lt s.data.toList j
          have hfr := frm_lt s.data.toList j
          have HN := Lib.hid (show frm s.data.toList (j + 1) = pl s.data.toList j + 1 from rfl)
          have HSU := Lib.hid (show frm s.data.toList j ≤ pl s.data.toList j → rise s.data.toList (j + 1) from fun h => all_succ (P := fun i => frm s.data.toList i ≤ pl s.data.toList i) hris h)
          have HNo := Lib.hid (show ¬ frm s.data.toList j ≤ pl s.data.toList j → ¬ rise s.data.toList i from fun h h2 => h (h2 j hgj))
          obtain ⟨p, hp⟩ : ∃ p, p = pl s.data.toList j := ⟨_, rfl⟩
          obtain ⟨fr, hfr2⟩ : ∃ p, p = frm s.data.toList j := ⟨_, rfl⟩
          rw [← hp] at hc hv HN HSU HNo
          rw [← hfr2] at hfr HSU HNo ⊢
          clear hris hp hfr2
          by_cases hle : fr ≤ p
          · have HX2 := Lib.hid (HSU.out hle)
            have e1 : ¬ (p : Int) ≤ (fr : Int) - 1 := by omega
            clear hle
            go_wp2_with fail
            exact ⟨⟨j + 1, by simp, by omega, by rw [HN.out]; simp, HX2.out, by trivial⟩, by simp [intOf]; omega⟩
          · have HX2 := Lib.hid (HNo.out hle)
            have e1 : (p : Int) ≤ (fr : Int) - 1 := by omega
            have HX3 := Lib.hid (fun w' ho => HE.out 4 w' (by rw [HX.out, if_pos HX2.out]) (by decide) ho)
            clear hle
            go_wp2_with fail
            go_ret2
            exact HX3.out _ HS1.out.r.onl
        · obtain rfl : j = i := by omega
          have hfr := frm_lt s.data.toList j
          by_cases h4 : 4096 < frm s.data.toList j
          · have HX3 := Lib.hid (fun w' ho => HE.out 6 w' (by rw [HX.out, if_neg (fun h => h hris), if_pos h4]) (by decide) ho)
            obtain ⟨fr, hfr2⟩ : ∃ p, p = frm s.data.toList j := ⟨_, rfl⟩
            rw [← hfr2] at h4 hfr ⊢
            have e1 : 4096 ≤ (fr : Int) - 1 := by omega
            clear hris hfr2 h4
            go_wp2_with fail
            go_ret2
            exact HX3.out _ HS1.out.r.onl
          · have HX3 := Lib.hid (HF.out h9 cs _ (by rw [HX.out, if_neg (fun h => h hris), if_neg h4]) HFi.out HS1.out)
            obtain ⟨fr, hfr2⟩ : ∃ p, p = frm s.data.toList j := ⟨_, rfl⟩
            rw [← hfr2] at h4 hfr ⊢
            have e1 : ¬ 4096 ≤ (fr : Int) - 1 := by omega
            clear hris hfr2 h4
            go_wp2_with fail
            go_ret2
            exact HX3.out
theorem readPlaces_any (g n : Nat) (s : ByteArray) (w : World) (h : Rd 79 w g s 10 false) (hs : s.size ≤ 1000000000) (ha : 10 ≤ s.size) (hn : n ≤ 256) :
    Calls Try.prog 41 #[.pointer (some ⟨g, 0, none⟩), .int .i64 (n : Int)] w (FgP 79 .i64 (plE s.data.toList n, plL s.data.toList n, 10 + 2 * n) g s w) := by
  by_cases hin : 10 + 2 * n ≤ s.size
  · exact readPlaces_in g n s w h hs hn hin
  · have hE : plE s.data.toList n = 3 := by unfold plE; rw [size_list, if_pos (by omega)]
    refine (readPlaces_out g n s w h hs ha hn (by omega)).mono fun e w' ⟨h1, h2⟩ => ?_
    subst h1
    exact fgP_err (by rw [hE]) (by decide) h2
end Go.Proofs.Ytcpphbogadjgfaa
