/- Proved here: what package wide's Text answers, and that the statements' first call, awake, answers true. Condition: the library's table of powers of ten at its place. -/
import Derived.Test.YtmhpfmhpilmfdaaDoorWb
import Derived.Test.YtmhpfmhpilmfdaaDoorWd
import Derived.Test.YtmhpfmhpilmfdaaDoorMc
namespace Go.Proofs.YtmhpfmhpilmfdaaDoor
open Go.RowKit Go.Lib

theorem Tab.below {w w' : World} (h : Tab w) (hb : Below w.heap.size w w') : Tab w' := by
  unfold Tab Lib.TabIs World.var? at *
  cases hg : Tryd.prog.globalNamed "internal/strconv.uint64pow10" with
  | none => simp [hg] at h
  | some g =>
    simp only [hg, Option.bind_some] at h ⊢
    have hlt : g < w.heap.size := by
      rcases Nat.lt_or_ge g w.heap.size with hl | hl
      · exact hl
      · rw [Array.getElem?_eq_none hl] at h; simp at h
    rw [hb.block g hlt]
    exact h
theorem hiW_lt {x : Nat} (h : x < 65536 ^ 8) : hiW x < 18446744073709551616 := by rw [e8] at h; unfold hiW; omega
theorem loW_lt (x : Nat) : loW x < 18446744073709551616 := Nat.mod_lt _ (by decide)
theorem numW_hl (x : Nat) : numW (hiW x) (loW x) = x := by unfold numW hiW loW; omega
theorem numW_lt {a b : Nat} (ha : a < 18446744073709551616) (hb : b < 18446744073709551616) : numW a b < 65536 ^ 8 := by rw [e8]; unfold numW; omega
/-- Two pieces of a text, joined. -/
theorem text_join (x : Nat) (hx : 10 ^ 19 ≤ x) :
    ByteArray.append (ByteArray.append (decS (x / 10 ^ 19)) ⟨(repeatL [48] (19 - nDigits (x % 10 ^ 19))).toArray⟩) (decS (x % 10 ^ 19)) = decS x ∧ nDigits (x % 10 ^ 19) ≤ 19 := by
  obtain ⟨h1, h2⟩ := dec_pieces (m := 19) (by decide) hx
  refine ⟨?_, h2⟩
  unfold decS
  rw [h1]
  ext1
  simp
theorem decS_size (x : Nat) : (decS x).size = nDigits x := by
  show (decDigits x).toArray.size = _
  rw [List.size_toArray, decDigits_length]
/-- The pieces of a number. -/
def cq (x : Nat) : Nat := x / 10 ^ 19
def cr (x : Nat) : Nat := x % 10 ^ 19
theorem e19 : (10 ^ 19 : Nat) = 10000000000000000000 := by decide
theorem div_chunk (hi lo : Nat) (w : World) (hl : lo < 18446744073709551616) (hh : hi < 18446744073709551616) :
    Calls Tryd.prog 16 #[.agg #[.int .u64 (hi : Int), .int .u64 (lo : Int)], .int .u64 10000000000000000000] w fun e w' => e = .returned (.tuple #[.agg #[.int .u64 (hiW (cq (numW hi lo)) : Int), .int .u64 (loW (cq (numW hi lo)) : Int)], .int .u64 (cr (numW hi lo) : Int), .int .i64 0]) ∧ Below w.heap.size w w' :=
  (div_any hi lo 10000000000000000000 w hl hh (by decide)).mono fun _ _ ⟨h, l, r, c, he, hd, hb⟩ => by
    rcases hd with ⟨h0, _⟩ | ⟨_, rfl, rfl, rfl, rfl⟩
    · exact absurd h0 (by decide)
    · refine ⟨?_, hb⟩
      rw [he]
      unfold cq cr
      rw [e19]
theorem cr_lt (x : Nat) : cr x < 18446744073709551616 := by unfold cr; rw [e19]; omega
/-- How many zeros stand ahead of the second piece. -/
def cz (x : Nat) : Nat := 19 - nDigits (cr x)
theorem rep_any (c : Nat) (w : World) (hc : c ≤ 19) : Calls Tryd.prog 43 #[.string ⟨#[48]⟩, .int .i64 (c : Int)] w fun e w' => e = .returned (.string ⟨(repeatL [48] c).toArray⟩) ∧ Below w.heap.size w w' :=
  Tryd.strings_Repeat ⟨#[48]⟩ c w (by omega) (by show 1 * c ≤ _; omega)
set_option maxHeartbeats 1000000 in
theorem text_lo (lo : Nat) (w : World) (hl : lo < 18446744073709551616) (ht : Tab w) :
    Calls Tryd.prog 25 #[.agg #[.int .u64 0, .int .u64 (lo : Int)]] w fun e w' => e = .returned (.string (decS lo)) ∧ Below w.heap.size w w' := by
  have HT := Lib.hid (ht.below ((Below.refl _ _).alloc (Nat.le_refl _) (.cells #[.int .u64 0, .int .u64 (lo : Int)] 24)))
  have HL := Lib.hid hl
  clear hl ht
  go_enter Tryd.func25, Tryd.ntmps25
  go_wp2_with (go_at_call 42; (with_reducible refine (fmt_any lo _ HL.out HT.out).mono ?_); rintro e w1 ⟨rfl, hb1⟩; have HB1 := Lib.hid hb1; clear hb1)
  go_ret
  exact ⟨rfl, bel1 HB1.out⟩
theorem dec_size_le {x : Nat} (h : x < 65536 ^ 8) : (decS x).size ≤ 100 := by
  rw [decS_size]
  have := (pad_dec 100 x (Nat.lt_of_lt_of_le h (by decide)) (by decide)).2
  exact this
set_option maxHeartbeats 1000000 in
set_option maxRecDepth 100000 in
theorem text_any (k : Nat) : ∀ (hi lo : Nat) (w : World), numW hi lo ≤ k → hi < 18446744073709551616 → lo < 18446744073709551616 → Tab w →
    Calls Tryd.prog 25 #[.agg #[.int .u64 (hi : Int), .int .u64 (lo : Int)]] w fun e w' => e = .returned (.string (decS (numW hi lo))) ∧ Below w.heap.size w w' := by
  induction k with
  | zero =>
    intro hi lo w hk hh hl ht
    obtain rfl : hi = 0 := by unfold numW at hk; omega
    have e : numW 0 lo = lo := by simp [numW]
    rw [e]
    exact text_lo lo w hl ht
  | succ k ih =>
    intro hi lo w hk hh hl ht
    rcases Nat.eq_zero_or_pos hi with h0 | h0
    · subst h0
      have e : numW 0 lo = lo := by simp [numW]
      rw [e]
      exact text_lo lo w hl ht
    · have h1 : ((hi : Int) == 0) = false := by simp; omega
      have HT := Lib.hid (ht.below ((Below.refl _ _).alloc (Nat.le_refl _) (.cells #[.int .u64 (hi : Int), .int .u64 (lo : Int)] 24)))
      have HK := Lib.hid hk
      have HH := Lib.hid (And.intro hh hl)
      have hbig : 10 ^ 19 ≤ numW hi lo := by rw [e19]; unfold numW; omega
      have hlt := numW_lt hh hl
      have hqle : cq (numW hi lo) ≤ k := by unfold cq; rw [e19]; omega
      have HREC : Hid (∀ W, Tab W → Calls Tryd.prog 25 #[.agg #[.int .u64 (hiW (cq (numW hi lo)) : Int), .int .u64 (loW (cq (numW hi lo)) : Int)]] W fun e w' => e = .returned (.string (decS (cq (numW hi lo)))) ∧ Below W.heap.size W w') := fun W hW => by
        have := ih (hiW (cq (numW hi lo))) (loW (cq (numW hi lo))) W (by rw [numW_hl]; exact hqle) (hiW_lt (Nat.lt_of_le_of_lt (Nat.div_le_self _ _) hlt)) (loW_lt _) hW
        rw [numW_hl] at this
        exact this
      obtain ⟨hj1, hj2⟩ := text_join (numW hi lo) hbig
      obtain ⟨T, hT⟩ : ∃ T, T = nDigits (cr (numW hi lo)) := ⟨_, rfl⟩
      have hs : (decS (cr (numW hi lo))).size = T := by rw [hT, decS_size]
      have hT19 : T ≤ 19 := by rw [hT]; exact hj2
      have HREP : Hid (∀ W, Calls Tryd.prog 43 #[.string ⟨#[48]⟩, .int .i64 (19 - (T : Int))] W fun e w' => e = .returned (.string ⟨(repeatL [48] (19 - T)).toArray⟩) ∧ Below W.heap.size W w') := fun W => by
        have := rep_any (19 - T) W (by omega)
        rw [show ((19 - T : Nat) : Int) = 19 - (T : Int) by omega] at this
        exact this
      have hz1 : (decS (cq (numW hi lo))).size ≤ 100 := dec_size_le (Nat.lt_of_le_of_lt (Nat.div_le_self _ _) hlt)
      have hz2 : (repeatL [48] (19 - T)).length ≤ 19 := by rw [repeatL_length]; simp
      have HJ : Hid (ByteArray.append (ByteArray.append (decS (cq (numW hi lo))) ⟨(repeatL [48] (19 - T)).toArray⟩) (decS (cr (numW hi lo))) = decS (numW hi lo)) := by rw [hT]; exact hj1
      clear hk hh hl ht ih hbig hlt hqle hj1 hj2 hT
      go_enter Tryd.func25, Tryd.ntmps25
      go_wp2_with (first
        | (go_at_call 16; (with_reducible refine (div_chunk hi lo _ HH.out.2 HH.out.1).mono ?_); rintro e w1 ⟨rfl, hb1⟩; have HB1 := Lib.hid (bel1 hb1); have HT1 := Lib.hid ((HT.out.below hb1).below ((Below.refl _ _).alloc (Nat.le_refl _) (.cells #[.int .u64 (hiW (cq (numW hi lo)) : Int), .int .u64 (loW (cq (numW hi lo)) : Int)] 24))); clear hb1)
        | (go_at_call 42; (with_reducible refine (fmt_any (cr (numW hi lo)) _ (cr_lt _) HT1.out).mono ?_); rintro e w2 ⟨rfl, hb2⟩; have HT2 := Lib.hid (HT1.out.below hb2); have HX2 := Lib.hid ((Box.new w1 (hiW (cq (numW hi lo))) (loW (cq (numW hi lo)))).below hb2 (by simp)); have f1 := HX2.out.c0; have f2 := HX2.out.c1; have HB2 := Lib.hid (HB1.out.trans ((bel1 hb2).mono HB1.out.size)); clear hb2)
        | (go_at_call 25; (with_reducible refine (HREC.out _ HT2.out).mono ?_); rintro e w3 ⟨rfl, hb3⟩; have HB3 := Lib.hid (HB2.out.trans (hb3.mono HB2.out.size)); clear hb3)
        | (go_at_call 43; (with_reducible refine (HREP.out _).mono ?_); rintro e w4 ⟨rfl, hb4⟩; have HB4 := Lib.hid (HB3.out.trans (hb4.mono HB3.out.size)); clear hb4))
      go_ret
      exact ⟨congrArg (fun b => Ending.returned (.string b)) HJ.out, HB4.out⟩
end Go.Proofs.YtmhpfmhpilmfdaaDoor
