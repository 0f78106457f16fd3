/- Proved here: what package sturm's sign and beside answer and leave in memory. Condition: a polynomial of at most 100 numbers of few enough digits that lies in memory, and a fraction that may be; beside: a polynomial that isn't 0. · what package sturm's changes answers. Condition: a slice of signs that lies in memory. · what package sturm's Changes answers. Condition: a list of polynomials of few enough digits that lies in memory, and a fraction of 64 bits. · what package sturm's placeOf answers. Condition: a list of polynomials of few enough digits, none of them 0, not empty, that lies in memory, and a fraction that may be. -/
import Derived.Test.YtpobhegllhhdgaaGreatQi
import Derived.Test.YtpobhegllhhdgaaGreatJb
import Derived.Test.YtpobhegllhhdgaaGreatQe
import Derived.Deep.CutBlock
import Derived.Deep.DeepCutAuto
import Derived.Deep.CutRange
namespace Go.Proofs.YtpobhegllhhdgaaGreat
open Go.RowKit

set_option maxRecDepth 100000 in
theorem sgnP_any (A : Option Addr) (m c : Nat) (L : List Int) (l : Nat) (n d : Int) (w : World) (h : Pol .a w (.slice A m c) L l) (hm : m ≤ 100) (hl : l ≤ 60000) (hn : Fit n) (hd : Fit d) (hmb : Maybe n d) :
    Calls Tryz.prog 40 #[.slice A m c, .agg #[.int .i64 n, .int .i64 d]] w fun e w' => e = .returned (.int .i64 (sgn (hor n d (trz L)))) ∧ Below w.heap.size w w' := by
  have H := Lib.hid h
  have HF := Lib.hid (fun W h => pat_yes A m c L l n d W h hm hl hn hd hmb)
  have HB := Lib.hid (show Rt (w.alloc (.cells #[.int .i64 n, .int .i64 d] 24)) w.heap.size n d ∧ Below w.heap.size w (w.alloc (.cells #[.int .i64 n, .int .i64 d] 24)) from ⟨Rt.new w n d, bel_a _ _⟩)
  have f0 := HB.out.1.c0
  have f1 := HB.out.1.c1
  clear h hn hd hmb hm hl
  go_enter Tryz.func40, Tryz.ntmps40
  go_wp2_with (first
    | (go_at_call 25; (with_reducible refine (HF.out _ (H.out.bel HB.out.2)).mono ?_); rintro e w1 ⟨Z, rfl, hz, hb⟩; obtain ⟨b1, B1, p1, q1, rfl⟩ := hz.form; have HB := Lib.hid (bel_tr HB.out.2 hb); have HZ := Lib.hid hz; clear hz hb)
    | (go_at_call 78; (with_reducible refine (sign_any _ _ _ _ (HZ.out.bel (bel_a _ _)).one_).mono ?_); rintro e w2 ⟨rfl, hb⟩; have HB := Lib.hid (bel_tr (bel_tr HB.out (bel_a _ _)) hb); clear hb))
  go_ret
  exact ⟨rfl, HB.out⟩
/-- The signs beside n by d: just below it, and just above it. -/
def besP (n d : Int) (T : List Int) : Int × Int :=
  if sgn (hor n d T) = 0 then
    (if (woP n d T).2 % 2 = 0 then sgn (hor n d (trz (woP n d T).1)) else -sgn (hor n d (trz (woP n d T).1)), sgn (hor n d (trz (woP n d T).1)))
  else (sgn (hor n d T), sgn (hor n d T))
theorem sgn_rng (x : Int) : -1 ≤ sgn x ∧ sgn x ≤ 1 := by unfold sgn cmpI; split <;> (try split) <;> omega
theorem woF_le (n d : Int) : ∀ (k : Nat) (p : List Int), (woF n d k p).2 ≤ k ∧ (woF n d k p).1.length ≤ p.length
  | 0, p => ⟨Nat.le_refl _, Nat.le_refl _⟩
  | k + 1, p => by
    simp only [woF]
    split
    · have := woF_le n d k (syn n d (p.drop 1))
      rw [syn_len, List.length_drop] at this
      simp only
      omega
    · exact ⟨Nat.zero_le _, Nat.le_refl _⟩
theorem woP_le (n d : Int) (p : List Int) : (woP n d p).2 ≤ p.length ∧ (woP n d p).1.length ≤ p.length := woF_le n d _ p
set_option maxRecDepth 100000 in
theorem beside_any (A : Option Addr) (m c : Nat) (L : List Int) (l : Nat) (n d : Int) (w : World) (h : Pol .a w (.slice A m c) L l) (hm : m ≤ 100) (hl : l ≤ 19999) (hn : Fit n) (hd : Fit d) (hmb : Maybe n d) (h0 : 0 < pl L) :
    Calls Tryz.prog 48 #[.slice A m c, .agg #[.int .i64 n, .int .i64 d]] w fun e w' => e = .returned (.tuple #[.int .i64 (besP n d (trz L)).1, .int .i64 (besP n d (trz L)).2]) ∧ Below w.heap.size w w' := by
  have H := Lib.hid h
  have HS := Lib.hid (fun W h => sgnP_any A m c L l n d W h hm (by omega) hn hd hmb)
  have HB := Lib.hid (show Rt (w.alloc (.cells #[.int .i64 n, .int .i64 d] 24)) w.heap.size n d ∧ Below w.heap.size w (w.alloc (.cells #[.int .i64 n, .int .i64 d] 24)) from ⟨Rt.new w n d, bel_a _ _⟩)
  have f0 := HB.out.1.c0
  have f1 := HB.out.1.c1
  obtain ⟨T, hT⟩ : ∃ T, T = trz L := ⟨_, rfl⟩
  rw [← hT] at HS ⊢
  have hTm : T.length ≤ m := by rw [hT, trz_len, h.cap.1]; exact pl_le L
  by_cases hs : sgn (hor n d T) = 0
  · have HW := Lib.hid (fun W h => pwo_yes A m c L l n d W h hm hl hn hd hmb h0)
    rw [← hT] at HW
    obtain ⟨R, hR⟩ : ∃ R, R = (woP n d T).1 := ⟨_, rfl⟩
    obtain ⟨k, hk⟩ : ∃ k, k = (woP n d T).2 := ⟨_, rfl⟩
    obtain ⟨x, hx⟩ : ∃ x, x = R.length := ⟨_, rfl⟩
    obtain ⟨s, hsv⟩ : ∃ s, s = sgn (hor n d (trz R)) := ⟨_, rfl⟩
    have hrg := sgn_rng (hor n d (trz R))
    rw [← hsv] at hrg
    have hle := woP_le n d T
    rw [← hR, ← hk, ← hx] at hle
    have HR := Lib.hid (show (woP n d T).1 = R ∧ (woP n d T).2 = k ∧ R.length = x ∧ sgn (hor n d (trz R)) = s from ⟨hR.symm, hk.symm, hx.symm, hsv.symm⟩)
    have HS2 := Lib.hid (fun W A' c' h => sgnP_any A' x c' R (l + 30001) n d W h (by omega) (by omega) hn hd hmb)
    rw [← hsv] at HS2
    have HP := Lib.hid (show besP n d T = (if k % 2 = 0 then s else -s, s) by unfold besP; rw [if_pos hs, ← hR, ← hk, ← hsv])
    have hs0 : (sgn (hor n d T) == 0) = true := by rw [hs]; rfl
    have hw1 : IntKind.i64.wrap (-s) = -s := IntWalk.i64_in _ (by omega)
    have hk31 : k ≤ 100 := by omega
    rcases Nat.mod_two_eq_zero_or_one k with h2 | h2
    · have hr : (Int.tmod (k : Int) 2 == 0) = true := by
        rw [show Int.tmod (k : Int) 2 = ((k % 2 : Nat) : Int) from rfl, h2]; rfl
      have hr2 : Int.tmod (k : Int) 2 = 0 := by
        rw [show Int.tmod (k : Int) 2 = ((k % 2 : Nat) : Int) from rfl, h2]; rfl
      rw [h2, if_pos rfl] at HP
      have HSS := Lib.hid hs
      clear h hn hd hmb hm hl h0 hs hT hR hk hx hsv hTm hle h2
      go_enter Tryz.func48, Tryz.ntmps48
      go_wp2_with (first
        | (go_at_call 40; (with_reducible refine (HS.out _ (H.out.bel HB.out.2)).mono ?_); rintro e w1 ⟨rfl, hb⟩; rw [HSS.out]; have HB := Lib.hid (And.intro (HB.out.1.below hb HB.out.1.lt) (bel_tr HB.out.2 hb)); have f0 := HB.out.1.c0; have f1 := HB.out.1.c1; clear hb)
        | (go_at_call 81; (with_reducible refine (HW.out _ (H.out.bel HB.out.2)).mono ?_); rintro e w2 ⟨A', c', rfl, hp, hb⟩; rw [HR.out.1, HR.out.2.2.1] at hp; rw [HR.out.1, HR.out.2.1, HR.out.2.2.1]; have HPl := Lib.hid hp; have HB := Lib.hid (And.intro (HB.out.1.below hb HB.out.1.lt) (bel_tr HB.out.2 hb)); have f0 := HB.out.1.c0; have f1 := HB.out.1.c1; clear hb hp)
        | (go_at_call 40; (with_reducible refine (HS2.out _ A' c' HPl.out.any).mono ?_); rintro e w1 ⟨rfl, hb⟩; have HB := Lib.hid (And.intro (HB.out.1.below hb HB.out.1.lt) (bel_tr HB.out.2 hb)); clear hb))
      go_ret2
      exact ⟨by rw [HP.out]; rfl, HB.out.2⟩
    · have hr : (Int.tmod (k : Int) 2 == 0) = false := by
        rw [show Int.tmod (k : Int) 2 = ((k % 2 : Nat) : Int) from rfl, h2]; rfl
      have hr2 : Int.tmod (k : Int) 2 = 1 := by
        rw [show Int.tmod (k : Int) 2 = ((k % 2 : Nat) : Int) from rfl, h2]; rfl
      rw [h2, if_neg (by omega)] at HP
      have HSS := Lib.hid hs
      clear h hn hd hmb hm hl h0 hs hT hR hk hx hsv hTm hle h2
      go_enter Tryz.func48, Tryz.ntmps48
      go_wp2_with (first
        | (go_at_call 40; (with_reducible refine (HS.out _ (H.out.bel HB.out.2)).mono ?_); rintro e w1 ⟨rfl, hb⟩; rw [HSS.out]; have HB := Lib.hid (And.intro (HB.out.1.below hb HB.out.1.lt) (bel_tr HB.out.2 hb)); have f0 := HB.out.1.c0; have f1 := HB.out.1.c1; clear hb)
        | (go_at_call 81; (with_reducible refine (HW.out _ (H.out.bel HB.out.2)).mono ?_); rintro e w2 ⟨A', c', rfl, hp, hb⟩; rw [HR.out.1, HR.out.2.2.1] at hp; rw [HR.out.1, HR.out.2.1, HR.out.2.2.1]; have HPl := Lib.hid hp; have HB := Lib.hid (And.intro (HB.out.1.below hb HB.out.1.lt) (bel_tr HB.out.2 hb)); have f0 := HB.out.1.c0; have f1 := HB.out.1.c1; clear hb hp)
        | (go_at_call 40; (with_reducible refine (HS2.out _ A' c' HPl.out.any).mono ?_); rintro e w1 ⟨rfl, hb⟩; have HB := Lib.hid (And.intro (HB.out.1.below hb HB.out.1.lt) (bel_tr HB.out.2 hb)); clear hb))
      go_ret2
      exact ⟨by rw [HP.out]; rfl, HB.out.2⟩
  · have hs0 : (sgn (hor n d T) == 0) = false := by simpa using hs
    have HP := Lib.hid (show besP n d T = (sgn (hor n d T), sgn (hor n d T)) by unfold besP; rw [if_neg hs])
    clear h hn hd hmb hm hl h0 hs hT hTm
    go_enter Tryz.func48, Tryz.ntmps48
    go_wp2_with (go_at_call 40; (with_reducible refine (HS.out _ (H.out.bel HB.out.2)).mono ?_); rintro e w1 ⟨rfl, hb⟩; have HB := Lib.hid (bel_tr HB.out.2 hb); clear hb)
    go_ret2
    exact ⟨by rw [HP.out]; rfl, HB.out⟩
end Go.Proofs.YtpobhegllhhdgaaGreat
namespace Go.Proofs.YtpobhegllhhdgaaGreat
open Go.RowKit

theorem lastS_rng (a : Int) (L : List Int) (ha : -1 ≤ a ∧ a ≤ 1) (hL : ∀ i, -1 ≤ co L i ∧ co L i ≤ 1) : -1 ≤ lastS a L ∧ lastS a L ≤ 1 := by
  induction L generalizing a with
  | nil => exact ha
  | cons s L ih =>
    have h0 := hL 0
    rw [co_cons0] at h0
    have h1 : ∀ i, -1 ≤ co L i ∧ co L i ≤ 1 := fun i => by have := hL (i + 1); rwa [co_cons] at this
    show -1 ≤ lastS (if s = 0 then a else s) L ∧ lastS (if s = 0 then a else s) L ≤ 1
    exact ih _ (by split <;> assumption) h1
theorem mul_rng {s a : Int} (hs : -1 ≤ s ∧ s ≤ 1) (ha : -1 ≤ a ∧ a ≤ 1) : -1 ≤ s * a ∧ s * a ≤ 1 := by
  have h1 : s = -1 ∨ s = 0 ∨ s = 1 := by omega
  rcases h1 with rfl | rfl | rfl <;> omega
set_option maxRecDepth 100000 in
theorem changes_any (A : Option Addr) (m c : Nat) (xs : List Int) (w : World) (h : Ia w (.slice A m c) xs) (hr : ∀ i, -1 ≤ co xs i ∧ co xs i ≤ 1) (hm : m ≤ 1000) :
    Calls Tryz.prog 41 #[.slice A m c] w fun e w' => e = .returned (.int .i64 (chg 0 xs : Int)) ∧ Below w.heap.size w w' := by
  obtain ⟨hmx, hmc, hft, hget⟩ := h.cap
  have HG := Lib.hid hget
  have HM := Lib.hid hmx
  have HR := Lib.hid hr
  clear h hmx hft hget hr
  go_enter Tryz.func41, Tryz.ntmps41
  go_wp2_with fail
  go_loopw [3, 4, 9] (fun n a i wr => ∃ j : Nat, i = .int .i64 (j : Int) ∧ j ≤ m ∧ n = .int .i64 (chg 0 (xs.take j) : Int) ∧ a = .int .i64 (lastS 0 (xs.take j)) ∧ wr = w) (fun _ _ i _ => m - (intOf i).toNat)
  case atStart => exact ⟨0, rfl, Nat.zero_le _, rfl, rfl, rfl⟩
  case round =>
    obtain ⟨j, rfl, hj, rfl, rfl, rfl⟩ := hrel
    by_cases hjm : j < m
    · obtain ⟨ad, rfl, had, hc⟩ := HG.out j (by rw [← HM.out]; exact hjm)
      obtain ⟨s, hs⟩ : ∃ s, s = co xs j := ⟨_, rfl⟩
      obtain ⟨a, ha⟩ : ∃ a, a = lastS 0 (xs.take j) := ⟨_, rfl⟩
      obtain ⟨n, hn⟩ : ∃ n, n = chg 0 (xs.take j) := ⟨_, rfl⟩
      have hsr : -1 ≤ s ∧ s ≤ 1 := hs ▸ HR.out j
      have har : -1 ≤ a ∧ a ≤ 1 := ha ▸ lastS_rng 0 _ (by omega) (fun i => by rw [co_take]; split; exact HR.out i; omega)
      have hnl : n ≤ 1000 := by have := chg_le 0 (xs.take j); rw [List.length_take] at this; omega
      have htk : xs.take (j + 1) = xs.take j ++ [s] := by
        rw [List.take_succ_eq_append_getElem (by rw [← HM.out]; exact hjm), hs]
        simp [co, show j < xs.length by rw [← HM.out]; exact hjm]
      have HT := Lib.hid (show chg 0 (xs.take (j + 1)) = n + tw (s * a) ∧ lastS 0 (xs.take (j + 1)) = if s = 0 then a else s by
        rw [htk, chg_snoc, lastS_snoc, ← hn, ← ha]; exact ⟨rfl, rfl⟩)
      rw [← hs] at hc
      rw [← hn, ← ha]
      have hp := mul_rng hsr har
      obtain ⟨p, hpp⟩ : ∃ p, p = s * a := ⟨_, rfl⟩
      rw [← hpp] at hp HT
      have hpr : s * a = p := hpp.symm
      have hw : IntKind.i64.wrap p = p := IntWalk.i64_in _ (by omega)
      have hjl : j ≤ 1000 := by omega
      by_cases hneg : p < 0
      · have hz : (s == 0) = false := by
          have : s ≠ 0 := by intro h; rw [h, Int.zero_mul] at hpp; omega
          simpa using this
        have HT := Lib.hid (show chg 0 (xs.take (j + 1)) = n + 1 ∧ lastS 0 (xs.take (j + 1)) = s by
          have h1 := HT.out
          unfold tw at h1
          rw [if_pos hneg, if_neg (by simpa using hz)] at h1
          exact h1)
        clear hs ha hn hsr har htk hp hpp
        go_wp2_with fail
        exact ⟨⟨j + 1, by simp, by omega, by rw [HT.out.1]; simp, by rw [HT.out.2], trivial⟩, by simp [intOf]; omega⟩
      · by_cases hz0 : s = 0
        · have hz : (s == 0) = true := by simpa using hz0
          have HT := Lib.hid (show chg 0 (xs.take (j + 1)) = n ∧ lastS 0 (xs.take (j + 1)) = a by
            have h1 := HT.out
            unfold tw at h1
            rw [if_neg hneg, if_pos hz0] at h1
            exact h1)
          clear hs ha hn hsr har htk hp hpp hz0
          go_wp2_with fail
          exact ⟨⟨j + 1, by simp, by omega, by rw [HT.out.1], by rw [HT.out.2], trivial⟩, by simp [intOf]; omega⟩
        · have hz : (s == 0) = false := by simpa using hz0
          have HT := Lib.hid (show chg 0 (xs.take (j + 1)) = n ∧ lastS 0 (xs.take (j + 1)) = s by
            have h1 := HT.out
            unfold tw at h1
            rw [if_neg hneg, if_neg hz0] at h1
            exact h1)
          clear hs ha hn hsr har htk hp hpp hz0
          go_wp2_with fail
          exact ⟨⟨j + 1, by simp, by omega, by rw [HT.out.1], by rw [HT.out.2], trivial⟩, by simp [intOf]; omega⟩
    · have hjm2 : j = m := by omega
      have HE := Lib.hid (show xs.take j = xs from List.take_of_length_le (by rw [← HM.out]; omega))
      rw [HE.out]
      subst hjm2
      go_wp2_with fail
      go_ret
      exact ⟨rfl, Below.refl _ _⟩
end Go.Proofs.YtpobhegllhhdgaaGreat
namespace Go.Proofs.YtpobhegllhhdgaaGreat
open Go.RowKit

/-- Numbers as values. -/
def ci (xs : List Int) : List Value := xs.map (Value.int .i64)
/-- Numbers of 64 bits in a block of their own. -/
def Oi (w : World) (g : Nat) (xs : List Int) : Prop := w.heap[g]? = some (.cells (ci xs).toArray 3 (0, 0))
section
variable {w w' : World} {g : Nat} {xs : List Int}
theorem Oi.lt (h : Oi w g xs) : g < w.heap.size := heap_lt h
theorem Oi.bel (h : Oi w g xs) (hb : Below w.heap.size w w') : Oi w' g xs := (hb.block g h.lt).trans h
theorem Oi.fr (h : Oi w g xs) (j : Nat) : w.frozen? ⟨g, j, none⟩ = false := by unfold Oi at h; simp [World.frozen?, h]
theorem Oi.get (h : Oi w g xs) (i : Nat) (hi : i < xs.length) : w.cell? ⟨g, i, none⟩ = some (.int .i64 (co xs i)) := by
  rw [cell_of_row w g i _ 3 (0, 0) h]
  simp [ci, co, hi]
theorem Oi.set (h : Oi w g xs) (i : Nat) (z : Int) : Oi (w.setCell ⟨g, i, none⟩ (.int .i64 z)) g (xs.set i z) := by
  have := heap_set (j := i) h (.int .i64 z)
  unfold Oi ci
  rw [List.map_set]
  exact this
theorem Oi.other (h : Oi w g xs) {p : Addr} (hp : g ≠ p.block) (x : Value) : Oi (w.setCell p x) g xs := (Below.heap_setCell w p x g hp).trans h
theorem Oi.ia (h : Oi w g xs) (hl : xs.length ≤ 1000) (hf : ∀ i, Fit (co xs i)) : Ia w (.slice (some ⟨g, 0, none⟩) xs.length xs.length) xs :=
  ⟨_, _, rfl, Nat.le_refl _, by unfold maxLen; omega, hf, fun j hj => ⟨_, rfl, h.lt, by rw [add_at]; exact h.get j hj⟩⟩
theorem Oi.new (w : World) (n : Nat) : Oi (w.alloc (.cells (ci (List.replicate n 0)).toArray 3)) w.heap.size (List.replicate n 0) := heap_alloc_new w _
end
theorem Tryz.info3 : (Tryz.prog.info? 3).map (fun i => (i.zero, i.size, i.bytes)) = some (some (.int .i64 0), 1, 8) := by kernel_rfl
theorem made_one (n : Nat) : madeCells (Value.int .i64 0).cells (n * 1) = (ci (List.replicate n 0)).toArray := by
  have e : (Value.int .i64 0).cells = #[.int .i64 0] := rfl
  rw [e]
  apply Array.ext'
  simp only [madeCells, ci, Nat.mul_one]
  induction n with
  | zero => simp
  | succ n ih =>
    rw [Array.range_succ, List.replicate_succ']
    simp at ih ⊢
    rw [ih, Nat.mod_one]
    exact ⟨rfl, rfl⟩
theorem mkInt (n : Nat) (hn : n ≤ 1000000) (w : World) (D : Int) (hD : D = (n : Int)) :
    (Instr.makeSlice 79 (.int .i64 D) (.int .i64 D)).run Tryz.prog w = .ok (.slice (some ⟨w.heap.size, 0, none⟩) n n) (w.alloc (.cells (ci (List.replicate n 0)).toArray 3)) := by
  subst hD
  obtain ⟨i0, hi0, hz0, hz1, hz2⟩ := info_parts Tryz.info3
  have := run_makeSlice (P := Tryz.prog) w 79 3 i0 (.int .i64 0) Tryz.underlying79 hi0 hz0 .i64 .i64 (n : Int) (n : Int) (by omega) (Int.le_refl _) (by rw [hz1]; omega) (by rw [hz2]; omega) (by omega)
  rw [this, hz1, Int.toNat_natCast, made_one]
/-- A polynomial's sign at n by d. -/
def sgP (n d : Int) (L : List Int) : Int := sgn (hor n d (trz L))
/-- What Changes answers. -/
def chgP (n d : Int) (Ls : List (List Int)) : Nat := chg 0 (gen Ls.length fun i => sgP n d (pg Ls i))
theorem fit_sg (n d : Int) (Ls : List (List Int)) (k i : Nat) : Fit (co (gen k fun i => sgP n d (pg Ls i)) i) ∧ (-1 ≤ co (gen k fun i => sgP n d (pg Ls i)) i ∧ co (gen k fun i => sgP n d (pg Ls i)) i ≤ 1) := by
  rw [co_gen]
  split
  · have := sgn_rng (hor n d (trz (pg Ls i)))
    unfold Fit sgP
    omega
  · unfold Fit; omega
set_option maxRecDepth 100000 in
theorem Changes_no (v : Value) (n d : Int) (w : World) (hn : Fit n) (hd : Fit d) (hm : ¬ Maybe n d) :
    Calls Tryz.prog 12 #[v, .agg #[.int .i64 n, .int .i64 d]] w fun e w' => e = .returned (.tuple #[.int .i64 0, .int .i64 1]) ∧ Below w.heap.size w w' := by
  have hmd : decide (Maybe n d) = false := decide_eq_false hm
  have HM := Lib.hid (fun W => p_may n d W hn hd)
  rw [hmd] at HM
  have HB := Lib.hid (show Rt (w.alloc (.cells #[.int .i64 n, .int .i64 d] 24)) w.heap.size n d ∧ Below w.heap.size w (w.alloc (.cells #[.int .i64 n, .int .i64 d] 24)) from ⟨Rt.new w n d, bel_a _ _⟩)
  have f0 := HB.out.1.c0
  have f1 := HB.out.1.c1
  clear hn hd hm hmd
  go_enter Tryz.func12, Tryz.ntmps12
  go_wp2_with (go_at_call 39; (with_reducible refine (HM.out _).mono ?_); rintro e w1 ⟨rfl, hb⟩; have HB := Lib.hid (bel_tr HB.out.2 hb); clear hb)
  go_ret2
  exact ⟨rfl, HB.out⟩
set_option maxRecDepth 100000 in
set_option maxHeartbeats 1000000 in
theorem Changes_yes (A : Option Addr) (m c : Nat) (Ls : List (List Int)) (l : Nat) (n d : Int) (w : World) (h : Cn .c w (.slice A m c) Ls l) (hm : m ≤ 100) (hs : ∀ i, i < m → (pg Ls i).length ≤ 100) (hl : l ≤ 60000) (hn : Fit n) (hd : Fit d) (hmb : Maybe n d) :
    Calls Tryz.prog 12 #[.slice A m c, .agg #[.int .i64 n, .int .i64 d]] w fun e w' => e = .returned (.tuple #[.int .i64 (chgP n d Ls : Int), .int .i64 0]) ∧ Below w.heap.size w w' := by
  have hmd : decide (Maybe n d) = true := decide_eq_true hmb
  have HM := Lib.hid (fun W => p_may n d W hn hd)
  rw [hmd] at HM
  have HB := Lib.hid (show Rt (w.alloc (.cells #[.int .i64 n, .int .i64 d] 24)) w.heap.size n d ∧ Below w.heap.size w (w.alloc (.cells #[.int .i64 n, .int .i64 d] 24)) from ⟨Rt.new w n d, bel_a _ _⟩)
  have f0 := HB.out.1.c0
  have f1 := HB.out.1.c1
  have hmk := fun W => mkInt m (by omega) W (m : Int) rfl
  have HL := Lib.hid h.cap.1
  have H := Lib.hid h
  obtain ⟨f, hf⟩ : ∃ f : Nat → Int, f = fun i => sgP n d (pg Ls i) := ⟨_, rfl⟩
  have HF := Lib.hid (show chgP n d Ls = chg 0 (gen m f) ∧ ∀ k i, Fit (co (gen k f) i) ∧ (-1 ≤ co (gen k f) i ∧ co (gen k f) i ≤ 1) from ⟨by unfold chgP; rw [HL.out, hf], fun k i => hf ▸ fit_sg n d Ls k i⟩)
  have HS := Lib.hid (fun i (hi : i < m) W B q (hp : Pol .c W (.slice B (pg Ls i).length q) (pg Ls i) l) => sgnP_any B (pg Ls i).length q (pg Ls i) l n d W hp.any (hs i hi) hl hn hd hmb)
  have HFI := Lib.hid (show ∀ i, sgn (hor n d (trz (pg Ls i))) = f i from fun i => by rw [hf]; rfl)
  clear h hn hd hmb hmd hf hs
  go_enter Tryz.func12, Tryz.ntmps12
  go_upto_region 4 with (go_at_call 39; (with_reducible refine (HM.out _).mono ?_); rintro e w1 ⟨rfl, hb⟩; have HB := Lib.hid (And.intro (HB.out.1.below hb HB.out.1.lt) (bel_tr HB.out.2 hb)); clear hb f0 f1)
  have HO := Lib.hid (show Below w.heap.size w (w1.alloc (.cells (ci (List.replicate m 0)).toArray 3)) ∧ Rt (w1.alloc (.cells (ci (List.replicate m 0)).toArray 3)) w.heap.size n d ∧ Oi (w1.alloc (.cells (ci (List.replicate m 0)).toArray 3)) w1.heap.size (fillN m f 0) ∧ w.heap.size < w1.heap.size from
    ⟨bel_tr HB.out.2 (bel_a _ _), HB.out.1.alloc _, by rw [fill_start]; exact Oi.new w1 m, HB.out.1.lt⟩)
  obtain ⟨g, hg⟩ : ∃ g, g = w1.heap.size := ⟨_, rfl⟩
  obtain ⟨W2, hW2⟩ : ∃ W2, W2 = w1.alloc (.cells (ci (List.replicate m 0)).toArray 3) := ⟨_, rfl⟩
  rw [← hW2] at HO ⊢
  rw [← hg] at HO ⊢
  clear hg hW2 HB hmk
  go_wp2_with fail
  go_loopw [17] (fun i wr => ∃ j : Nat, i = .int .i64 (j : Int) ∧ j ≤ m ∧ Below w.heap.size w wr ∧ Rt wr w.heap.size n d ∧ Oi wr g (fillN m f j)) (fun i _ => m - (intOf i).toNat)
  case atStart => exact ⟨0, rfl, Nat.zero_le _, HO.out.1, HO.out.2.1, HO.out.2.2.1⟩
  case round =>
    obtain ⟨j, rfl, hj, hb, hr, ho⟩ := hrel
    by_cases hjm : j < m
    · obtain ⟨ad, B, q, rfl, had, hc, hp⟩ := H.out.get j (by rw [← HL.out]; exact hjm)
      have f0 := hr.c0
      have f1 := hr.c1
      have hc1 : wr.cell? (ad.add j) = some (.slice B (pg Ls j).length q) := by rw [hb.cell (by rw [block_of_add]; exact had)]; exact hc
      have HP := Lib.hid (hp.bel hb)
      obtain ⟨x, hx⟩ : ∃ x, x = (pg Ls j).length := ⟨_, rfl⟩
      have HS1 := Lib.hid (HS.out j hjm)
      rw [HFI.out j, ← hx] at HS1
      rw [← hx] at hc1 HP
      have HB := Lib.hid (And.intro hb (And.intro hr ho))
      have hw1 : (j : Int) < m := by omega
      clear hc hp hb hr ho hx
      go_wp2_with (go_at_call 40; (with_reducible refine (HS1.out _ B q HP.out).mono ?_); rintro e w3 ⟨rfl, hb⟩; have HB := Lib.hid (show Below w.heap.size w w3 ∧ Rt w3 w.heap.size n d ∧ Oi w3 g (fillN m f j) from ⟨bel_tr HB.out.1 hb, HB.out.2.1.below hb HB.out.2.1.lt, HB.out.2.2.bel hb⟩); have hfr := HB.out.2.2.fr j; have hgc := HB.out.2.2.get j (by rw [fill_len _ (by omega)]; omega); clear hb)
      exact ⟨⟨j + 1, by simp, by omega, bel_set HB.out.1 (Nat.le_of_lt HO.out.2.2.2) _ _, HB.out.2.1.far (by simp; exact Nat.ne_of_lt HO.out.2.2.2) _, by rw [← fill_set f hjm]; exact HB.out.2.2.set j _⟩, by simp [intOf]; omega⟩
    · obtain rfl : j = m := by omega
      rw [fill_end] at ho
      have HIa := Lib.hid (ho.ia (by rw [gen_len]; omega) (fun i => (HF.out.2 _ i).1))
      rw [gen_len] at HIa
      have HB := Lib.hid hb
      clear hb hr ho
      go_wp2_with (go_at_call 41; (with_reducible refine (changes_any _ j j (gen j f) _ HIa.out (fun i => (HF.out.2 _ i).2) (by omega)).mono ?_); rintro e w3 ⟨rfl, hb⟩; have HB := Lib.hid (bel_tr HB.out hb); clear hb)
      go_ret2
      exact ⟨by rw [HF.out.1]; rfl, HB.out⟩
end Go.Proofs.YtpobhegllhhdgaaGreat
namespace Go.Proofs.YtpobhegllhhdgaaGreat
open Go.RowKit

theorem bes_rng (n d : Int) (T : List Int) : (-1 ≤ (besP n d T).1 ∧ (besP n d T).1 ≤ 1) ∧ (-1 ≤ (besP n d T).2 ∧ (besP n d T).2 ≤ 1) := by
  have h1 := sgn_rng (hor n d T)
  have h2 := sgn_rng (hor n d (trz (woP n d T).1))
  unfold besP
  split
  · refine ⟨?_, h2⟩
    split
    · exact h2
    · omega
  · exact ⟨h1, h1⟩
/-- The signs just below, and just above, of each polynomial of a list. -/
def lowS (n d : Int) (Ls : List (List Int)) (i : Nat) : Int := (besP n d (trz (pg Ls i))).1
def higS (n d : Int) (Ls : List (List Int)) (i : Nat) : Int := (besP n d (trz (pg Ls i))).2
/-- How often they change. -/
def lowC (n d : Int) (Ls : List (List Int)) : Nat := chg 0 (gen Ls.length (lowS n d Ls))
def higC (n d : Int) (Ls : List (List Int)) : Nat := chg 0 (gen Ls.length (higS n d Ls))
theorem gen_rng {f : Nat → Int} (h : ∀ i, -1 ≤ f i ∧ f i ≤ 1) (k i : Nat) : Fit (co (gen k f) i) ∧ (-1 ≤ co (gen k f) i ∧ co (gen k f) i ≤ 1) := by
  rw [co_gen]
  split
  · have := h i
    unfold Fit
    omega
  · unfold Fit; omega
/-- A place as a value, and in a box. -/
def PlV (n d : Int) (z : Bool) (b a : Int) : Value := .agg #[.int .i64 n, .int .i64 d, .bool z, .int .i64 b, .int .i64 a]
def Pb (w : World) (g : Nat) (n d : Int) (z : Bool) (b a : Int) : Prop := w.heap[g]? = some (.cells #[.int .i64 n, .int .i64 d, .bool z, .int .i64 b, .int .i64 a] 87 (0, 0))
section
variable {w w' : World} {g : Nat} {n d b a : Int} {z : Bool}
theorem Pb.lt (h : Pb w g n d z b a) : g < w.heap.size := heap_lt h
theorem Pb.bel (h : Pb w g n d z b a) (hb : Below w.heap.size w w') : Pb w' g n d z b a := (hb.block g h.lt).trans h
theorem Pb.fr (h : Pb w g n d z b a) (j : Nat) : w.frozen? ⟨g, j, none⟩ = false := by unfold Pb at h; simp [World.frozen?, h]
theorem Pb.cells (h : Pb w g n d z b a) : w.cell? ⟨g, 0, none⟩ = some (.int .i64 n) ∧ w.cell? ⟨g, 1, none⟩ = some (.int .i64 d) ∧ w.cell? ⟨g, 2, none⟩ = some (.bool z) ∧ w.cell? ⟨g, 3, none⟩ = some (.int .i64 b) ∧ w.cell? ⟨g, 4, none⟩ = some (.int .i64 a) :=
  ⟨cell_of_row w g 0 _ 87 (0, 0) h, cell_of_row w g 1 _ 87 (0, 0) h, cell_of_row w g 2 _ 87 (0, 0) h, cell_of_row w g 3 _ 87 (0, 0) h, cell_of_row w g 4 _ 87 (0, 0) h⟩
theorem Pb.new (w : World) (n d : Int) (z : Bool) (b a : Int) : Pb (w.alloc (.cells #[.int .i64 n, .int .i64 d, .bool z, .int .i64 b, .int .i64 a] 87)) w.heap.size n d z b a := heap_alloc_new w _
theorem Pb.other (h : Pb w g n d z b a) {p : Addr} (hp : g ≠ p.block) (x : Value) : Pb (w.setCell p x) g n d z b a := (Below.heap_setCell w p x g hp).trans h
theorem Pb.put (h : Pb w g n d z b a) (n' d' : Int) (z' : Bool) (b' a' : Int) :
    Pb (((((w.setCell ⟨g, 0, none⟩ (.int .i64 n')).setCell ⟨g, 1, none⟩ (.int .i64 d')).setCell ⟨g, 2, none⟩ (.bool z')).setCell ⟨g, 3, none⟩ (.int .i64 b')).setCell ⟨g, 4, none⟩ (.int .i64 a')) g n' d' z' b' a' := by
  unfold Pb at h ⊢
  simp [World.setCell, Array.getElem?_modify, h]
end
theorem ret_pb {fn : Func} {p : Tmp} {tmps : Array Value} {W : World} {g : Nat} {n d b a : Int} {z : Bool} (h : fn.results = #[.cell p 87]) (hp : tmps.getD p undef = .pointer (some ⟨g, 0, none⟩)) (hb : Pb W g n d z b a) :
    (results fn tmps).run Tryz.prog W = .ok (PlV n d z b a) W := by
  obtain ⟨h0, h1, h2, h3, h4⟩ := hb.cells
  rw [Array.getD_eq_getD_getElem?] at hp
  simp [results, h, hp, go_sem, h0, h1, h2, h3, h4, PlV]
/-- What stands in memory in placeOf. -/
structure PlH (w W : World) (n d : Int) (g h : Nat) (xs ys : List Int) : Prop where
  bel : Below w.heap.size w W
  x : Rt W w.heap.size n d
  p : Pb W (w.heap.size + 1) 0 0 false 0 0
  b : Oi W g xs
  a : Oi W h ys
  ne : g ≠ h ∧ w.heap.size + 1 < g ∧ w.heap.size + 1 < h
section
variable {w W W' : World} {n d : Int} {g h : Nat} {xs ys : List Int}
theorem PlH.next (H : PlH w W n d g h xs ys) (hb : Below W.heap.size W W') : PlH w W' n d g h xs ys := ⟨bel_tr H.bel hb, H.x.below hb H.x.lt, H.p.bel hb, H.b.bel hb, H.a.bel hb, H.ne⟩
theorem PlH.drew (H : PlH w W n d g h xs ys) : PlH w W.drew n d g h xs ys := H.next ((Below.refl _ _).drew)
theorem PlH.put (H : PlH w W n d g h xs ys) (i : Nat) (s t : Int) : PlH w ((W.setCell ⟨g, i, none⟩ (.int .i64 s)).setCell ⟨h, i, none⟩ (.int .i64 t)) n d g h (xs.set i s) (ys.set i t) := by
  obtain ⟨h1, h2, h3⟩ := H.ne
  exact ⟨bel_set (bel_set H.bel (by omega) _ _) (by omega) _ _, (H.x.far (by simp; omega) _).far (by simp; omega) _, (H.p.other (by simp; omega) _).other (by simp; omega) _, (H.b.set i s).other (by simpa using h1) _, (H.a.other (by simpa using Ne.symm h1) _).set i t, H.ne⟩
theorem PlH.start (w : World) (n d : Int) (m : Nat) (f k : Nat → Int) :
    PlH w ((((w.alloc (.cells #[.int .i64 n, .int .i64 d] 24)).alloc (.cells #[.int .i64 0, .int .i64 0, .bool false, .int .i64 0, .int .i64 0] 87)).alloc (.cells (ci (List.replicate m 0)).toArray 3)).alloc (.cells (ci (List.replicate m 0)).toArray 3)) n d (w.heap.size + 1 + 1) (w.heap.size + 1 + 1 + 1) (fillN m f 0) (fillN m k 0) := by
  have hp := Pb.new (w.alloc (.cells #[.int .i64 n, .int .i64 d] 24)) 0 0 false 0 0
  have hb := Oi.new ((w.alloc (.cells #[.int .i64 n, .int .i64 d] 24)).alloc (.cells #[.int .i64 0, .int .i64 0, .bool false, .int .i64 0, .int .i64 0] 87)) m
  have ha := Oi.new (((w.alloc (.cells #[.int .i64 n, .int .i64 d] 24)).alloc (.cells #[.int .i64 0, .int .i64 0, .bool false, .int .i64 0, .int .i64 0] 87)).alloc (.cells (ci (List.replicate m 0)).toArray 3)) m
  simp only [size_a1] at hp hb ha
  rw [fill_start, fill_start]
  exact ⟨bel_tr (bel_tr (bel_tr (bel_a _ _) (bel_a _ _)) (bel_a _ _)) (bel_a _ _), (((Rt.new w n d).alloc _).alloc _).alloc _, (hp.bel (bel_a _ _)).bel (bel_a _ _), hb.bel (bel_a _ _), ha, by omega⟩
/-- Behind the answer's store. -/
theorem PlH.fin (H : PlH w W n d g h xs ys) (n' d' : Int) (z' : Bool) (b' a' : Int) :
    Below w.heap.size w (((((W.setCell ⟨w.heap.size + 1, 0, none⟩ (.int .i64 n')).setCell ⟨w.heap.size + 1, 1, none⟩ (.int .i64 d')).setCell ⟨w.heap.size + 1, 2, none⟩ (.bool z')).setCell ⟨w.heap.size + 1, 3, none⟩ (.int .i64 b')).setCell ⟨w.heap.size + 1, 4, none⟩ (.int .i64 a')) ∧
    Rt (((((W.setCell ⟨w.heap.size + 1, 0, none⟩ (.int .i64 n')).setCell ⟨w.heap.size + 1, 1, none⟩ (.int .i64 d')).setCell ⟨w.heap.size + 1, 2, none⟩ (.bool z')).setCell ⟨w.heap.size + 1, 3, none⟩ (.int .i64 b')).setCell ⟨w.heap.size + 1, 4, none⟩ (.int .i64 a')) w.heap.size n d :=
  ⟨bel_set (bel_set (bel_set (bel_set (bel_set H.bel (by omega) _ _) (by omega) _ _) (by omega) _ _) (by omega) _ _) (by omega) _ _,
    ((((H.x.far (by simp) _).far (by simp) _).far (by simp) _).far (by simp) _).far (by simp) _⟩
theorem PlH.turn (H : PlH w W n d g h xs xs) : PlH w W n d h g xs xs := ⟨H.bel, H.x, H.p, H.a, H.b, Ne.symm H.ne.1, H.ne.2.2, H.ne.2.1⟩
end
set_option maxRecDepth 100000 in
set_option maxHeartbeats 1000000 in
theorem placeOf_any (A : Option Addr) (m c : Nat) (Ls : List (List Int)) (l : Nat) (n d : Int) (w : World) (h : Cn .c w (.slice A m c) Ls l) (hm : m ≤ 100) (hs : ∀ i, i < m → (pg Ls i).length ≤ 100) (h0 : ∀ i, i < m → 0 < pl (pg Ls i)) (hm0 : 0 < m) (hl : l ≤ 19999) (hn : Fit n) (hd : Fit d) (hmb : Maybe n d) :
    Calls Tryz.prog 47 #[.slice A m c, .agg #[.int .i64 n, .int .i64 d]] w fun e w' => e = .returned (PlV n d (decide (sgP n d (pg Ls 0) = 0)) (lowC n d Ls : Int) (higC n d Ls : Int)) ∧ Below w.heap.size w w' := by
  have hmk := fun W => mkInt m (by omega) W (m : Int) rfl
  have HL := Lib.hid h.cap.1
  have H := Lib.hid h
  obtain ⟨f, hf⟩ : ∃ f : Nat → Int, f = lowS n d Ls := ⟨_, rfl⟩
  obtain ⟨k, hk⟩ : ∃ k : Nat → Int, k = higS n d Ls := ⟨_, rfl⟩
  obtain ⟨s, hsv⟩ : ∃ s, s = sgP n d (pg Ls 0) := ⟨_, rfl⟩
  have HF := Lib.hid (show (lowC n d Ls = chg 0 (gen m f) ∧ higC n d Ls = chg 0 (gen m k)) ∧ (∀ j i, Fit (co (gen j f) i) ∧ (-1 ≤ co (gen j f) i ∧ co (gen j f) i ≤ 1)) ∧ (∀ j i, Fit (co (gen j k) i) ∧ (-1 ≤ co (gen j k) i ∧ co (gen j k) i ≤ 1)) from
    ⟨by unfold lowC higC; rw [← HL.out, hf, hk]; exact ⟨rfl, rfl⟩, gen_rng fun i => hf ▸ (bes_rng n d _).1, gen_rng fun i => hk ▸ (bes_rng n d _).2⟩)
  have HS := Lib.hid (fun i (hi : i < m) W B q (hp : Pol .c W (.slice B (pg Ls i).length q) (pg Ls i) l) => beside_any B (pg Ls i).length q (pg Ls i) l n d W hp.any (hs i hi) hl hn hd hmb (h0 i hi))
  have HS0 := Lib.hid (fun W B q (hp : Pol .c W (.slice B (pg Ls 0).length q) (pg Ls 0) l) => sgnP_any B (pg Ls 0).length q (pg Ls 0) l n d W hp.any (hs 0 hm0) (by omega) hn hd hmb)
  have HFI := Lib.hid (show ∀ i, (besP n d (trz (pg Ls i))).1 = f i ∧ (besP n d (trz (pg Ls i))).2 = k i from fun i => by rw [hf, hk]; exact ⟨rfl, rfl⟩)
  have HS0 := Lib.hid (show ∀ W B q, Pol .c W (.slice B (pg Ls 0).length q) (pg Ls 0) l → Calls Tryz.prog 40 #[.slice B (pg Ls 0).length q, .agg #[.int .i64 n, .int .i64 d]] W fun e w' => e = .returned (.int .i64 s) ∧ Below W.heap.size W w' from hsv ▸ HS0.out)
  have HP := Lib.hid (PlH.start w n d m f k)
  have HP2 := Lib.hid (PlH.start w n d m (fun _ => 0) (fun _ => 0))
  have hfz : ∀ q : Nat → Int, fillN m q 0 = fillN m (fun _ => 0) 0 := fun q => by rw [fill_start, fill_start]
  have HP3 := Lib.hid (show PlH w ((((w.alloc (.cells #[.int .i64 n, .int .i64 d] 24)).alloc (.cells #[.int .i64 0, .int .i64 0, .bool false, .int .i64 0, .int .i64 0] 87)).alloc (.cells (ci (List.replicate m 0)).toArray 3)).alloc (.cells (ci (List.replicate m 0)).toArray 3)) n d (w.heap.size + 1 + 1 + 1) (w.heap.size + 1 + 1) (fillN m f 0) (fillN m k 0) from by
    rw [hfz f, hfz k]; exact HP2.out.turn)
  clear h hn hd hmb hf hk hs h0 hfz HP2
  go_enter Tryz.func47, Tryz.ntmps47
  go_upto_region 1 with fail
  go_cut [5, 6] from 9 to 14 (fun b a wx => ∃ g h, b = .slice (some ⟨g, 0, none⟩) m m ∧ a = .slice (some ⟨h, 0, none⟩) m m ∧ PlH w wx n d g h (fillN m f 0) (fillN m k 0))
  case first =>
    go_region
    all_goals go_wp2_with fail
    all_goals go_meet
    all_goals first
      | exact ⟨_, _, rfl, rfl, HP.out.drew⟩
      | exact ⟨_, _, rfl, rfl, HP3.out.drew⟩
  case rest =>
    obtain ⟨g, h, rfl, rfl, hP⟩ := hcut
    have HP := Lib.hid hP
    clear hP HP3 hmk
    go_wp2_with fail
    go_loopw [17] (fun i wr => ∃ j : Nat, i = .int .i64 (j : Int) ∧ j ≤ m ∧ PlH w wr n d g h (fillN m f j) (fillN m k j)) (fun i _ => m - (intOf i).toNat)
    case atStart => exact ⟨0, rfl, Nat.zero_le _, HP.out⟩
    case round =>
      obtain ⟨j, rfl, hj, hP⟩ := hrel
      by_cases hjm : j < m
      · obtain ⟨ad, B, q, rfl, had, hc, hp⟩ := H.out.get j (by rw [← HL.out]; exact hjm)
        have f0 := hP.x.c0
        have f1 := hP.x.c1
        have hc1 : wr.cell? (ad.add j) = some (.slice B (pg Ls j).length q) := by rw [hP.bel.cell (by rw [block_of_add]; exact had)]; exact hc
        have HQ := Lib.hid (hp.bel hP.bel)
        obtain ⟨x, hx⟩ : ∃ x, x = (pg Ls j).length := ⟨_, rfl⟩
        have HS1 := Lib.hid (HS.out j hjm)
        rw [(HFI.out j).1, (HFI.out j).2, ← hx] at HS1
        rw [← hx] at hc1 HQ
        have HB := Lib.hid hP
        have hw1 : (j : Int) < m := by omega
        clear hc hp hP hx
        go_wp2_with (go_at_call 48; (with_reducible refine (HS1.out _ B q HQ.out).mono ?_); rintro e w3 ⟨rfl, hb⟩; have HB := Lib.hid (HB.out.next hb); have hfr := HB.out.b.fr j; have hgc := HB.out.b.get j (by rw [fill_len _ (by omega)]; omega); have hfr2 := HB.out.a.fr j; have hgc2 := HB.out.a.get j (by rw [fill_len _ (by omega)]; omega); have hne := HB.out.ne.1; clear hb)
        exact ⟨⟨j + 1, by simp, by omega, by rw [← fill_set f hjm, ← fill_set k hjm]; exact HB.out.put j _ _⟩, by simp [intOf]; omega⟩
      · obtain rfl : j = m := by omega
        rw [fill_end, fill_end] at hP
        have HB := Lib.hid hP
        obtain ⟨ad, B, q, rfl, had, hc, hp⟩ := H.out.get 0 (by rw [← HL.out]; exact hm0)
        have HC := Lib.hid (fun (W : World) (hW : PlH w W n d g h (gen j f) (gen j k)) => (show W.cell? ⟨w.heap.size, 0, none⟩ = some (.int .i64 n) ∧ W.cell? ⟨w.heap.size, 1, none⟩ = some (.int .i64 d) ∧ W.cell? ad = some (.slice B (pg Ls 0).length q) from
          ⟨hW.x.c0, hW.x.c1, (by rw [hW.bel.cell had, ← hc, add_zero_])⟩))
        have HC5 := Lib.hid (fun (W : World) (hW : PlH w W n d g h (gen j f) (gen j k)) n' d' z' b' a' => (show _ ∧ _ ∧ _ from
          ⟨(hW.fin n' d' z' b' a').2.c0, (hW.fin n' d' z' b' a').2.c1, ((hW.fin n' d' z' b' a').1.cell had).trans (show w.cell? ad = some (.slice B (pg Ls 0).length q) by rw [← hc, add_zero_])⟩))
        have HIb := Lib.hid (fun (W : World) (hW : PlH w W n d g h (gen j f) (gen j k)) => (show Ia W (.slice (some ⟨g, 0, none⟩) j j) (gen j f) from by have := hW.b.ia (by rw [gen_len]; omega) (fun i => (HF.out.2.1 _ i).1); rwa [gen_len] at this))
        have HIa := Lib.hid (fun (W : World) (hW : PlH w W n d g h (gen j f) (gen j k)) => (show Ia W (.slice (some ⟨h, 0, none⟩) j j) (gen j k) from by have := hW.a.ia (by rw [gen_len]; omega) (fun i => (HF.out.2.2 _ i).1); rwa [gen_len] at this))
        have HQ := Lib.hid (fun (W : World) (hW : PlH w W n d g h (gen j f) (gen j k)) => hp.bel hW.bel)
        obtain ⟨f0, f1, f2⟩ := HC.out _ hP
        obtain ⟨x, hx⟩ : ∃ x, x = (pg Ls 0).length := ⟨_, rfl⟩
        rw [← hx] at HQ HC HC5 HS0 f2
        clear hc hp hP hx
        have hw1 : (0 : Int) < (j : Int) := by omega
        obtain ⟨z, hz⟩ : ∃ z, (s == 0) = z := ⟨_, rfl⟩
        have HZ := Lib.hid (show decide (sgP n d (pg Ls 0) = 0) = z by rw [← hsv, ← hz]; simp [BEq.beq])
        clear hsv
        have hne1 : ¬ w.heap.size + 1 = w.heap.size := by omega
        have hne2 : ¬ w.heap.size = w.heap.size + 1 := by omega
        go_upto_region 7 with fail
        go_region_held3 (fun w' => w'.cell? ⟨w.heap.size, 0, none⟩ = some (.int .i64 n) ∧ w'.cell? ⟨w.heap.size, 1, none⟩ = some (.int .i64 d) ∧ w'.cell? ad = some (.slice B x q))
          (first
            | with_reducible exact HC.out _ HB.out
            | with_reducible exact HC.out _ HB.out.drew
            | exact HC5.out _ HB.out _ _ _ _ _)
          (first
            | (go_at_call 40; (first | (with_reducible refine (HS0.out _ B q (HQ.out _ HB.out)).mono ?_) | (have HB := Lib.hid HB.out.drew; (with_reducible refine (HS0.out _ B q (HQ.out _ HB.out)).mono ?_))); rintro e w3 ⟨rfl, hb⟩; have HB := Lib.hid (HB.out.next hb); have f3 := HB.out.p.fr; obtain ⟨p0, p1, p2, p3, p4⟩ := HB.out.p.cells; clear hb)
            | (go_at_call 41; (first | (with_reducible refine (changes_any _ j j (gen j f) _ (HIb.out _ HB.out) (fun i => (HF.out.2.1 _ i).2) (by omega)).mono ?_) | (have HB := Lib.hid HB.out.drew; (with_reducible refine (changes_any _ j j (gen j f) _ (HIb.out _ HB.out) (fun i => (HF.out.2.1 _ i).2) (by omega)).mono ?_))); rintro e w3 ⟨rfl, hb⟩; have HB := Lib.hid (HB.out.next hb); have f3 := HB.out.p.fr; obtain ⟨p0, p1, p2, p3, p4⟩ := HB.out.p.cells; clear hb)
            | (go_at_call 41; (first | (with_reducible refine (changes_any _ j j (gen j k) _ (HIa.out _ HB.out) (fun i => (HF.out.2.2 _ i).2) (by omega)).mono ?_) | (have HB := Lib.hid HB.out.drew; (with_reducible refine (changes_any _ j j (gen j k) _ (HIa.out _ HB.out) (fun i => (HF.out.2.2 _ i).2) (by omega)).mono ?_))); rintro e w3 ⟨rfl, hb⟩; have HB := Lib.hid (HB.out.next hb); have f3 := HB.out.p.fr; obtain ⟨p0, p1, p2, p3, p4⟩ := HB.out.p.cells; clear hb))
        all_goals go_wp2_with fail
        all_goals
          refine bodyPost_ret (ret_pb rfl rfl (HB.out.p.put _ _ _ _ _)) rfl ⟨?_, (HB.out.fin _ _ _ _ _).1⟩
          rw [HZ.out, HF.out.1.1, HF.out.1.2]
end Go.Proofs.YtpobhegllhhdgaaGreat
