/- Proved here: what May answers, the program's and the document's. No condition · what zeros, short, and the document's zeros and p16 answer. Condition: at most 1000 bytes 0 · what Make answers, in the program. No condition · what the document's Make answers. No condition · the numbers of two and of four bytes at a place, what plain, turned, begins and marked answer, and the document's u16 and u32. Condition: the bytes are there; a text of at most a billion bytes · what May answers, the program's and the document's. No condition. -/
import Derived.Test.YtfhaloclbbmbeaaGreatM09
import Derived.Laws.MakeOwn
import Derived.WalkKit
import Derived.WalkSpells
import Derived.WalkLawsBesides
import Derived.Deep.DeepFit
import Derived.Deep.QuietTactic
import Derived.BigQuiet
import Derived.Lib.Hide
import Derived.StillTailTactics
import Derived.Deep.RegionHeld3
import Derived.ChangeAlike
import Derived.RegionTactic
import Derived.IntWalk
import Derived.Laws.BitsAllLaws
import Derived.Laws.Bits64b
import Derived.Laws.IdiomStrings
import Derived.Deep.CutBlock
import Derived.Deep.CutRange
import Derived.Deep.DeepCutAuto
namespace Go.Proofs.YtfhaloclbbmbeaaGreat
open Go.RowKit
def MayP (h : Hd) : Prop := (16 ≤ h.em ∧ h.em ≤ 16384) ∧ (1 ≤ h.gl ∧ h.gl ≤ 1024) ∧ (1 ≤ h.me ∧ h.me ≤ h.gl) ∧ (-32768 ≤ h.a1 ∧ h.a1 ≤ 32767) ∧ (-32768 ≤ h.a2 ∧ h.a2 ≤ 32767) ∧ (-32768 ≤ h.a3 ∧ h.a3 ≤ 32767)
instance (h : Hd) : Decidable (MayP h) := inferInstanceAs (Decidable (_ ∧ _))
namespace N10
set_option maxHeartbeats 4000000 in
theorem may_any (h : Hd) (w : World) : Calls Tryz.prog 90 #[.agg #[.int .i64 h.em, .bool h.lg, .int .i64 h.gl, .int .i64 h.me, .int .i64 h.a1, .int .i64 h.a2, .int .i64 h.a3]] w fun e w' => e = .returned (.bool (decide (MayP h))) ∧ Below w.heap.size w w' := by
  have HB0 := Lib.hid (show Below w.heap.size w (w.alloc (.cells #[.int .i64 h.em, .bool h.lg, .int .i64 h.gl, .int .i64 h.me, .int .i64 h.a1, .int .i64 h.a2, .int .i64 h.a3] 39)) from (Below.refl _ _).alloc (Nat.le_refl _) _)
  have HX := Lib.hid (show HB (w.alloc (.cells #[.int .i64 h.em, .bool h.lg, .int .i64 h.gl, .int .i64 h.me, .int .i64 h.a1, .int .i64 h.a2, .int .i64 h.a3] 39)) w.heap.size h from heap_alloc_new w _)
  have pe := fun W => mayEm_any h.em W
  have pm := fun W => mayMet_any h.em h.lg h.gl h.me h.a1 h.a2 h.a3 W
  have q1 := fun W => signed_any h.a1 W
  have q2 := fun W => signed_any h.a2 W
  have q3 := fun W => signed_any h.a3 W
  by_cases k0 : 16 ≤ h.em ∧ h.em ≤ 16384
  · rw [decide_eq_true k0] at pe
    by_cases k1 : 1 ≤ h.gl
    · have f1 : decide (1 ≤ h.gl) = true := decide_eq_true k1
      by_cases k2 : h.gl ≤ 1024
      · have f2 : decide (h.gl ≤ 1024) = true := decide_eq_true k2
        by_cases k3 : 1 ≤ h.me ∧ h.me ≤ h.gl
        · rw [decide_eq_true k3] at pm
          by_cases k4 : -32768 ≤ h.a1 ∧ h.a1 ≤ 32767
          · rw [decide_eq_true k4] at q1
            by_cases k5 : -32768 ≤ h.a2 ∧ h.a2 ≤ 32767
            · rw [decide_eq_true k5] at q2
              by_cases k6 : -32768 ≤ h.a3 ∧ h.a3 ≤ 32767
              · rw [decide_eq_true k6] at q3
                rw [decide_eq_true (show MayP h from by unfold MayP; omega)]
                clear k0 k1 k2 k3 k4 k5 k6
                have PE := Lib.hid pe
                have PM := Lib.hid pm
                have Q1 := Lib.hid q1
                have Q2 := Lib.hid q2
                have Q3 := Lib.hid q3
                clear pe pm q1 q2 q3
                go_enter Tryz.func90, Tryz.ntmps90
                go_wp2_with (first
                  | (go_at_call 142; (with_reducible refine (PE.out _).mono ?_); rintro e w' ⟨rfl, rfl⟩)
                  | (go_at_call 144; (with_reducible refine (PM.out _).mono ?_); rintro e w1 ⟨rfl, hb⟩; have B := Lib.hid (HB0.out.trans (hb.mono HB0.out.size)); obtain ⟨c0, c1, c2, c3, c4, c5, c6⟩ := (HX.out.bel hb).cells; clear hb)
                  | (go_at_call 170; (with_reducible refine (Q1.out _).mono ?_); rintro e w' ⟨rfl, rfl⟩)
                  | (go_at_call 170; (with_reducible refine (Q2.out _).mono ?_); rintro e w' ⟨rfl, rfl⟩)
                  | (go_at_call 170; (with_reducible refine (Q3.out _).mono ?_); rintro e w' ⟨rfl, rfl⟩))
                go_ret
                exact ⟨rfl, B.out⟩
              · rw [decide_eq_false k6] at q3
                rw [decide_eq_false (show ¬ MayP h from by unfold MayP; omega)]
                clear k0 k1 k2 k3 k4 k5 k6
                have PE := Lib.hid pe
                have PM := Lib.hid pm
                have Q1 := Lib.hid q1
                have Q2 := Lib.hid q2
                have Q3 := Lib.hid q3
                clear pe pm q1 q2 q3
                go_enter Tryz.func90, Tryz.ntmps90
                go_wp2_with (first
                  | (go_at_call 142; (with_reducible refine (PE.out _).mono ?_); rintro e w' ⟨rfl, rfl⟩)
                  | (go_at_call 144; (with_reducible refine (PM.out _).mono ?_); rintro e w1 ⟨rfl, hb⟩; have B := Lib.hid (HB0.out.trans (hb.mono HB0.out.size)); obtain ⟨c0, c1, c2, c3, c4, c5, c6⟩ := (HX.out.bel hb).cells; clear hb)
                  | (go_at_call 170; (with_reducible refine (Q1.out _).mono ?_); rintro e w' ⟨rfl, rfl⟩)
                  | (go_at_call 170; (with_reducible refine (Q2.out _).mono ?_); rintro e w' ⟨rfl, rfl⟩)
                  | (go_at_call 170; (with_reducible refine (Q3.out _).mono ?_); rintro e w' ⟨rfl, rfl⟩))
                go_ret
                exact ⟨rfl, B.out⟩
            · rw [decide_eq_false k5] at q2
              rw [decide_eq_false (show ¬ MayP h from by unfold MayP; omega)]
              clear k0 k1 k2 k3 k4 k5
              have PE := Lib.hid pe
              have PM := Lib.hid pm
              have Q1 := Lib.hid q1
              have Q2 := Lib.hid q2
              have Q3 := Lib.hid q3
              clear pe pm q1 q2 q3
              go_enter Tryz.func90, Tryz.ntmps90
              go_wp2_with (first
                | (go_at_call 142; (with_reducible refine (PE.out _).mono ?_); rintro e w' ⟨rfl, rfl⟩)
                | (go_at_call 144; (with_reducible refine (PM.out _).mono ?_); rintro e w1 ⟨rfl, hb⟩; have B := Lib.hid (HB0.out.trans (hb.mono HB0.out.size)); obtain ⟨c0, c1, c2, c3, c4, c5, c6⟩ := (HX.out.bel hb).cells; clear hb)
                | (go_at_call 170; (with_reducible refine (Q1.out _).mono ?_); rintro e w' ⟨rfl, rfl⟩)
                | (go_at_call 170; (with_reducible refine (Q2.out _).mono ?_); rintro e w' ⟨rfl, rfl⟩)
                | (go_at_call 170; (with_reducible refine (Q3.out _).mono ?_); rintro e w' ⟨rfl, rfl⟩))
              go_ret
              exact ⟨rfl, B.out⟩
          · rw [decide_eq_false k4] at q1
            rw [decide_eq_false (show ¬ MayP h from by unfold MayP; omega)]
            clear k0 k1 k2 k3 k4
            have PE := Lib.hid pe
            have PM := Lib.hid pm
            have Q1 := Lib.hid q1
            have Q2 := Lib.hid q2
            have Q3 := Lib.hid q3
            clear pe pm q1 q2 q3
            go_enter Tryz.func90, Tryz.ntmps90
            go_wp2_with (first
              | (go_at_call 142; (with_reducible refine (PE.out _).mono ?_); rintro e w' ⟨rfl, rfl⟩)
              | (go_at_call 144; (with_reducible refine (PM.out _).mono ?_); rintro e w1 ⟨rfl, hb⟩; have B := Lib.hid (HB0.out.trans (hb.mono HB0.out.size)); obtain ⟨c0, c1, c2, c3, c4, c5, c6⟩ := (HX.out.bel hb).cells; clear hb)
              | (go_at_call 170; (with_reducible refine (Q1.out _).mono ?_); rintro e w' ⟨rfl, rfl⟩)
              | (go_at_call 170; (with_reducible refine (Q2.out _).mono ?_); rintro e w' ⟨rfl, rfl⟩)
              | (go_at_call 170; (with_reducible refine (Q3.out _).mono ?_); rintro e w' ⟨rfl, rfl⟩))
            go_ret
            exact ⟨rfl, B.out⟩
        · rw [decide_eq_false k3] at pm
          rw [decide_eq_false (show ¬ MayP h from by unfold MayP; omega)]
          clear k0 k1 k2 k3
          have PE := Lib.hid pe
          have PM := Lib.hid pm
          have Q1 := Lib.hid q1
          have Q2 := Lib.hid q2
          have Q3 := Lib.hid q3
          clear pe pm q1 q2 q3
          go_enter Tryz.func90, Tryz.ntmps90
          go_wp2_with (first
            | (go_at_call 142; (with_reducible refine (PE.out _).mono ?_); rintro e w' ⟨rfl, rfl⟩)
            | (go_at_call 144; (with_reducible refine (PM.out _).mono ?_); rintro e w1 ⟨rfl, hb⟩; have B := Lib.hid (HB0.out.trans (hb.mono HB0.out.size)); obtain ⟨c0, c1, c2, c3, c4, c5, c6⟩ := (HX.out.bel hb).cells; clear hb)
            | (go_at_call 170; (with_reducible refine (Q1.out _).mono ?_); rintro e w' ⟨rfl, rfl⟩)
            | (go_at_call 170; (with_reducible refine (Q2.out _).mono ?_); rintro e w' ⟨rfl, rfl⟩)
            | (go_at_call 170; (with_reducible refine (Q3.out _).mono ?_); rintro e w' ⟨rfl, rfl⟩))
          go_ret
          exact ⟨rfl, B.out⟩
      · have f2 : decide (h.gl ≤ 1024) = false := decide_eq_false k2
        rw [decide_eq_false (show ¬ MayP h from by unfold MayP; omega)]
        clear k0 k1 k2
        have PE := Lib.hid pe
        have PM := Lib.hid pm
        have Q1 := Lib.hid q1
        have Q2 := Lib.hid q2
        have Q3 := Lib.hid q3
        clear pe pm q1 q2 q3
        go_enter Tryz.func90, Tryz.ntmps90
        go_wp2_with (first
          | (go_at_call 142; (with_reducible refine (PE.out _).mono ?_); rintro e w' ⟨rfl, rfl⟩)
          | (go_at_call 144; (with_reducible refine (PM.out _).mono ?_); rintro e w1 ⟨rfl, hb⟩; have B := Lib.hid (HB0.out.trans (hb.mono HB0.out.size)); obtain ⟨c0, c1, c2, c3, c4, c5, c6⟩ := (HX.out.bel hb).cells; clear hb)
          | (go_at_call 170; (with_reducible refine (Q1.out _).mono ?_); rintro e w' ⟨rfl, rfl⟩)
          | (go_at_call 170; (with_reducible refine (Q2.out _).mono ?_); rintro e w' ⟨rfl, rfl⟩)
          | (go_at_call 170; (with_reducible refine (Q3.out _).mono ?_); rintro e w' ⟨rfl, rfl⟩))
        go_ret
        exact ⟨rfl, HB0.out⟩
    · have f1 : decide (1 ≤ h.gl) = false := decide_eq_false k1
      rw [decide_eq_false (show ¬ MayP h from by unfold MayP; omega)]
      clear k0 k1
      have PE := Lib.hid pe
      have PM := Lib.hid pm
      have Q1 := Lib.hid q1
      have Q2 := Lib.hid q2
      have Q3 := Lib.hid q3
      clear pe pm q1 q2 q3
      go_enter Tryz.func90, Tryz.ntmps90
      go_wp2_with (first
        | (go_at_call 142; (with_reducible refine (PE.out _).mono ?_); rintro e w' ⟨rfl, rfl⟩)
        | (go_at_call 144; (with_reducible refine (PM.out _).mono ?_); rintro e w1 ⟨rfl, hb⟩; have B := Lib.hid (HB0.out.trans (hb.mono HB0.out.size)); obtain ⟨c0, c1, c2, c3, c4, c5, c6⟩ := (HX.out.bel hb).cells; clear hb)
        | (go_at_call 170; (with_reducible refine (Q1.out _).mono ?_); rintro e w' ⟨rfl, rfl⟩)
        | (go_at_call 170; (with_reducible refine (Q2.out _).mono ?_); rintro e w' ⟨rfl, rfl⟩)
        | (go_at_call 170; (with_reducible refine (Q3.out _).mono ?_); rintro e w' ⟨rfl, rfl⟩))
      go_ret
      exact ⟨rfl, HB0.out⟩
  · rw [decide_eq_false k0] at pe
    rw [decide_eq_false (show ¬ MayP h from by unfold MayP; omega)]
    clear k0
    have PE := Lib.hid pe
    have PM := Lib.hid pm
    have Q1 := Lib.hid q1
    have Q2 := Lib.hid q2
    have Q3 := Lib.hid q3
    clear pe pm q1 q2 q3
    go_enter Tryz.func90, Tryz.ntmps90
    go_wp2_with (first
      | (go_at_call 142; (with_reducible refine (PE.out _).mono ?_); rintro e w' ⟨rfl, rfl⟩)
      | (go_at_call 144; (with_reducible refine (PM.out _).mono ?_); rintro e w1 ⟨rfl, hb⟩; have B := Lib.hid (HB0.out.trans (hb.mono HB0.out.size)); obtain ⟨c0, c1, c2, c3, c4, c5, c6⟩ := (HX.out.bel hb).cells; clear hb)
      | (go_at_call 170; (with_reducible refine (Q1.out _).mono ?_); rintro e w' ⟨rfl, rfl⟩)
      | (go_at_call 170; (with_reducible refine (Q2.out _).mono ?_); rintro e w' ⟨rfl, rfl⟩)
      | (go_at_call 170; (with_reducible refine (Q3.out _).mono ?_); rintro e w' ⟨rfl, rfl⟩))
    go_ret
    exact ⟨rfl, HB0.out⟩
end N10
end Go.Proofs.YtfhaloclbbmbeaaGreat
namespace Go.Proofs.YtfhaloclbbmbeaaGreat
open Go.RowKit
def w16 (n : Int) : Nat := (n % 65536).toNat
theorem w16_lt (n : Int) : w16 n < 65536 := by unfold w16; omega
theorem wrap_w16 (n : Int) : IntKind.u16.wrap n = (w16 n : Int) := by rw [IntKind.wrap_u16]; unfold w16; omega
def zs (k : Nat) : List UInt8 := List.replicate k 0
theorem zs_len (k : Nat) : (zs k).length = k := List.length_replicate
theorem rep_zs : ∀ k : Fin 31, Lib.repeatL [(0 : UInt8)] k.val = zs k.val := by decide +kernel
theorem zeros_any (i : Int) (k : Nat) (hi : i = (k : Int)) (w : World) (hk : k < 31) : Calls Tryz.prog 92 #[.int .i64 i] w fun e w' => e = .returned (.string ⟨(zs k).toArray⟩) ∧ Below w.heap.size w w' := by
  subst hi
  have hrp := fun W => Tryz.strings_Repeat ⟨#[0]⟩ k W (by omega) (by show 1 * _ ≤ _; omega)
  have e0 : Lib.repeatL (⟨#[0]⟩ : ByteArray).data.toList k = zs k := rep_zs ⟨k, hk⟩
  rw [e0] at hrp
  obtain ⟨Z, hZ⟩ : ∃ X : ByteArray, X = ⟨(zs k).toArray⟩ := ⟨_, rfl⟩
  rw [← hZ] at hrp ⊢
  have HR := Lib.hid hrp
  clear hrp hZ hk e0
  go_enter Tryz.func92, Tryz.ntmps92
  go_wp2_with (go_at_call 113; (with_reducible refine (HR.out _).mono ?_); rintro e w1 ⟨rfl, hb⟩; have B := Lib.hid hb; clear hb)
  go_ret
  exact ⟨rfl, B.out⟩
theorem sh_any (n : Int) (w : World) : Calls Tryz.prog 93 #[.int .i64 n] w fun e w' => e = .returned (.string ⟨(byt 2 (w16 n)).toArray⟩) ∧ Below w.heap.size w w' := by
  have hp := fun W => p16_any (w16 n) W (w16_lt n)
  have hw := wrap_w16 n
  obtain ⟨m, hm⟩ : ∃ m, m = w16 n := ⟨_, rfl⟩
  rw [← hm] at hp hw ⊢
  obtain ⟨Z, hZ⟩ : ∃ X : ByteArray, X = ⟨(byt 2 m).toArray⟩ := ⟨_, rfl⟩
  rw [← hZ] at hp ⊢
  have HR := Lib.hid hp
  clear hp hZ hm
  go_enter Tryz.func93, Tryz.ntmps93
  go_wp2_with (go_at_call 102; (with_reducible refine (HR.out _).mono ?_); rintro e w1 ⟨rfl, hb⟩; have B := Lib.hid hb; clear hb)
  go_ret
  exact ⟨rfl, B.out⟩
end Go.Proofs.YtfhaloclbbmbeaaGreat
namespace Go.Proofs.YtfhaloclbbmbeaaGreat
open Go.RowKit
def lgN (b : Bool) : Nat := if b then 1 else 0
def dHead (h : Hd) : List UInt8 := byt 4 65536 ++ zs 8 ++ byt 4 1594834165 ++ zs 2 ++ byt 2 (w16 h.em) ++ zs 30 ++ byt 2 (lgN h.lg) ++ zs 2
def dHhea (h : Hd) : List UInt8 := byt 4 65536 ++ byt 2 (w16 h.a1) ++ byt 2 (w16 h.a2) ++ byt 2 (w16 h.a3) ++ zs 24 ++ byt 2 (w16 h.me)
def dMaxp (h : Hd) : List UInt8 := byt 4 65536 ++ byt 2 (w16 h.gl) ++ zs 26
def mkL (h : Hd) : List (List UInt8 × List UInt8) := [(tHead, dHead h), (tHhea, dHhea h), (tMaxp, dMaxp h)]
structure MS (w W : World) (b : Nat) (h : Hd) : Prop where
  bel : Below w.heap.size w W
  box : HB W b h
theorem MS.next {w W W' : World} {b : Nat} {h : Hd} (s : MS w W b h) (hb : Below W.heap.size W W') : MS w W' b h := ⟨s.bel.trans (hb.mono s.bel.size), s.box.bel hb⟩
theorem MS.drew {w W : World} {b : Nat} {h : Hd} (s : MS w W b h) : MS w W.drew b h := ⟨below_drewN s.bel 1, s.box⟩
theorem MS.cells {w W : World} {b : Nat} {h : Hd} (s : MS w W b h) : W.cell? ⟨b, 0, none⟩ = some (.int .i64 h.em) ∧ W.cell? ⟨b, 1, none⟩ = some (.bool h.lg) ∧ W.cell? ⟨b, 2, none⟩ = some (.int .i64 h.gl) ∧ W.cell? ⟨b, 3, none⟩ = some (.int .i64 h.me) ∧ W.cell? ⟨b, 4, none⟩ = some (.int .i64 h.a1) ∧ W.cell? ⟨b, 5, none⟩ = some (.int .i64 h.a2) ∧ W.cell? ⟨b, 6, none⟩ = some (.int .i64 h.a3) := s.box.cells
theorem MS.six {w W : World} {b : Nat} {h : Hd} (s : MS w W b h) : W.cell? ⟨b, 0, none⟩ = some (.int .i64 h.em) ∧ W.cell? ⟨b, 2, none⟩ = some (.int .i64 h.gl) ∧ W.cell? ⟨b, 3, none⟩ = some (.int .i64 h.me) ∧ W.cell? ⟨b, 4, none⟩ = some (.int .i64 h.a1) ∧ W.cell? ⟨b, 5, none⟩ = some (.int .i64 h.a2) ∧ W.cell? ⟨b, 6, none⟩ = some (.int .i64 h.a3) :=
  have ⟨a0, _, a2, a3, a4, a5, a6⟩ := s.cells
  ⟨a0, a2, a3, a4, a5, a6⟩
end Go.Proofs.YtfhaloclbbmbeaaGreat
namespace Go.Proofs.YtfhaloclbbmbeaaGreat
open Go.RowKit
theorem lg_cases (b : Bool) : (b = true ∧ (lgN b : Int) = 1) ∨ (b = false ∧ (lgN b : Int) = 0) := by cases b <;> simp [lgN]
end Go.Proofs.YtfhaloclbbmbeaaGreat
namespace Go.Proofs.YtfhaloclbbmbeaaGreat
open Go.RowKit
theorem n4_lt (l : List UInt8) (a : Nat) : n4 l a < 4294967296 := bv_le _ 4 (piece_len_le l a 4)
end Go.Proofs.YtfhaloclbbmbeaaGreat
namespace Go.Proofs.YtfhaloclbbmbeaaGreat
open Go.RowKit
namespace N11
set_option maxHeartbeats 4000000 in
theorem may_any (h : Hd) (w : World) : Calls Tryz.prog 90 #[.agg #[.int .i64 h.em, .bool h.lg, .int .i64 h.gl, .int .i64 h.me, .int .i64 h.a1, .int .i64 h.a2, .int .i64 h.a3]] w fun e w' => e = .returned (.bool (decide (MayP h))) ∧ Below w.heap.size w w' := by
  have HB0 := Lib.hid (show Below w.heap.size w (w.alloc (.cells #[.int .i64 h.em, .bool h.lg, .int .i64 h.gl, .int .i64 h.me, .int .i64 h.a1, .int .i64 h.a2, .int .i64 h.a3] 39)) from (Below.refl _ _).alloc (Nat.le_refl _) _)
  have HX := Lib.hid (show HB (w.alloc (.cells #[.int .i64 h.em, .bool h.lg, .int .i64 h.gl, .int .i64 h.me, .int .i64 h.a1, .int .i64 h.a2, .int .i64 h.a3] 39)) w.heap.size h from heap_alloc_new w _)
  have pe := fun W => mayEm_any h.em W
  have pm := fun W => mayMet_any h.em h.lg h.gl h.me h.a1 h.a2 h.a3 W
  have q1 := fun W => signed_any h.a1 W
  have q2 := fun W => signed_any h.a2 W
  have q3 := fun W => signed_any h.a3 W
  by_cases k0 : 16 ≤ h.em ∧ h.em ≤ 16384
  · rw [decide_eq_true k0] at pe
    by_cases k1 : 1 ≤ h.gl
    · have f1 : decide (1 ≤ h.gl) = true := decide_eq_true k1
      by_cases k2 : h.gl ≤ 1024
      · have f2 : decide (h.gl ≤ 1024) = true := decide_eq_true k2
        by_cases k3 : 1 ≤ h.me ∧ h.me ≤ h.gl
        · rw [decide_eq_true k3] at pm
          by_cases k4 : -32768 ≤ h.a1 ∧ h.a1 ≤ 32767
          · rw [decide_eq_true k4] at q1
            by_cases k5 : -32768 ≤ h.a2 ∧ h.a2 ≤ 32767
            · rw [decide_eq_true k5] at q2
              by_cases k6 : -32768 ≤ h.a3 ∧ h.a3 ≤ 32767
              · rw [decide_eq_true k6] at q3
                rw [decide_eq_true (show MayP h from by unfold MayP; omega)]
                clear k0 k1 k2 k3 k4 k5 k6
                have PE := Lib.hid pe
                have PM := Lib.hid pm
                have Q1 := Lib.hid q1
                have Q2 := Lib.hid q2
                have Q3 := Lib.hid q3
                clear pe pm q1 q2 q3
                go_enter Tryz.func90, Tryz.ntmps90
                go_wp2_with (first
                  | (go_at_call 142; (with_reducible refine (PE.out _).mono ?_); rintro e w' ⟨rfl, rfl⟩)
                  | (go_at_call 144; (with_reducible refine (PM.out _).mono ?_); rintro e w1 ⟨rfl, hb⟩; have B := Lib.hid (HB0.out.trans (hb.mono HB0.out.size)); obtain ⟨c0, c1, c2, c3, c4, c5, c6⟩ := (HX.out.bel hb).cells; clear hb)
                  | (go_at_call 170; (with_reducible refine (Q1.out _).mono ?_); rintro e w' ⟨rfl, rfl⟩)
                  | (go_at_call 170; (with_reducible refine (Q2.out _).mono ?_); rintro e w' ⟨rfl, rfl⟩)
                  | (go_at_call 170; (with_reducible refine (Q3.out _).mono ?_); rintro e w' ⟨rfl, rfl⟩))
                go_ret
                exact ⟨rfl, B.out⟩
              · rw [decide_eq_false k6] at q3
                rw [decide_eq_false (show ¬ MayP h from by unfold MayP; omega)]
                clear k0 k1 k2 k3 k4 k5 k6
                have PE := Lib.hid pe
                have PM := Lib.hid pm
                have Q1 := Lib.hid q1
                have Q2 := Lib.hid q2
                have Q3 := Lib.hid q3
                clear pe pm q1 q2 q3
                go_enter Tryz.func90, Tryz.ntmps90
                go_wp2_with (first
                  | (go_at_call 142; (with_reducible refine (PE.out _).mono ?_); rintro e w' ⟨rfl, rfl⟩)
                  | (go_at_call 144; (with_reducible refine (PM.out _).mono ?_); rintro e w1 ⟨rfl, hb⟩; have B := Lib.hid (HB0.out.trans (hb.mono HB0.out.size)); obtain ⟨c0, c1, c2, c3, c4, c5, c6⟩ := (HX.out.bel hb).cells; clear hb)
                  | (go_at_call 170; (with_reducible refine (Q1.out _).mono ?_); rintro e w' ⟨rfl, rfl⟩)
                  | (go_at_call 170; (with_reducible refine (Q2.out _).mono ?_); rintro e w' ⟨rfl, rfl⟩)
                  | (go_at_call 170; (with_reducible refine (Q3.out _).mono ?_); rintro e w' ⟨rfl, rfl⟩))
                go_ret
                exact ⟨rfl, B.out⟩
            · rw [decide_eq_false k5] at q2
              rw [decide_eq_false (show ¬ MayP h from by unfold MayP; omega)]
              clear k0 k1 k2 k3 k4 k5
              have PE := Lib.hid pe
              have PM := Lib.hid pm
              have Q1 := Lib.hid q1
              have Q2 := Lib.hid q2
              have Q3 := Lib.hid q3
              clear pe pm q1 q2 q3
              go_enter Tryz.func90, Tryz.ntmps90
              go_wp2_with (first
                | (go_at_call 142; (with_reducible refine (PE.out _).mono ?_); rintro e w' ⟨rfl, rfl⟩)
                | (go_at_call 144; (with_reducible refine (PM.out _).mono ?_); rintro e w1 ⟨rfl, hb⟩; have B := Lib.hid (HB0.out.trans (hb.mono HB0.out.size)); obtain ⟨c0, c1, c2, c3, c4, c5, c6⟩ := (HX.out.bel hb).cells; clear hb)
                | (go_at_call 170; (with_reducible refine (Q1.out _).mono ?_); rintro e w' ⟨rfl, rfl⟩)
                | (go_at_call 170; (with_reducible refine (Q2.out _).mono ?_); rintro e w' ⟨rfl, rfl⟩)
                | (go_at_call 170; (with_reducible refine (Q3.out _).mono ?_); rintro e w' ⟨rfl, rfl⟩))
              go_ret
              exact ⟨rfl, B.out⟩
          · rw [decide_eq_false k4] at q1
            rw [decide_eq_false (show ¬ MayP h from by unfold MayP; omega)]
            clear k0 k1 k2 k3 k4
            have PE := Lib.hid pe
            have PM := Lib.hid pm
            have Q1 := Lib.hid q1
            have Q2 := Lib.hid q2
            have Q3 := Lib.hid q3
            clear pe pm q1 q2 q3
            go_enter Tryz.func90, Tryz.ntmps90
            go_wp2_with (first
              | (go_at_call 142; (with_reducible refine (PE.out _).mono ?_); rintro e w' ⟨rfl, rfl⟩)
              | (go_at_call 144; (with_reducible refine (PM.out _).mono ?_); rintro e w1 ⟨rfl, hb⟩; have B := Lib.hid (HB0.out.trans (hb.mono HB0.out.size)); obtain ⟨c0, c1, c2, c3, c4, c5, c6⟩ := (HX.out.bel hb).cells; clear hb)
              | (go_at_call 170; (with_reducible refine (Q1.out _).mono ?_); rintro e w' ⟨rfl, rfl⟩)
              | (go_at_call 170; (with_reducible refine (Q2.out _).mono ?_); rintro e w' ⟨rfl, rfl⟩)
              | (go_at_call 170; (with_reducible refine (Q3.out _).mono ?_); rintro e w' ⟨rfl, rfl⟩))
            go_ret
            exact ⟨rfl, B.out⟩
        · rw [decide_eq_false k3] at pm
          rw [decide_eq_false (show ¬ MayP h from by unfold MayP; omega)]
          clear k0 k1 k2 k3
          have PE := Lib.hid pe
          have PM := Lib.hid pm
          have Q1 := Lib.hid q1
          have Q2 := Lib.hid q2
          have Q3 := Lib.hid q3
          clear pe pm q1 q2 q3
          go_enter Tryz.func90, Tryz.ntmps90
          go_wp2_with (first
            | (go_at_call 142; (with_reducible refine (PE.out _).mono ?_); rintro e w' ⟨rfl, rfl⟩)
            | (go_at_call 144; (with_reducible refine (PM.out _).mono ?_); rintro e w1 ⟨rfl, hb⟩; have B := Lib.hid (HB0.out.trans (hb.mono HB0.out.size)); obtain ⟨c0, c1, c2, c3, c4, c5, c6⟩ := (HX.out.bel hb).cells; clear hb)
            | (go_at_call 170; (with_reducible refine (Q1.out _).mono ?_); rintro e w' ⟨rfl, rfl⟩)
            | (go_at_call 170; (with_reducible refine (Q2.out _).mono ?_); rintro e w' ⟨rfl, rfl⟩)
            | (go_at_call 170; (with_reducible refine (Q3.out _).mono ?_); rintro e w' ⟨rfl, rfl⟩))
          go_ret
          exact ⟨rfl, B.out⟩
      · have f2 : decide (h.gl ≤ 1024) = false := decide_eq_false k2
        rw [decide_eq_false (show ¬ MayP h from by unfold MayP; omega)]
        clear k0 k1 k2
        have PE := Lib.hid pe
        have PM := Lib.hid pm
        have Q1 := Lib.hid q1
        have Q2 := Lib.hid q2
        have Q3 := Lib.hid q3
        clear pe pm q1 q2 q3
        go_enter Tryz.func90, Tryz.ntmps90
        go_wp2_with (first
          | (go_at_call 142; (with_reducible refine (PE.out _).mono ?_); rintro e w' ⟨rfl, rfl⟩)
          | (go_at_call 144; (with_reducible refine (PM.out _).mono ?_); rintro e w1 ⟨rfl, hb⟩; have B := Lib.hid (HB0.out.trans (hb.mono HB0.out.size)); obtain ⟨c0, c1, c2, c3, c4, c5, c6⟩ := (HX.out.bel hb).cells; clear hb)
          | (go_at_call 170; (with_reducible refine (Q1.out _).mono ?_); rintro e w' ⟨rfl, rfl⟩)
          | (go_at_call 170; (with_reducible refine (Q2.out _).mono ?_); rintro e w' ⟨rfl, rfl⟩)
          | (go_at_call 170; (with_reducible refine (Q3.out _).mono ?_); rintro e w' ⟨rfl, rfl⟩))
        go_ret
        exact ⟨rfl, HB0.out⟩
    · have f1 : decide (1 ≤ h.gl) = false := decide_eq_false k1
      rw [decide_eq_false (show ¬ MayP h from by unfold MayP; omega)]
      clear k0 k1
      have PE := Lib.hid pe
      have PM := Lib.hid pm
      have Q1 := Lib.hid q1
      have Q2 := Lib.hid q2
      have Q3 := Lib.hid q3
      clear pe pm q1 q2 q3
      go_enter Tryz.func90, Tryz.ntmps90
      go_wp2_with (first
        | (go_at_call 142; (with_reducible refine (PE.out _).mono ?_); rintro e w' ⟨rfl, rfl⟩)
        | (go_at_call 144; (with_reducible refine (PM.out _).mono ?_); rintro e w1 ⟨rfl, hb⟩; have B := Lib.hid (HB0.out.trans (hb.mono HB0.out.size)); obtain ⟨c0, c1, c2, c3, c4, c5, c6⟩ := (HX.out.bel hb).cells; clear hb)
        | (go_at_call 170; (with_reducible refine (Q1.out _).mono ?_); rintro e w' ⟨rfl, rfl⟩)
        | (go_at_call 170; (with_reducible refine (Q2.out _).mono ?_); rintro e w' ⟨rfl, rfl⟩)
        | (go_at_call 170; (with_reducible refine (Q3.out _).mono ?_); rintro e w' ⟨rfl, rfl⟩))
      go_ret
      exact ⟨rfl, HB0.out⟩
  · rw [decide_eq_false k0] at pe
    rw [decide_eq_false (show ¬ MayP h from by unfold MayP; omega)]
    clear k0
    have PE := Lib.hid pe
    have PM := Lib.hid pm
    have Q1 := Lib.hid q1
    have Q2 := Lib.hid q2
    have Q3 := Lib.hid q3
    clear pe pm q1 q2 q3
    go_enter Tryz.func90, Tryz.ntmps90
    go_wp2_with (first
      | (go_at_call 142; (with_reducible refine (PE.out _).mono ?_); rintro e w' ⟨rfl, rfl⟩)
      | (go_at_call 144; (with_reducible refine (PM.out _).mono ?_); rintro e w1 ⟨rfl, hb⟩; have B := Lib.hid (HB0.out.trans (hb.mono HB0.out.size)); obtain ⟨c0, c1, c2, c3, c4, c5, c6⟩ := (HX.out.bel hb).cells; clear hb)
      | (go_at_call 170; (with_reducible refine (Q1.out _).mono ?_); rintro e w' ⟨rfl, rfl⟩)
      | (go_at_call 170; (with_reducible refine (Q2.out _).mono ?_); rintro e w' ⟨rfl, rfl⟩)
      | (go_at_call 170; (with_reducible refine (Q3.out _).mono ?_); rintro e w' ⟨rfl, rfl⟩))
    go_ret
    exact ⟨rfl, HB0.out⟩
end N11
end Go.Proofs.YtfhaloclbbmbeaaGreat
