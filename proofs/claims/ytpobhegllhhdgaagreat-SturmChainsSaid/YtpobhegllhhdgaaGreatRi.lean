/- Proved here: what the document's Same and May, and the law's Small answer. Condition: polynomials that lie in memory. -/
import Derived.Test.YtpobhegllhhdgaaGreatRh
import Derived.Test.YtpobhegllhhdgaaGreatQk
namespace Go.Proofs.YtpobhegllhhdgaaGreat
open Go.RowKit

theorem El.bigc {w : World} {Z : Value} {z : Int} {l : Nat} (h : El .c w Z z l) : BigC w Z z l := h
set_option maxRecDepth 100000 in
set_option maxHeartbeats 1000000 in
theorem same5_any (A B : Option Addr) (m c c2 : Nat) (L : List Int) (l k : Nat) (w : World) (h : Pol .c w (.slice A m c) L l) (h' : Pol .n w (.slice B m c2) L k) (hm : m ≤ 1000) (hl : l ≤ 1000000) (hk : k ≤ 200000) :
    Calls Tryz.prog 11 #[.slice A m c, .slice B m c2] w fun e w' => e = .returned (.bool true) ∧ Below w.heap.size w w' := by
  have H := Lib.hid h
  have H' := Lib.hid h'
  have HM := Lib.hid h.cap.1
  clear h h'
  go_enter Tryz.func11, Tryz.ntmps11
  go_wp2_with fail
  go_loopw [5] (fun i wr => ∃ j : Nat, i = .int .i64 (j : Int) ∧ j ≤ m ∧ Below w.heap.size w wr) (fun i _ => m - (intOf i).toNat)
  case atStart => exact ⟨0, rfl, Nat.zero_le _, Below.refl _ _⟩
  case round =>
    obtain ⟨j, rfl, hj, hb⟩ := hrel
    by_cases hgo : j < m
    · obtain ⟨ad, na, Ba, pa, qa, rfl, had, hga⟩ := H.out.at_ j (by rw [← HM.out]; exact hgo)
      obtain ⟨bd, nb, Bb, pb, qb, rfl, hbd, hgb⟩ := H'.out.at_ j (by rw [← HM.out]; exact hgo)
      have HG := Lib.hid hga
      have HG' := Lib.hid hgb
      obtain ⟨⟨f0, f1⟩, _⟩ := hga _ hb
      obtain ⟨⟨g0, g1⟩, _⟩ := hgb _ hb
      have HB := Lib.hid hb
      have hji : (j : Int) < (m : Int) := by omega
      have hj0 : (0 : Int) ≤ (j : Int) := by omega
      clear hga hgb hb
      go_wp2_with fail
      go_region_held3 (fun w' => w'.cell? (ad.add (j * 2)) = some (.bool na) ∧ w'.cell? { block := (ad.add (j * 2)).block, off := (ad.add (j * 2)).off + 1 } = some (.slice Ba pa qa) ∧ w'.cell? (bd.add (j * 2)) = some (.bool nb) ∧ w'.cell? { block := (bd.add (j * 2)).block, off := (bd.add (j * 2)).off + 1 } = some (.slice Bb pb qb))
        (exact ⟨f0, f1, g0, g1⟩)
        (first
        | (go_at_call 38; (with_reducible refine (to_any (.agg #[.bool nb, .slice Bb pb qb]) (co L j) k _ ((HG'.out _ HB.out).2.drew.num_) (by omega)).mono ?_); rintro e w2 he; obtain ⟨n2, B2, p2, q2, rfl, he1, hb⟩ := he.open1; have HE2 := Lib.hid he1; have HB := Lib.hid (bel_tr HB.out ((Below.refl _ wr).drew.trans hb)); clear he he1 hb f0 f1 g0 g1; obtain ⟨f0, f1⟩ := (HG.out _ HB.out).1; obtain ⟨g0, g1⟩ := (HG'.out _ HB.out).1)
        | (go_at_call 37; (with_reducible refine (same_any (.agg #[.bool na, .slice Ba pa qa]) (.agg #[.bool n2, .slice B2 p2 q2]) (co L j) l ((k + 1) / 2) _ (El.bigc (HG.out _ HB.out).2) (El.bigc HE2.out) (by omega)).mono ?_); rintro e w3 ⟨rfl, hb⟩; have HB := Lib.hid (bel_tr HB.out hb); clear hb f0 f1 g0 g1; obtain ⟨f0, f1⟩ := (HG.out _ HB.out).1; obtain ⟨g0, g1⟩ := (HG'.out _ HB.out).1))
      all_goals
        go_wp2_with fail
        exact ⟨⟨j + 1, by simp, by omega, HB.out⟩, by simp [intOf]; omega⟩
    · obtain rfl : j = m := by omega
      have HB := Lib.hid hb
      clear hb
      go_wp2_with fail
      go_ret
      exact ⟨rfl, HB.out⟩
set_option maxRecDepth 100000 in
theorem may5_any (n d : Int) (w : World) (hn : Fit n) (hd : Fit d) : Calls Tryz.prog 13 #[.agg #[.int .i64 n, .int .i64 d]] w fun e w' => e = .returned (.bool (decide (Maybe n d))) ∧ Below w.heap.size w w' := by
  have HM := Lib.hid (fun W => may_any n d W hn hd)
  have HB := Lib.hid (show Rt (w.alloc (.cells #[.int .i64 n, .int .i64 d] 24)) w.heap.size n d ∧ Below w.heap.size w (w.alloc (.cells #[.int .i64 n, .int .i64 d] 24)) from ⟨Rt.new w n d, bel_a _ _⟩)
  obtain ⟨f0, f1⟩ := rt_facts HB.out.1
  obtain ⟨b, hb⟩ : ∃ b, b = decide (Maybe n d) := ⟨_, rfl⟩
  rw [← hb] at HM ⊢
  clear hn hd hb
  go_enter Tryz.func13, Tryz.ntmps13
  go_wp2_with (go_at_call 42; (with_reducible refine (HM.out _).mono ?_); rintro e w1 ⟨rfl, hb⟩; have HB := Lib.hid (bel_tr HB.out.2 hb); clear hb)
  go_ret
  exact ⟨rfl, HB.out⟩
/-- The number at t has at most 10 digits. -/
def Sm (w : World) (A : Option Addr) (t : Nat) : Prop := ∀ ad B p q, A = some ad → w.cell? (ad.add (t * 2 + 1)) = some (.slice B p q) → p ≤ 10
theorem Pol.small {w : World} {A : Option Addr} {m c : Nat} {L : List Int} {l : Nat} (h : Pol .a w (.slice A m c) L l) (hs : ∀ t, t < m → Sm w A t) : Pol .a w (.slice A m c) L 10 := by
  have hm := h.cap.1
  obtain ⟨A', c', h1, h2, h3, h4, h5⟩ := h
  refine ⟨A', c', h1, h2, h3, h4, fun ad ha => ⟨(h5 ad ha).1, fun i hi => ?_⟩⟩
  injection h1 with e1 e2 e3
  obtain ⟨n, B, p, q, f1, f2, f3⟩ := (h5 ad ha).2 i hi
  refine ⟨n, B, p, q, f1, f2, ?_⟩
  have hp := hs i (by omega) ad B p q (e1.trans ha) f2
  obtain ⟨b, v, xs, g1, g2, g3, g4, g5⟩ := f3
  refine ⟨b, v, xs, g1, g2, g3, ?_, g5⟩
  obtain ⟨A2, c2, k1, _⟩ := g2
  injection g1 with g1
  simp at g1
  have k4 := g1.2.trans k1
  injection k4 with k1 k2 k3
  omega
end Go.Proofs.YtpobhegllhhdgaaGreat
