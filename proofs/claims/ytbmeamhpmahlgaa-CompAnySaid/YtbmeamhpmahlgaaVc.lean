/- Proved here: what Make answers. Condition: parts that lie in memory, at most 100000 of them. -/
import Derived.Test.YtbmeamhpmahlgaaVb
namespace Go.Proofs.Ytbmeamhpmahlgaa
open Go.RowKit

set_option maxHeartbeats 4000000 in
set_option maxRecDepth 100000 in
theorem make_any (A : Option Addr) (m c : Nat) (L : List Prt) (w : World) (hP : Prl w A m L) (hm : m ≤ 100000) :
    Calls Try.prog 7 #[.slice A m c] w fun e w' => e = .returned (.tuple #[.string ⟨(mkB L).toArray⟩, .int .i64 (mkE L)]) ∧ Below w.heap.size w w' := by
  have hlen := hP.len
  have CM := Lib.hid (may_any A m c L 1024 w hP hm)
  by_cases hM : MayL L 1024
  · rw [decide_eq_true hM] at CM
    have h64 : m ≤ 64 := by have := hM.2.1.2; omega
    have CT := Lib.hid (fun W (hb : Below w.heap.size w W) => tellParts_any A m c L W (hP.bel hb) h64)
    have hll := pkE_len L m
    obtain ⟨D0, hD0⟩ : ∃ D : ByteArray, D = ⟨hdE.toArray⟩ := ⟨_, rfl⟩
    obtain ⟨D1, hD1⟩ : ∃ D : ByteArray, D = ⟨(pkE L m).toArray⟩ := ⟨_, rfl⟩
    rw [← hD1] at CT
    have CH := Lib.hid (show ∀ W, Calls Try.prog 18 #[] W fun e w' => e = .returned (.string D0) ∧ Below W.heap.size W w' from fun W => by rw [hD0]; exact tellHead_any W)
    have s0 : D0.size = 10 := by rw [hD0]; rfl
    have s1 : D1.size ≤ 1024 := by rw [hD1]; show (pkE L m).toArray.size ≤ 1024; rw [List.size_toArray]; omega
    have y1 : ¬ 9223372036854775807 < D0.size + D1.size := by omega
    have tB : mkB L = hdE ++ pkE L L.length := by unfold mkB; rw [if_pos hM]
    have HR := Lib.hid (show D0 ++ D1 = ⟨(mkB L).toArray⟩ by rw [hD0, hD1, app_txt, tB, hlen])
    have tE : mkE L = 0 := by unfold mkE; rw [if_pos hM]
    rw [tE]
    clear hP hm hM h64 hlen hll hD0 hD1 s0 s1 tE tB
    go_enter Try.func7, Try.ntmps7
    go_wp2_with (first
      | (go_at_call 9; (with_reducible refine CM.out.mono ?_); rintro e w1 ⟨rfl, hb⟩; have B1 := Lib.hid hb; clear hb)
      | (go_at_call 18; (with_reducible refine (CH.out _).mono ?_); rintro e w2 ⟨rfl, hb⟩; have B1 := Lib.hid (B1.out.trans (hb.mono B1.out.size)); clear hb)
      | (go_at_call 19; (with_reducible refine (CT.out _ B1.out).mono ?_); rintro e w3 ⟨rfl, hb⟩; have B1 := Lib.hid (B1.out.trans (hb.mono B1.out.size)); clear hb))
    go_ret2
    exact ⟨by rw [← HR.out]; rfl, B1.out⟩
  · rw [decide_eq_false hM] at CM
    have tE : mkE L = 1 := by unfold mkE; rw [if_neg hM]
    have tB : mkB L = [] := by unfold mkB; rw [if_neg hM]
    rw [tE, tB]
    clear hP hm hM hlen tE tB
    go_enter Try.func7, Try.ntmps7
    go_wp2_with (go_at_call 9; (with_reducible refine CM.out.mono ?_); rintro e w1 ⟨rfl, hb⟩; have B1 := Lib.hid hb; clear hb)
    go_ret2
    exact ⟨rfl, B1.out⟩
end Go.Proofs.Ytbmeamhpmahlgaa
