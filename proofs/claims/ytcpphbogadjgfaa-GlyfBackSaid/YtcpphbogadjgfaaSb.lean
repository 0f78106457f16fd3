/- Proved here: what the document's Make answers, in all cases. Condition: at most 1000 contours that lie in memory, of at most 5000 points each. -/
import Derived.Test.YtcpphbogadjgfaaSa
namespace Go.Proofs.Ytcpphbogadjgfaa
open Go.RowKit

set_option maxHeartbeats 4000000 in
set_option maxRecDepth 100000 in
theorem rmake_any (A : Option Addr) (m c : Nat) (LL : List (List Pt)) (w : World) (hP : Ctl w A m LL) (hm : m ≤ 1000) (hl : ∀ i, i < m → (ct LL i).length ≤ 5000) :
    Calls Try.prog 9 #[.slice A m c] w fun e w' => e = .returned (.tuple #[.string ⟨(mkB LL).toArray⟩, .int .i64 (mkE LL)]) ∧ Below w.heap.size w w' := by
  have hlen := hP.len
  have CM := Lib.hid (rmay_any A m c LL w hP hm hl)
  by_cases hM : MayG LL
  · rw [decide_eq_true hM] at CM
    by_cases h0 : m = 0
    · have tE : mkE LL = 0 := by unfold mkE; rw [if_pos hM, if_pos (by omega)]
      have tB : mkB LL = [] := by unfold mkB; rw [if_neg (fun h => h.2.1 (by omega))]
      rw [tE, tB]
      subst h0
      clear hP hl hM tE tB
      go_enter Try.func9, Try.ntmps9
      go_wp2_with (go_at_call 11; (with_reducible refine CM.out.mono ?_); rintro e w1 ⟨rfl, hb⟩; have B1 := Lib.hid hb; clear hb)
      go_ret2
      exact ⟨rfl, B1.out⟩
    · exact rmake_main A m c LL w hP (by omega) hM
  · rw [decide_eq_false hM] at CM
    have tE : mkE LL = 1 := by unfold mkE; rw [if_neg hM]
    have tB : mkB LL = [] := by unfold mkB; rw [if_neg (fun h => hM h.1)]
    rw [tE, tB]
    clear hP hl hM tE tB
    go_enter Try.func9, Try.ntmps9
    go_wp2_with (go_at_call 11; (with_reducible refine CM.out.mono ?_); rintro e w1 ⟨rfl, hb⟩; have B1 := Lib.hid hb; clear hb)
    go_ret2
    exact ⟨rfl, B1.out⟩
end Go.Proofs.Ytcpphbogadjgfaa
