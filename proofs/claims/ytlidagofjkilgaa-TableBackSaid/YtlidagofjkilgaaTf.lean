/- Proved here: whether tables fit, in the program. Condition: a list that lies in memory, of bytes of at most 10^9 each. -/
import Derived.Test.YtlidagofjkilgaaTe
namespace Go.Proofs.Ytlidagofjkilgaa
open Go.RowKit

/-- Do so many tables, and bytes, fit? -/
def fitsL (L : List (List UInt8 × List UInt8)) : Bool := decide (L.length ≤ 64) && decide (szF L ≤ 1048576)
set_option maxHeartbeats 4000000 in
theorem fits_any (A : Option Addr) (m c : Nat) (L : List (List UInt8 × List UInt8)) (w : World) (h : Tl w A m L) (hm : m ≤ 1000000) (hd : ∀ i, i < m → (dt L i).length ≤ 1000000000) :
    Calls Try.prog 15 #[.slice A m c] w fun e w' => e = .returned (.bool (fitsL L)) ∧ Below w.heap.size w w' := by
  have HX := Lib.hid h
  have HD := Lib.hid hd
  have hlen := h.len
  clear h hd
  by_cases h64 : m ≤ 64
  · have g1 : decide (64 < (m : Int)) = false := decide_eq_false (by omega)
    have HF := Lib.hid (show fitsL L = decide (szF L ≤ 1048576) by unfold fitsL; rw [decide_eq_true (by omega), Bool.true_and])
    have HS := Lib.hid (show szF L = 12 + 16 * m + (body (L.take m)).length by unfold szF; rw [hlen, ← hlen, List.take_length])
    have HL := Lib.hid hlen
    have H6 := Lib.hid h64
    clear hlen h64
    go_enter Try.func15, Try.ntmps15
    go_wp2_with fail
    go_loopw [3, 15] (fun v i wr => ∃ k q : Nat, i = .int .i64 (k : Int) ∧ k ≤ m ∧ v = .int .i64 (q : Int) ∧ q + 16 * m + (body (L.take k)).length = 1048564 ∧ Below w.heap.size w wr) (fun _ i _ => m - (intOf i).toNat)
    case atStart => exact ⟨0, 1048564 - 16 * m, rfl, Nat.zero_le _, by congr 1; have := H6.out; omega, by have := H6.out; show _ + _ + 0 = _; omega, Below.refl _ _⟩
    case round =>
      obtain ⟨k, q, rfl, hk, rfl, hq, hb⟩ := hrel
      have HB := Lib.hid hb
      clear hb
      by_cases hgo : k < m
      · obtain ⟨ad, rfl, c0, c1⟩ := HX.out.at_ HB.out hgo
        have hn := HD.out k hgo
        have hnx := body_next (L := L) (i := k) (by have := HL.out; omega)
        have hble := body_le (L := L) (i := k) (by have := HL.out; omega)
        have hb4 := body_four (L.take k)
        have hup := blk_up (dt L k)
        have hbl := blk_len (dt L k)
        obtain ⟨X, hX⟩ : ∃ X : ByteArray, X = ⟨(tg L k).toArray⟩ := ⟨_, rfl⟩
        obtain ⟨D, hDD⟩ : ∃ D : ByteArray, D = ⟨(dt L k).toArray⟩ := ⟨_, rfl⟩
        have hl : D.data.toList = dt L k := by rw [hDD]
        have hz : D.size = (dt L k).length := by rw [hDD]; exact List.size_toArray
        have hp := fun W => (pad_any D W (by rw [hl]; exact hn)).mono fun _ _ h => And.intro h.1 h.2.symm
        rw [hl] at hp
        have hn1 := congrArg List.length hnx
        rw [List.length_append] at hn1
        have hsz := HS.out
        unfold szF at hsz
        rw [HL.out] at hsz
        obtain ⟨n, hnn⟩ : ∃ n, n = (dt L k).length := ⟨_, rfl⟩
        rw [← hnn] at hz hp hup hbl hn hble
        rw [← hX] at c0
        rw [← hDD] at c1
        have hBA := Lib.hid (HB.out.alloc HB.out.size (.cells #[.string X, .string D] 25))
        obtain ⟨p, hpp⟩ : ∃ p, p = padn n := ⟨_, rfl⟩
        rw [← hpp] at hp hbl
        have hp3 : p < 4 := by rw [hpp]; unfold padn; omega
        have HP := Lib.hid hp
        rcases Nat.lt_or_ge q n with hbig | hbig
        · have HG := Lib.hid (show fitsL L = false by
            rw [HF.out, decide_eq_false]
            unfold szF
            rw [HL.out]
            omega)
          have g2 : q < n := hbig
          clear hnx hble hb4 hup hbl hX hDD hl hp hn1 hsz hnn hq hpp
          go_wp2_with fail
          go_ret
          exact ⟨by rw [HG.out]; rfl, hBA.out⟩
        · have g2 : ¬ q < n := by omega
          obtain ⟨q2, hq2⟩ : ∃ q2, q2 = q - (n + p) := ⟨_, rfl⟩
          have hqp : n + p ≤ q := by omega
          have e1 : IntKind.i64.wrap ((n : Int) + (p : Int)) = (n : Int) + (p : Int) := i64_in _ (by omega)
          have e2 : IntKind.i64.wrap ((q : Int) - ((n : Int) + (p : Int))) = (q2 : Int) := by rw [i64_in _ (by omega)]; omega
          have HN := Lib.hid (show q2 + 16 * m + (body (L.take (k + 1))).length = 1048564 by omega)
          clear hnx hble hb4 hup hbl hX hDD hl hp hn1 hsz hnn hq hpp hqp hq2 hbig
          go_wp2_with fail
          go_quiet ((go_at_call 20; with_reducible exact Calls.quiet_of_same (HP.out _)))
          all_goals
            go_wp2_with fail
            exact ⟨⟨k + 1, q2, by simp, by omega, rfl, HN.out, below_drewN hBA.out _⟩, by simp [intOf]; omega⟩
      · have hkm : k = m := by omega
        have HG := Lib.hid (show fitsL L = true by
          rw [HF.out, decide_eq_true]
          have := HS.out
          rw [hkm] at hq
          omega)
        clear hq
        subst hkm
        go_wp2_with fail
        go_ret
        exact ⟨by rw [HG.out]; rfl, HB.out⟩
  · have g1 : decide (64 < (m : Int)) = true := decide_eq_true (by omega)
    have HF := Lib.hid (show fitsL L = false by unfold fitsL; rw [decide_eq_false (by omega), Bool.false_and])
    clear hlen h64
    go_enter Try.func15, Try.ntmps15
    go_wp2_with fail
    go_ret
    exact ⟨by rw [HF.out]; rfl, Below.refl _ _⟩
end Go.Proofs.Ytlidagofjkilgaa
