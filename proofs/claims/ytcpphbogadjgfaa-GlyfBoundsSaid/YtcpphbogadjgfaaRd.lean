/- Proved here: what tellPlaces answers. Condition: at most 256 contours that lie in memory, of at most 4096 points. -/
import Derived.Test.YtcpphbogadjgfaaRc
namespace Go.Proofs.Ytcpphbogadjgfaa
open Go.RowKit

/-- The places of the last points of the first k contours. -/
def plc (LL : List (List Pt)) : Nat → List UInt8
  | 0 => []
  | k + 1 => plc LL k ++ u2 ((tot LL (k + 1) : Int) - 1)
theorem plc_len (LL : List (List Pt)) : ∀ k, (plc LL k).length = 2 * k
  | 0 => rfl
  | k + 1 => by simp only [plc, List.length_append, plc_len LL k, u2_len]; omega
theorem tot_le (LL : List (List Pt)) : ∀ n k, k ≤ n → tot LL k ≤ tot LL n
  | 0, k, h => by rw [show k = 0 by omega]; exact Nat.le_refl _
  | n + 1, k, h => by
    rcases Nat.lt_or_ge n k with h1 | h1
    · rw [show k = n + 1 by omega]; exact Nat.le_refl _
    · have := tot_le LL n k h1; simp only [tot]; omega
/-- While places are told: the builder. -/
structure BdS (w W : World) (b : Nat) (l : List UInt8) : Prop where
  bel : Below w.heap.size w W
  bld : Bld w.heap.size b l W
section
variable {w W W' : World} {b : Nat} {l : List UInt8}
theorem BdS.next (h : BdS w W b l) (hb : Below W.heap.size W W') : BdS w W' b l := ⟨h.bel.trans (hb.mono h.bel.size), h.bld.bel hb⟩
theorem BdS.put (h : BdS w W b l) {l' : List UInt8} (h1 : Bld w.heap.size b l' W') (hb : Below w.heap.size W W') : BdS w W' b l' := ⟨h.bel.trans hb, h1⟩
theorem BdS.new (w : World) : BdS w (w.alloc (.cells #[.pointer none, .slice none 0 0] 70)) w.heap.size [] := ⟨(Below.refl _ _).alloc (Nat.le_refl _) _, Bld.new w⟩
end
set_option maxHeartbeats 4000000 in
theorem tellPlaces_any (A : Option Addr) (m c : Nat) (LL : List (List Pt)) (w : World) (hP : Ctl w A m LL) (hm : m ≤ 256) (ht : tot LL m ≤ 4096) :
    Calls Try.prog 18 #[.slice A m c] w fun e w' => e = .returned (.string ⟨(plc LL m).toArray⟩) ∧ Below w.heap.size w w' := by
  have HI := Lib.hid hP
  have HT := Lib.hid (show ∀ k, k < m → tot LL k ≤ 4096 ∧ tot LL (k + 1) ≤ 4096 from fun k hk => ⟨Nat.le_trans (tot_le LL m k (by omega)) ht, Nat.le_trans (tot_le LL m (k + 1) hk) ht⟩)
  have S := Lib.hid (BdS.new w)
  clear hP ht
  go_enter Try.func18, Try.ntmps18
  go_upto_region 2 with fail
  obtain ⟨b, hb⟩ : ∃ b, b = w.heap.size := ⟨_, rfl⟩
  obtain ⟨W0, hW0⟩ : ∃ W, W = w.alloc (.cells #[.pointer none, .slice none 0 0] 70) := ⟨_, rfl⟩
  rw [← hW0] at S ⊢
  have S : Hid (BdS w W0 b []) := by rw [hb]; exact S
  rw [← hb]
  clear hb hW0
  go_wp2_with fail
  go_loopw [4, 9] (fun v i wr => ∃ k : Nat, i = .int .i64 (k : Int) ∧ k ≤ m ∧ v = .int .i64 ((tot LL k : Int) - 1) ∧ BdS w wr b (plc LL k)) (fun _ i _ => m - (intOf i).toNat)
  case atStart => exact ⟨0, rfl, Nat.zero_le _, rfl, S.out⟩
  case round =>
    obtain ⟨k, rfl, hk, rfl, hS⟩ := hrel
    have HS := Lib.hid hS
    by_cases hgo : k < m
    · obtain ⟨a, B, c0, rfl, hc, _⟩ := HI.out.at_ hS.bel hgo
      obtain ⟨t1, t2⟩ := HT.out k hgo
      have HK := Lib.hid (show plc LL (k + 1) = plc LL k ++ u2 ((tot LL (k + 1) : Int) - 1) from rfl)
      have hT : tot LL (k + 1) = tot LL k + (ct LL k).length := rfl
      obtain ⟨n, hn⟩ : ∃ n, n = (ct LL k).length := ⟨_, rfl⟩
      rw [← hn] at hc hT
      obtain ⟨t, htt⟩ : ∃ t, t = tot LL k := ⟨_, rfl⟩
      obtain ⟨u, hu⟩ : ∃ t, t = tot LL (k + 1) := ⟨_, rfl⟩
      rw [← htt] at t1 hT ⊢
      rw [← hu] at t2 hT HK
      have e1 : IntKind.i64.wrap ((t : Int) - 1 + (n : Int)) = (u : Int) - 1 := by rw [i64_in _ (by omega)]; omega
      obtain ⟨z, hz⟩ : ∃ z, z = (u : Int) - 1 := ⟨_, rfl⟩
      rw [← hz] at e1 HK
      have e2 := wrap_u16i z
      obtain ⟨q, hq⟩ : ∃ q, q = (z % 65536).toNat := ⟨_, rfl⟩
      rw [← hq] at e2
      obtain ⟨D, hD⟩ : ∃ D : ByteArray, D = ⟨(u2 z).toArray⟩ := ⟨_, rfl⟩
      have CP := Lib.hid (show ∀ W, Calls Try.prog 16 #[.int .u16 (q : Int)] W fun e w' => e = .returned (.string D) ∧ Below W.heap.size W w' from fun W => by rw [hD]; unfold u2; rw [← hq]; exact p16_any q W (by omega))
      have HD := Lib.hid (show D.data.toList = u2 z by rw [hD])
      have HL := Lib.hid (show (plc LL k).length + D.size ≤ 100000000 by
        rw [plc_len]
        have : D.size = 2 := by rw [hD]; show (u2 z).toArray.size = 2; rw [List.size_toArray, u2_len]
        omega)
      have HBw := Lib.hid hS.bel.size
      have HU := Lib.hid (And.intro hu hz)
      clear hS hn htt hu hz hq hD hT
      go_wp2_with (first
        | (go_at_call 16; (with_reducible refine (CP.out _).mono ?_); rintro e w1 ⟨rfl, hb1⟩; have S1 := Lib.hid (HS.out.next hb1); clear hb1)
        | (go_at_call 35; (with_reducible refine (ws_any _ _ _ _ _ S1.out.bld HL.out S1.out.bel.size).mono ?_); rintro e w2 ⟨rfl, h1, h2, _⟩; have S2 := Lib.hid (S1.out.put h1 h2); clear h1 h2))
      exact ⟨⟨k + 1, by simp, by omega, by rw [← HU.out.1, ← HU.out.2], by rw [HK.out, ← HD.out]; exact S2.out⟩, by simp [intOf]; omega⟩
    · obtain rfl : k = m := by omega
      clear hS
      go_wp2_with (go_at_call 37; (with_reducible refine (str_any _ _ _ _ HS.out.bld HS.out.bel.size).mono ?_); rintro e w2 ⟨rfl, h2⟩; have S2 := Lib.hid (HS.out.bel.trans h2); clear h2)
      go_ret
      exact ⟨rfl, S2.out⟩
end Go.Proofs.Ytcpphbogadjgfaa
