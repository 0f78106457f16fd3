/- Proved here: what the reference package's Digits, Value and fit answer and leave in memory. Condition: digits below 65536, as lists that lie in memory. -/
import Derived.Test.YtbkoeiofofhinaaRg
import Derived.StillTailTactics
namespace Go.Proofs.Ytbkoeiofofhinaa
open Go.RowKit

/-- The first k digits of a number of 64 bits. -/
def digs (x k : Nat) : List Nat := (List.range k).map fun j => x / 2 ^ (16 * j) % 65536
theorem digs_succ (x k : Nat) : digs x (k + 1) = digs x k ++ [x / 2 ^ (16 * k) % 65536] := by simp [digs, List.range_succ]
theorem digs_len (x k : Nat) : (digs x k).length = k := by simp [digs]
/-- What holds at each round's head of Digits: the row so far is 'pre' and k digits of x. -/
def DigR (w wr : World) (hi lo x : Nat) (pre : List Nat) (k : Nat) (z : Value) : Prop :=
  wr.ownsRow (w.heap.size + 1) 22 1 z (pre ++ digs x k).length (dc (pre ++ digs x k)) ∧ wr.cell? ⟨w.heap.size, 0, none⟩ = some (.int .u64 (hi : Int)) ∧ wr.cell? ⟨w.heap.size, 1, none⟩ = some (.int .u64 (lo : Int)) ∧ Below w.heap.size w wr ∧ w.heap.size + 1 ≤ wr.heap.size
theorem DigR.step {w wr w' : World} {hi lo x : Nat} {pre : List Nat} {k : Nat} {z z' : Value} (h : DigR w wr hi lo x pre k z) (hown : w'.ownsRow (w.heap.size + 1) 22 1 z' ((pre ++ digs x k).length + 1) (dc ((pre ++ digs x k) ++ [x / 2 ^ (16 * k) % 65536])))
    (hb : Below (w.heap.size + 1) wr w') : DigR w w' hi lo x pre (k + 1) z' := by
  obtain ⟨_, h2, h3, h4, h5⟩ := h
  refine ⟨?_, ?_, ?_, h4.trans (hb.mono (by omega)), Nat.le_trans h5 hb.size⟩
  · rw [digs_succ, ← List.append_assoc, List.length_append (bs := [_])]
    exact hown
  · rw [hb.cell (by simp)]; exact h2
  · rw [hb.cell (by simp)]; exact h3
theorem DigR.next {w wr : World} {hi lo k : Nat} {z : Value} (h : DigR w wr hi lo lo [] k z) (hk : k = 4) : DigR w wr hi lo hi (digs lo 4) 0 z := by
  subst hk
  have e : digs lo 4 ++ digs hi 0 = [] ++ digs lo 4 := by simp [digs]
  unfold DigR at h ⊢
  rw [e]
  exact h
theorem dig_cast (x k : Nat) : ((x : Int) / 2 ^ (16 * k)).tmod 65536 = ((x / 2 ^ (16 * k) % 65536 : Nat) : Int) := by
  have h : (x : Int) / 2 ^ (16 * k) = ((x / 2 ^ (16 * k) : Nat) : Int) := by simp
  rw [h, Int.tmod_eq_emod_of_nonneg (Int.natCast_nonneg _)]
  simp
set_option maxHeartbeats 1000000 in
set_option maxRecDepth 100000 in
theorem digits_any (hi lo : Nat) (w : World) (hh : hi < 18446744073709551616) (hl : lo < 18446744073709551616) :
    Calls Try.prog 20 #[.agg #[.int .u64 (hi : Int), .int .u64 (lo : Int)]] w fun e w' => ∃ z, e = .returned z ∧ Row w' z (digs lo 4 ++ digs hi 4) ∧ Below w.heap.size w w' := by
  have HH := Lib.hid hh
  have HL := Lib.hid hl
  clear hh hl
  go_enter Try.func20, Try.ntmps20
  go_wp2_with fail
  go_loopw [3, 4] (fun z i wr => ∃ k : Nat, i = .int .i64 (k : Int) ∧ k ≤ 4 ∧ DigR w wr hi lo lo [] k z) (fun _ i _ => 4 - (intOf i).toNat)
  case atStart => exact ⟨0, rfl, by omega, World.ownsRow_nil _ _ _ _, by go_simp, by go_simp, (Below.refl _ _).alloc (Nat.le_refl _) _, by simp⟩
  case round =>
    obtain ⟨k, rfl, hk, hr⟩ := hrel
    have hown := Lib.hid hr.1
    have hc1 := hr.2.2.1
    have hbas := hr.2.2.2.2
    have HR := Lib.hid hr
    clear hr
    by_cases hgo : k < 4
    · go_wp2_with (at_builtin; go_must (refine push_own rfl (.tmp 10) (.tmp 17) rfl (w.heap.size + 1) u3 _ ([] ++ digs lo k) (lo / 2 ^ (16 * k) % 65536) rfl hown.out _ ?_ hbas ?_ rfl ?_); rotate_left 2; intro z' w' hown' hb')
      case roundEnd => exact ⟨⟨k + 1, by simp, by omega, HR.out.step hown' hb'⟩, by simp [intOf]; omega⟩
      · exact dig_cast _ _
      · simp [digs_len]; omega
    · have hk4 : 4 ≤ k := by omega
      go_wp2_with fail
      have HR2 := Lib.hid (HR.out.next (by omega))
      clear HR hown hc1
      go_loopw [3, 5] (fun z i wr => ∃ k : Nat, i = .int .i64 (k : Int) ∧ k ≤ 4 ∧ DigR w wr hi lo hi (digs lo 4) k z) (fun _ i _ => 4 - (intOf i).toNat)
      case atStart => exact ⟨0, rfl, by omega, HR2.out⟩
      case round =>
        obtain ⟨k2, rfl, hk2, hr⟩ := hrel
        have hown := Lib.hid hr.1
        have hc1 := hr.2.1
        have hbas := hr.2.2.2.2
        have HR := Lib.hid hr
        clear hr
        by_cases hgo : k2 < 4
        · go_wp2_with (at_builtin; go_must (refine push_own rfl (.tmp 23) (.tmp 30) rfl (w.heap.size + 1) u3 _ (digs lo 4 ++ digs hi k2) (hi / 2 ^ (16 * k2) % 65536) rfl hown.out _ ?_ hbas ?_ rfl ?_); rotate_left 2; intro z' w' hown' hb')
          case refine_1 => exact dig_cast _ _
          case refine_2 => simp [digs_len]; omega
          exact ⟨⟨k2 + 1, by simp, by omega, HR.out.step hown' hb'⟩, by simp [intOf]; omega⟩
        · obtain rfl : k2 = 4 := by omega
          go_wp2_with fail
          go_ret
          exact ⟨_, rfl, Row.of_own HR.out.1, HR.out.2.2.2.1⟩
/-- A number of 128 bits as it lies in a block of its own. -/
def Box (w : World) (g : Nat) (a b : Nat) : Prop := w.heap[g]? = some (.cells #[.int .u64 (a : Int), .int .u64 (b : Int)] 24 (0, 0))
section
variable {w w' : World} {g a b : Nat}
theorem Box.lt (h : Box w g a b) : g < w.heap.size := by
  rcases Nat.lt_or_ge g w.heap.size with hl | hl
  · exact hl
  · unfold Box at h; rw [Array.getElem?_eq_none hl] at h; cases h
theorem Box.c0 (h : Box w g a b) : w.cell? ⟨g, 0, none⟩ = some (.int .u64 (a : Int)) := cell_of_row w g 0 _ 24 (0, 0) h
theorem Box.c1 (h : Box w g a b) : w.cell? ⟨g, 1, none⟩ = some (.int .u64 (b : Int)) := cell_of_row w g 1 _ 24 (0, 0) h
theorem Box.fr (h : Box w g a b) (j : Nat) : w.frozen? ⟨g, j, none⟩ = false := by
  unfold Box at h
  simp [World.frozen?, h]
theorem Box.below {B : Nat} (h : Box w g a b) (hb : Below B w w') (hg : g < B) : Box w' g a b := (hb.block g hg).trans h
theorem Box.new (w : World) (a b : Nat) : Box (w.alloc (.cells #[.int .u64 (a : Int), .int .u64 (b : Int)] 24)) w.heap.size a b := heap_alloc_new w _
theorem Box.drew (h : Box w g a b) : Box w.drew g a b := h
theorem Box.set0 (h : Box w g a b) (x : Nat) : Box (w.setCell ⟨g, 0, none⟩ (.int .u64 (x : Int))) g x b := by
  unfold Box at h ⊢
  simp [World.setCell, Array.getElem?_modify, h]
theorem Box.set1 (h : Box w g a b) (x : Nat) : Box (w.setCell ⟨g, 1, none⟩ (.int .u64 (x : Int))) g a x := by
  unfold Box at h ⊢
  simp [World.setCell, Array.getElem?_modify, h]
theorem Box.far (h : Box w g a b) {p : Addr} (hp : g ≠ p.block) (u : Value) : Box (w.setCell p u) g a b := (Below.heap_setCell w p u g hp).trans h
end
/-- The value of the first k digits; a digit in its place. -/
def dvt (xs : List Nat) (k : Nat) : Nat := dv (xs.take k)
def shv (d k : Nat) : Nat := d * 65536 ^ k
theorem u64_wrap {x : Nat} (h : x < 65536 ^ 4) : IntKind.u64.wrap (x : Int) = (x : Int) := by
  have h' : (x : Int) < 18446744073709551616 := by have e : 65536 ^ 4 = 18446744073709551616 := by decide
                                                   omega
  simp only [IntKind.wrap, IntKind.bits, IntKind.signed]
  simp
  omega
theorem wrap16 (k : Nat) (h : k < 4) : IntKind.i64.wrap (16 * (k : Int)) = 16 * (k : Int) := IntWalk.i64_in _ (by omega)
theorem shl_digit (d k : Nat) (hd : d < 65536) (hk : k < 4) : IntKind.u64.wrap ((d : Int) * 2 ^ (16 * (k : Int)).toNat) = (shv d k : Int) := by
  have e : (16 * (k : Int)).toNat = 16 * k := by omega
  rw [e]
  have e2 : (d : Int) * 2 ^ (16 * k) = ((shv d k : Nat) : Int) := by
    rw [shv, show 65536 = 2 ^ 16 from rfl, ← Nat.pow_mul]
    simp
  rw [e2, u64_wrap]
  have : 65536 ^ k ≤ 65536 ^ 3 := Nat.pow_le_pow_right (by decide) (by omega)
  have h2 : d * 65536 ^ k ≤ 65535 * 65536 ^ 3 := Nat.mul_le_mul (by omega) this
  unfold shv
  omega
theorem dvt_succ (xs : List Nat) (k : Nat) : dvt xs (k + 1) = dvt xs k + shv (dat xs k) k := by
  unfold dvt shv dat
  rw [dv_take_succ, Nat.mul_comm]
theorem dvt_lt {xs : List Nat} (h : Dg xs) {k : Nat} (hk : k ≤ 4) : dvt xs k < 65536 ^ 4 := Nat.lt_of_lt_of_le (dv_take_lt h k) (Nat.pow_le_pow_right (by decide) hk)
theorem sum_digit (xs : List Nat) (k : Nat) (hk : k < 4) (hx : Dg xs) : IntKind.u64.wrap ((dvt xs k : Int) + (shv (dat xs k) k : Int)) = (dvt xs (k + 1) : Int) := by
  have := dvt_lt hx (k := k + 1) (by omega)
  rw [show ((dvt xs k : Nat) : Int) + ((shv (dat xs k) k : Nat) : Int) = ((dvt xs (k + 1) : Nat) : Int) by rw [dvt_succ]; simp, u64_wrap this]
theorem sum_digit4 (xs : List Nat) (k : Nat) (hk : k < 4) (hx : Dg xs) : IntKind.u64.wrap ((dvt (xs.drop 4) k : Int) + (shv (dat xs (k + 4)) k : Int)) = (dvt (xs.drop 4) (k + 1) : Int) := by
  have e : dat xs (k + 4) = dat (xs.drop 4) k := by simp [dat, Nat.add_comm]
  rw [e]
  exact sum_digit (xs.drop 4) k hk (dg_drop hx 4)
def ValB (w wr : World) (a b : Nat) : Prop := Box wr (w.heap.size + 1) a b ∧ Box wr w.heap.size 0 0 ∧ Below w.heap.size w wr
theorem ValB.drew {w wr W : World} {a b : Nat} (h : ValB w wr a b) (hW : W = wr.drew) : ValB w W a b := by
  subst hW
  exact ⟨h.1, h.2.1, h.2.2.drew⟩
theorem ValB.set1 {w wr W : World} {a b : Nat} (h : ValB w wr a b) (x : Nat) (hW : W = wr.setCell ⟨w.heap.size + 1, 1, none⟩ (.int .u64 (x : Int))) : ValB w W a x := by
  subst hW
  exact ⟨h.1.set1 x, h.2.1.far (by simp) _, h.2.2.setCell (by simp) _⟩
theorem ValB.set0 {w wr W : World} {a b : Nat} (h : ValB w wr a b) (x : Nat) (hW : W = wr.setCell ⟨w.heap.size + 1, 0, none⟩ (.int .u64 (x : Int))) : ValB w W x b := by
  subst hW
  exact ⟨h.1.set0 x, h.2.1.far (by simp) _, h.2.2.setCell (by simp) _⟩
theorem wrap4 (k : Nat) (h : k < 4) : IntKind.i64.wrap ((k : Int) + 4) = (k : Int) + 4 := IntWalk.i64_in _ (by omega)
/-- The two halves of a number of 128 bits. -/
def hiW (n : Nat) : Nat := n / 18446744073709551616
def loW (n : Nat) : Nat := n % 18446744073709551616
theorem p4 : (65536 ^ 4 : Nat) = 18446744073709551616 := by decide
theorem dvt_lo {xs : List Nat} (h : Dg xs) : dvt xs 4 = loW (dv xs) := by
  have h1 := dv_split xs 4
  have h2 := dv_take_lt h 4
  unfold dvt loW
  rw [p4] at *
  omega
theorem dvt_hi {xs : List Nat} (h : Dg xs) (hb : dv xs < 65536 ^ 8) : dvt (xs.drop 4) 4 = hiW (dv xs) := by
  have h1 := dv_split xs 4
  have h2 := dv_take_lt h 4
  have h3 := dv_split (xs.drop 4) 4
  have e : (65536 ^ 8 : Nat) = 18446744073709551616 * 18446744073709551616 := by decide
  unfold dvt hiW
  rw [p4] at *
  rw [e] at hb
  have h4 : dv ((xs.drop 4).drop 4) = 0 := by omega
  omega
/-- What holds at each round's head of Value. -/
def ValR (w wr : World) (xs : List Nat) (k : Nat) : Prop :=
  ValB w wr (dvt (xs.drop 4) k) (dvt xs k)
theorem valR_start (w : World) (xs : List Nat) : ValR w ((w.alloc (.cells #[.int .u64 0, .int .u64 0] 24)).alloc (.cells #[.int .u64 0, .int .u64 0] 24)) xs 0 := by
  refine ⟨?_, ?_, ((Below.refl _ _).alloc (Nat.le_refl _) _).alloc (by simp) _⟩
  · have := Box.new (w.alloc (.cells #[.int .u64 0, .int .u64 0] 24)) 0 0
    simpa [dvt, dv] using this
  · exact (Box.new w 0 0).below (B := w.heap.size + 1) ((Below.refl _ _).alloc (by simp) _) (by simp)
theorem Row.get' {w : World} {A : Option Addr} {n c : Nat} {xs : List Nat} (h : Row w (.slice A n c) xs) (i : Nat) (hi : i < xs.length) : ∃ g, A = some ⟨g, 0, none⟩ ∧ g < w.heap.size ∧ w.cell? ⟨g, i, none⟩ = some (.int .u64 (dat xs i : Int)) := by
  rcases h.form with ⟨_, rfl⟩ | ⟨g, cap, hv, hg, _, _, hc, _⟩
  · simp at hi
  · injection hv with h1
    exact ⟨g, h1, hg, hc i hi⟩
/-- The digits from the ninth on, up to k, are 0. -/
def ZeroTo (xs : List Nat) (k : Nat) : Prop := ∀ j, 8 ≤ j → j < k → dat xs j = 0
theorem ZeroTo.succ {xs : List Nat} {k : Nat} (h : ZeroTo xs k) (h0 : dat xs k = 0) : ZeroTo xs (k + 1) := fun j h1 h2 => by
  rcases Nat.lt_or_ge j k with h3 | h3
  · exact h j h1 h3
  · obtain rfl : j = k := by omega
    exact h0
theorem ZeroTo.small {xs : List Nat} {k : Nat} (h : ZeroTo xs k) (hx : Dg xs) (hk : xs.length ≤ k) : dv xs < 65536 ^ 8 := by
  have h1 := dv_split xs 8
  have h2 := dv_take_lt hx 8
  have h3 : dv (xs.drop 8) = 0 := dv_zero_of fun j => by
    have e : (xs.drop 8).getD j 0 = dat xs (8 + j) := by simp [dat]
    rw [e]
    rcases Nat.lt_or_ge (8 + j) k with h4 | h4
    · exact h _ (by omega) h4
    · exact dat_beyond (by omega)
  rw [h3] at h1
  omega
end Go.Proofs.Ytbkoeiofofhinaa
