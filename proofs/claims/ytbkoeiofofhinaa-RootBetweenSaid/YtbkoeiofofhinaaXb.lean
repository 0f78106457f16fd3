/- Proved here: what the document's Below answers and leaves in memory. Condition: numbers of 64 bits as halves. -/
import Derived.Test.YtbkoeiofofhinaaXa
namespace Go.Proofs.Ytbkoeiofofhinaa
open Go.RowKit

theorem ret_bool {a b : Bool} (h : a = b) : Ending.returned (.bool a) = .returned (.bool b) := by rw [h]
/-- Two numbers in boxes. -/
structure TwH (w W : World) (a b c d : Nat) : Prop where
  ba : Box W w.heap.size a b
  bb : Box W (w.heap.size + 1) c d
  bel : Below w.heap.size w W
section
variable {w W W' : World} {a b c d : Nat}
theorem TwH.start (w : World) (a b c d : Nat) : TwH w ((w.alloc (.cells #[.int .u64 (a : Int), .int .u64 (b : Int)] 24)).alloc (.cells #[.int .u64 (c : Int), .int .u64 (d : Int)] 24)) a b c d :=
  ⟨(Box.new w a b).alloc _, by simpa using Box.new (w.alloc (.cells #[.int .u64 (a : Int), .int .u64 (b : Int)] 24)) c d, ((Below.refl _ w).alloc (Nat.le_refl _) _).alloc (by simp) _⟩
theorem TwH.next (h : TwH w W a b c d) (hb : Below W.heap.size W W') : TwH w W' a b c d := ⟨h.ba.below hb h.ba.lt, h.bb.below hb h.bb.lt, h.bel.trans (hb.mono h.bel.size)⟩
theorem TwH.drew (h : TwH w W a b c d) : TwH w W.drew a b c d := ⟨h.ba, h.bb, h.bel.drew⟩
theorem TwH.facts (h : TwH w W a b c d) : W.cell? ⟨w.heap.size, 0, none⟩ = some (.int .u64 (a : Int)) ∧ W.cell? ⟨w.heap.size, 1, none⟩ = some (.int .u64 (b : Int)) ∧ W.cell? ⟨w.heap.size + 1, 0, none⟩ = some (.int .u64 (c : Int)) ∧ W.cell? ⟨w.heap.size + 1, 1, none⟩ = some (.int .u64 (d : Int)) :=
  ⟨h.ba.c0, h.ba.c1, h.bb.c0, h.bb.c1⟩
theorem TwH.dr (h : TwH w W a b c d) (k : Nat) : TwH w (W.drewN k) a b c d := ⟨h.ba, h.bb, below_drewN h.bel k⟩
end
theorem cmpI_le (x y : Nat) : decide (cmpI x y ≤ 0) = decide (x ≤ y) := by
  unfold cmpI
  repeat' split
  all_goals simp <;> omega
/-- Is r times r times d at most n? -/
def bw (r d n : Nat) : Bool := decide (sq r d ≤ n)
set_option maxHeartbeats 4000000 in
theorem rbelow_any (r a b c d : Nat) (w : World) (hr : r < 18446744073709551616) (ha : a < 18446744073709551616) (hb : b < 18446744073709551616) (hc : c < 18446744073709551616) (hd : d < 18446744073709551616) :
    Calls Try.prog 15 #[.int .u64 (r : Int), .agg #[.int .u64 (a : Int), .int .u64 (b : Int)], .agg #[.int .u64 (c : Int), .int .u64 (d : Int)]] w fun e w' => e = .returned (.bool (bw r (numW c d) (numW a b))) ∧ Below w.heap.size w w' := by
  have H := Lib.hid (TwH.start w a b c d)
  have HS := Lib.hid (fun W => square_num r W hr)
  have HN := Lib.hid (fun W => digits_num a b W ha hb)
  have HD := Lib.hid (fun W => digits_num c d W hc hd)
  have HE := Lib.hid (show decide (cmpI (r * r * numW c d) (numW a b) ≤ 0) = bw r (numW c d) (numW a b) from cmpI_le _ _)
  obtain ⟨f1, f2, f3, f4⟩ := H.out.facts
  clear hr ha hb hc hd
  go_enter Try.func15, Try.ntmps15
  go_wp2_with fail
  go_region_held3 (fun w' => w'.cell? ⟨w.heap.size, 0, none⟩ = some (.int .u64 (a : Int)) ∧ w'.cell? ⟨w.heap.size, 1, none⟩ = some (.int .u64 (b : Int)) ∧ w'.cell? ⟨w.heap.size + 1, 0, none⟩ = some (.int .u64 (c : Int)) ∧ w'.cell? ⟨w.heap.size + 1, 1, none⟩ = some (.int .u64 (d : Int)))
    (first | with_reducible exact H.out.facts | with_reducible exact H.out.drew.facts | go_keep)
    (first
      | (go_at_call 19; (with_reducible refine (HS.out _).mono ?_); rintro e w1 ⟨z1, rfl, hz, hb⟩; have Z1 := Lib.hid hz; have H := Lib.hid (H.out.drew.next hb); clear hz hb)
      | (go_at_call 20; (with_reducible refine (HD.out _).mono ?_); rintro e w2 ⟨z2, rfl, hz, hb⟩; have Z2 := Lib.hid hz; have Z1 := Lib.hid (Z1.out.below hb (Nat.le_refl _)); have H := Lib.hid (H.out.next hb); clear hz hb)
      | (go_at_call 24; (with_reducible refine (times_num17 z1 z2 (r * r) (numW c d) _ Z1.out Z2.out).mono ?_); rintro e w3 ⟨z3, rfl, hz, hb⟩; have Z3 := Lib.hid hz; have H := Lib.hid (H.out.next hb); clear hz hb)
      | (go_at_call 20; (with_reducible refine (HN.out _).mono ?_); rintro e w4 ⟨z4, rfl, hz, hb⟩; have Z4 := Lib.hid hz; have Z3 := Lib.hid (Z3.out.below hb (Nat.le_refl _)); have H := Lib.hid (H.out.next hb); clear hz hb)
      | (go_at_call 18; (with_reducible refine (less_num z3 z4 _ _ 26 8 _ Z3.out Z4.out (by decide) (by decide)).mono ?_); rintro e w5 ⟨rfl, rfl⟩))
  all_goals
    go_wp2_with fail
    go_ret
    exact ⟨ret_bool HE.out, H.out.bel⟩
end Go.Proofs.Ytbkoeiofofhinaa
