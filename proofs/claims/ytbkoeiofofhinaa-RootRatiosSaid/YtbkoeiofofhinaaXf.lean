/- Proved here: what package root's Below answers and leaves in memory. Condition: numbers of 64 bits as halves. -/
import Derived.Test.YtbkoeiofofhinaaXe
import Derived.Test.YtbkoeiofofhinaaWb
namespace Go.Proofs.Ytbkoeiofofhinaa
open Go.RowKit

theorem box_facts {W : World} {g c d : Nat} (h : Box W g c d) : W.cell? ⟨g, 0, none⟩ = some (.int .u64 (c : Int)) ∧ W.cell? ⟨g, 1, none⟩ = some (.int .u64 (d : Int)) := ⟨h.c0, h.c1⟩
theorem size_a (w : World) (o : Obj) : (w.alloc o).heap.size = w.heap.size + 1 := by simp
/-- Two numbers in boxes, and other boxes that are yet empty. -/
structure EbH (w W : World) (a b c d : Nat) (L : List Nat) : Prop where
  tw : TwH w W a b c d
  bx : ∀ g ∈ L, Box W g 0 0 ∧ w.heap.size + 1 < g
  nd : L.Nodup
section
variable {w W W' : World} {a b c d : Nat} {L : List Nat}
theorem EbH.start (h : TwH w W a b c d) : EbH w W a b c d [] := ⟨h, (fun _ h => by cases h), List.nodup_nil⟩
theorem EbH.alloc (h : EbH w W a b c d L) : EbH w (W.alloc (.cells #[.int .u64 0, .int .u64 0] 24)) a b c d (W.heap.size :: L) := by
  have hb : Below W.heap.size W (W.alloc (.cells #[.int .u64 0, .int .u64 0] 24)) := (Below.refl _ _).alloc (Nat.le_refl _) _
  refine ⟨h.tw.next hb, fun g hg => ?_, List.nodup_cons.2 ⟨fun hm => Nat.lt_irrefl _ (h.bx _ hm).1.lt, h.nd⟩⟩
  rcases List.mem_cons.1 hg with rfl | hg
  · exact ⟨Box.new W 0 0, h.tw.bb.lt⟩
  · exact ⟨(h.bx g hg).1.alloc _, (h.bx g hg).2⟩
theorem EbH.next (h : EbH w W a b c d L) (hb : Below W.heap.size W W') : EbH w W' a b c d L := ⟨h.tw.next hb, fun g hg => ⟨(h.bx g hg).1.below hb (h.bx g hg).1.lt, (h.bx g hg).2⟩, h.nd⟩
theorem EbH.drew (h : EbH w W a b c d L) : EbH w W.drew a b c d L := ⟨h.tw.drew, h.bx, h.nd⟩
theorem EbH.facts (h : EbH w W a b c d L) : W.cell? ⟨w.heap.size + 1, 0, none⟩ = some (.int .u64 (c : Int)) ∧ W.cell? ⟨w.heap.size + 1, 1, none⟩ = some (.int .u64 (d : Int)) := ⟨h.tw.bb.c0, h.tw.bb.c1⟩
theorem EbH.bxs (h : EbH w W a b c d L) : ∀ g ∈ L, W.cell? ⟨g, 0, none⟩ = some (.int .u64 0) ∧ W.cell? ⟨g, 1, none⟩ = some (.int .u64 0) ∧ W.frozen? ⟨g, 0, none⟩ = false ∧ W.frozen? ⟨g, 1, none⟩ = false ∧ g < W.heap.size := fun g hg =>
  ⟨(h.bx g hg).1.c0, (h.bx g hg).1.c1, (h.bx g hg).1.fr 0, (h.bx g hg).1.fr 1, (h.bx g hg).1.lt⟩
theorem EbH.two (h : EbH w W a b c d L) : W.cell? ⟨w.heap.size, 0, none⟩ = some (.int .u64 (a : Int)) ∧ W.cell? ⟨w.heap.size, 1, none⟩ = some (.int .u64 (b : Int)) ∧ w.heap.size + 1 < W.heap.size := ⟨h.tw.ba.c0, h.tw.ba.c1, h.tw.bb.lt⟩
end
/-- Behind the square: it and the divisor in their boxes, and the number in its own. -/
def BlR (w wx : World) (a b h l c d p q : Nat) : Prop :=
  wx.cell? ⟨p, 0, none⟩ = some (.int .u64 (h : Int)) ∧ wx.cell? ⟨p, 1, none⟩ = some (.int .u64 (l : Int)) ∧ wx.cell? ⟨q, 0, none⟩ = some (.int .u64 (c : Int)) ∧ wx.cell? ⟨q, 1, none⟩ = some (.int .u64 (d : Int)) ∧
  wx.cell? ⟨w.heap.size, 0, none⟩ = some (.int .u64 (a : Int)) ∧ wx.cell? ⟨w.heap.size, 1, none⟩ = some (.int .u64 (b : Int)) ∧
  wx.frozen? ⟨p, 0, none⟩ = false ∧ wx.frozen? ⟨p, 1, none⟩ = false ∧ wx.frozen? ⟨q, 0, none⟩ = false ∧ wx.frozen? ⟨q, 1, none⟩ = false
/-- What is made of a product: its halves where it fits. -/
theorem scale_pt (x y n X : Nat) (hX : numW x y * n = X) (hx : x < 18446744073709551616) (hy : y < 18446744073709551616) (hn : n < 18446744073709551616) (hf : X < 65536 ^ 8) (W : World) :
    Calls Try.prog 22 #[.agg #[.int .u64 (x : Int), .int .u64 (y : Int)], .int .u64 (n : Int)] W fun e w' => e = .returned (.tuple #[.agg #[.int .u64 (hiW X : Int), .int .u64 (loW X : Int)], .int .i64 0]) ∧ Below W.heap.size W w' :=
  (scale_any x y n W hx hy hn).mono fun _ _ ⟨h, l, c, he, hr, hb⟩ => by
    rw [hX] at hr
    rcases hr with ⟨_, rfl, rfl, rfl⟩ | ⟨h0, _⟩
    · exact ⟨he, hb⟩
    · exact absurd hf h0
theorem scale_no (x y n X : Nat) (hX : numW x y * n = X) (hx : x < 18446744073709551616) (hy : y < 18446744073709551616) (hn : n < 18446744073709551616) (hf : ¬ X < 65536 ^ 8) (W : World) :
    Calls Try.prog 22 #[.agg #[.int .u64 (x : Int), .int .u64 (y : Int)], .int .u64 (n : Int)] W fun e w' => e = .returned (.tuple #[.agg #[.int .u64 0, .int .u64 0], .int .i64 2]) ∧ Below W.heap.size W w' :=
  (scale_any x y n W hx hy hn).mono fun _ _ ⟨h, l, c, he, hr, hb⟩ => by
    rw [hX] at hr
    rcases hr with ⟨h0, _⟩ | ⟨_, rfl, rfl, rfl⟩
    · exact absurd h0 hf
    · exact ⟨he, hb⟩
theorem cmp_pt (X a b : Nat) (hb : b < 18446744073709551616) (W : World) :
    Calls Try.prog 23 #[.agg #[.int .u64 (hiW X : Int), .int .u64 (loW X : Int)], .agg #[.int .u64 (a : Int), .int .u64 (b : Int)]] W fun e w' => e = .returned (.int .i64 (cmpI X (numW a b))) ∧ Below W.heap.size W w' :=
  (cmp_any (hiW X) (loW X) a b W (Nat.mod_lt _ (by decide)) hb).mono fun _ _ h => ⟨by rw [h.1, show numW (hiW X) (loW X) = X from Nat.div_add_mod' X 18446744073709551616], h.2⟩
theorem bw_of {X r D N : Nat} (h : X = sq r D) : decide (cmpI X N ≤ 0) = bw r D N := by rw [cmpI_le, h]; rfl
theorem bw_no {X r D a b : Nat} (h : X = sq r D) (hf : ¬ X < 65536 ^ 8) (ha : a < 18446744073709551616) (hb : b < 18446744073709551616) : false = bw r D (numW a b) := by
  refine (decide_eq_false ?_).symm
  rw [e8] at hf
  unfold numW
  omega
set_option maxHeartbeats 4000000 in
set_option maxRecDepth 100000 in
theorem below_any (r a b c d : Nat) (w : World) (hr : r < 18446744073709551616) (ha : a < 18446744073709551616) (hb : b < 18446744073709551616) (hc : c < 18446744073709551616) (hd : d < 18446744073709551616) :
    Calls Try.prog 14 #[.int .u64 (r : Int), .agg #[.int .u64 (a : Int), .int .u64 (b : Int)], .agg #[.int .u64 (c : Int), .int .u64 (d : Int)]] w fun e w' => e = .returned (.bool (bw r (numW c d) (numW a b))) ∧ Below w.heap.size w w' := by
  have H := Lib.hid (EbH.start (TwH.start w a b c d))
  have HM := Lib.hid (fun W => mul_any r r W hr hr)
  obtain ⟨f1, f2⟩ := H.out.facts
  obtain ⟨h, hh⟩ : ∃ h, h = pHi r r := ⟨_, rfl⟩
  obtain ⟨l, hl⟩ : ∃ l, l = pLo r r := ⟨_, rfl⟩
  rw [← hh, ← hl] at HM
  have HH := Lib.hid (And.intro hh hl)
  have HA := Lib.hid (And.intro hr (And.intro ha (And.intro hb (And.intro hc hd))))
  clear hr ha hb hc hd hh hl
  go_enter Try.func14, Try.ntmps14
  go_upto_region 1 with fail
  go_cut [7, 8] from 11 to 14 (fun s g wx => ∃ p q, s = .pointer (some ⟨p, 0, none⟩) ∧ g = .pointer (some ⟨q, 0, none⟩) ∧ BlR w wx a b h l c d p q ∧ p ≠ q ∧ w.heap.size + 1 < p ∧ w.heap.size + 1 < q ∧ Below w.heap.size w wx)
  case first =>
    go_region_held3 (fun w' => w'.cell? ⟨w.heap.size + 1, 0, none⟩ = some (.int .u64 (c : Int)) ∧ w'.cell? ⟨w.heap.size + 1, 1, none⟩ = some (.int .u64 (d : Int)))
      (first
        | (refine box_facts (g := w.heap.size + 1) ?_; (repeat (first | with_reducible exact H.out.tw.bb | with_reducible refine Box.drew ?_ | with_reducible refine Box.alloc ?_ _ | (with_reducible refine Box.far ?_ (by simp <;> omega) _))); done)
        | go_keep)
      (first
        | (go_at_call 21; (with_reducible refine (HM.out _).mono ?_); rintro e w1 ⟨rfl, hb⟩; (first | (with_reducible have H := Lib.hid (H.out.next hb)) | (with_reducible have H := Lib.hid (H.out.drew.next hb)) | (with_reducible have H := Lib.hid (H.out.alloc.next hb)) | (with_reducible have H := Lib.hid (H.out.alloc.drew.next hb)) | (with_reducible have H := Lib.hid (H.out.drew.alloc.next hb)) | (with_reducible have H := Lib.hid (H.out.alloc.alloc.next hb)) | (with_reducible have H := Lib.hid (H.out.alloc.alloc.drew.next hb))); clear hb; obtain ⟨k1, k2, k3⟩ := H.out.two; have hbx := H.out.bxs; (try simp only [List.forall_mem_cons, List.not_mem_nil, false_implies, implies_true, and_true, size_a] at hbx)))
    all_goals go_wp2_with fail
    all_goals
      go_meet
      refine ⟨_, _, rfl, rfl, ⟨?_, ?_, ?_, ?_, ?_, ?_, ?_, ?_, ?_, ?_⟩, ?_, ?_, ?_, ?_⟩
    all_goals first
      | omega
      | (go_simp; done)
      | (refine Box.c0 (b := b) ?_; (repeat (first | with_reducible exact H.out.tw.ba | with_reducible refine Box.drew ?_ | with_reducible refine Box.alloc ?_ _ | (with_reducible refine Box.far ?_ (by (try simp); omega) _))); done)
      | (refine Box.c1 (a := a) ?_; (repeat (first | with_reducible exact H.out.tw.ba | with_reducible refine Box.drew ?_ | with_reducible refine Box.alloc ?_ _ | (with_reducible refine Box.far ?_ (by (try simp); omega) _))); done)
      | (repeat (first | with_reducible exact H.out.tw.bel | with_reducible refine Below.drew ?_ | with_reducible refine Below.alloc ?_ (by (try simp); omega) _ | with_reducible refine Below.setCell ?_ (by (try simp); omega) _))
  case rest =>
    obtain ⟨p, q, rfl, rfl, ⟨g1, g2, g3, g4, g5, g6, g7, g8, g9, g10⟩, hne, hp, hq, hbel⟩ := hcut
    have HB := Lib.hid hbel
    have hlp := World.block_lt_of_cell? _ _ g1
    have hlq := World.block_lt_of_cell? _ _ g3
    simp only at hlp hlq
    clear hbel H f1 f2
    obtain ⟨hr, ha, hb, hc, hd⟩ := HA.out
    have hhl : numW h l = r * r := by rw [HH.out.1, HH.out.2]; exact Nat.div_add_mod' _ _
    have hhb : h < 18446744073709551616 := by
      have := Nat.mul_lt_mul'' hr hr
      unfold numW at hhl
      omega
    have hlb : l < 18446744073709551616 := by rw [HH.out.2]; exact Nat.mod_lt _ (by decide)
    by_cases h0 : h = 0
    · have hx := hc
      have hy := hd
      have hz := hlb
      have hl2 : l = r * r := by rw [← hhl, h0]; simp [numW]
      have hq0 : ((h : Int) != 0) = false := by simp [h0]
      clear h0 hhl hhb hlb hr ha hb hc hd
      obtain ⟨X, hX⟩ : ∃ X, numW c d * l = X := ⟨_, rfl⟩
      have he : X = sq r (numW c d) := by rw [← hX]; rw [hl2, sq, Nat.mul_comm]
      by_cases hf : X < 65536 ^ 8
      · have HS := Lib.hid (scale_pt c d l X hX hx hy hz hf)
        have HC := Lib.hid (cmp_pt X a b HA.out.2.2.1)
        have HE := Lib.hid (bw_of (N := numW a b) he)
        clear hf hX he hx hy hz hl2
        go_wp2_with (first
          | (go_at_call 22; (with_reducible refine (HS.out _).mono ?_); rintro e w2 ⟨rfl, hb⟩; have m1 : w2.cell? ⟨w.heap.size, 0, none⟩ = some (.int .u64 (a : Int)) := (hb.cell (p := ⟨w.heap.size, 0, none⟩) (by (try simp); omega)).trans (by go_simp); have m2 : w2.cell? ⟨w.heap.size, 1, none⟩ = some (.int .u64 (b : Int)) := (hb.cell (p := ⟨w.heap.size, 1, none⟩) (by (try simp); omega)).trans (by go_simp); have m3 : w.heap.size < w2.heap.size := Nat.lt_of_lt_of_le (by (try simp); omega) hb.size; have HB2 := Lib.hid (Below.trans (show Below w.heap.size w _ by (repeat (first | with_reducible exact HB.out | with_reducible refine Below.setCell ?_ (by (try simp); omega) _))) (hb.mono (by (try simp); omega))); clear hb)
          | (go_at_call 23; (with_reducible refine (HC.out _).mono ?_); rintro e w3 ⟨rfl, hb⟩; have HB3 := Lib.hid ((HB2.out.alloc HB2.out.size _).trans (hb.mono (by have := HB2.out.size; (try simp); omega))); clear hb))
        go_ret
        exact ⟨ret_bool HE.out, HB3.out⟩
      · have HS := Lib.hid (scale_no c d l X hX hx hy hz hf)
        have HE := Lib.hid (bw_no he hf HA.out.2.1 HA.out.2.2.1)
        clear hf hX he hx hy hz hl2
        go_wp2_with (first
          | (go_at_call 22; (with_reducible refine (HS.out _).mono ?_); rintro e w2 ⟨rfl, hb⟩; have m1 : w2.cell? ⟨w.heap.size, 0, none⟩ = some (.int .u64 (a : Int)) := (hb.cell (p := ⟨w.heap.size, 0, none⟩) (by (try simp); omega)).trans (by go_simp); have m2 : w2.cell? ⟨w.heap.size, 1, none⟩ = some (.int .u64 (b : Int)) := (hb.cell (p := ⟨w.heap.size, 1, none⟩) (by (try simp); omega)).trans (by go_simp); have m3 : w.heap.size < w2.heap.size := Nat.lt_of_lt_of_le (by (try simp); omega) hb.size; have HB2 := Lib.hid (Below.trans (show Below w.heap.size w _ by (repeat (first | with_reducible exact HB.out | with_reducible refine Below.setCell ?_ (by (try simp); omega) _))) (hb.mono (by (try simp); omega))); clear hb))
        go_ret
        exact ⟨ret_bool HE.out, HB2.out.alloc HB2.out.size _⟩
    · have hq0 : ((h : Int) != 0) = true := by simp [h0]
      by_cases c0 : c = 0
      · have hx := hhb
        have hy := hlb
        have hz := hd
        have hd2 : numW c d = d := by rw [c0]; simp [numW]
        have hq1 : ((c : Int) != 0) = false := by simp [c0]
        clear h0 c0 hhb hlb hr ha hb hc hd
        obtain ⟨X, hX⟩ : ∃ X, numW h l * d = X := ⟨_, rfl⟩
        have he : X = sq r (numW c d) := by rw [← hX]; rw [hhl, hd2, sq]
        by_cases hf : X < 65536 ^ 8
        · have HS := Lib.hid (scale_pt h l d X hX hx hy hz hf)
          have HC := Lib.hid (cmp_pt X a b HA.out.2.2.1)
          have HE := Lib.hid (bw_of (N := numW a b) he)
          clear hf hX he hx hy hz hd2 hhl
          go_wp2_with (first
            | (go_at_call 22; (with_reducible refine (HS.out _).mono ?_); rintro e w2 ⟨rfl, hb⟩; have m1 : w2.cell? ⟨w.heap.size, 0, none⟩ = some (.int .u64 (a : Int)) := (hb.cell (p := ⟨w.heap.size, 0, none⟩) (by (try simp); omega)).trans (by go_simp); have m2 : w2.cell? ⟨w.heap.size, 1, none⟩ = some (.int .u64 (b : Int)) := (hb.cell (p := ⟨w.heap.size, 1, none⟩) (by (try simp); omega)).trans (by go_simp); have m3 : w.heap.size < w2.heap.size := Nat.lt_of_lt_of_le (by (try simp); omega) hb.size; have HB2 := Lib.hid (Below.trans (show Below w.heap.size w _ by (repeat (first | with_reducible exact HB.out | with_reducible refine Below.setCell ?_ (by (try simp); omega) _))) (hb.mono (by (try simp); omega))); clear hb)
            | (go_at_call 23; (with_reducible refine (HC.out _).mono ?_); rintro e w3 ⟨rfl, hb⟩; have HB3 := Lib.hid ((HB2.out.alloc HB2.out.size _).trans (hb.mono (by have := HB2.out.size; (try simp); omega))); clear hb))
          go_ret
          exact ⟨ret_bool HE.out, HB3.out⟩
        · have HS := Lib.hid (scale_no h l d X hX hx hy hz hf)
          have HE := Lib.hid (bw_no he hf HA.out.2.1 HA.out.2.2.1)
          clear hf hX he hx hy hz hd2 hhl
          go_wp2_with (first
            | (go_at_call 22; (with_reducible refine (HS.out _).mono ?_); rintro e w2 ⟨rfl, hb⟩; have m1 : w2.cell? ⟨w.heap.size, 0, none⟩ = some (.int .u64 (a : Int)) := (hb.cell (p := ⟨w.heap.size, 0, none⟩) (by (try simp); omega)).trans (by go_simp); have m2 : w2.cell? ⟨w.heap.size, 1, none⟩ = some (.int .u64 (b : Int)) := (hb.cell (p := ⟨w.heap.size, 1, none⟩) (by (try simp); omega)).trans (by go_simp); have m3 : w.heap.size < w2.heap.size := Nat.lt_of_lt_of_le (by (try simp); omega) hb.size; have HB2 := Lib.hid (Below.trans (show Below w.heap.size w _ by (repeat (first | with_reducible exact HB.out | with_reducible refine Below.setCell ?_ (by (try simp); omega) _))) (hb.mono (by (try simp); omega))); clear hb))
          go_ret
          exact ⟨ret_bool HE.out, HB2.out.alloc HB2.out.size _⟩
      · have hq1 : ((c : Int) != 0) = true := by simp [c0]
        have HE := Lib.hid (show false = bw r (numW c d) (numW a b) from by
          refine (decide_eq_false ?_).symm
          have h1 : 18446744073709551616 ≤ r * r := by rw [← hhl]; unfold numW; omega
          have h2 : 18446744073709551616 ≤ numW c d := by unfold numW; omega
          have h3 := Nat.mul_le_mul h1 h2
          unfold sq
          generalize r * r * numW c d = T at *
          unfold numW
          omega)
        clear h0 c0 hhb hlb hr ha hb hc hd hhl
        go_wp2_with fail
        go_ret
        refine ⟨ret_bool HE.out, ?_⟩
        repeat (first | with_reducible exact HB.out | with_reducible refine Below.setCell ?_ (by (try simp); omega) _)
end Go.Proofs.Ytbkoeiofofhinaa
