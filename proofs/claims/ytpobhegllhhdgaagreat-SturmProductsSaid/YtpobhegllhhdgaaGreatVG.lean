/- Proved here: what the document's numbers of any size answer and leave in memory (ported). Conditions stand at each. -/
import Derived.Test.YtpobhegllhhdgaaGreatVF
namespace Go.Proofs.YtpobhegllhhdgaaGreat
open Go.RowKit

/-- Two fractions in boxes, and boxes behind them that are yet empty. -/
structure OrH (L : List Nat) (w W : World) (s : Bool) (n d : Nat) (t : Bool) (m c : Nat) : Prop where
  x : Pt W w.heap.size s n d
  y : Pt W (w.heap.size + 1) t m c
  bxs : ∀ g ∈ L, w.heap.size + 1 < g ∧ O.Box W g 0 0
  nod : L.Nodup
  bel : Below w.heap.size w W
/-- Two fractions in boxes, and two numbers in boxes behind them. -/
structure OsH (w W : World) (s : Bool) (n d : Nat) (t : Bool) (m c G a b K e f : Nat) : Prop where
  x : Pt W w.heap.size s n d
  y : Pt W (w.heap.size + 1) t m c
  p : O.Box W G a b
  q : O.Box W K e f
  bel : Below w.heap.size w W
section
variable {w W W' : World} {s t : Bool} {n d m c G K a b e f : Nat} {L : List Nat}
theorem OrH.start (w : World) (s : Bool) (n d : Nat) (t : Bool) (m c : Nat) : OrH [] w ((w.alloc (.cells #[.bool s, .int .u64 (n : Int), .int .u64 (d : Int)] 138)).alloc (.cells #[.bool t, .int .u64 (m : Int), .int .u64 (c : Int)] 138)) s n d t m c :=
  ⟨(Pt.new w s n d).alloc _, Pt.newg (by simp), fun _ h => by simp at h, by simp, bel_tr (bel_a w _) (bel_a _ _)⟩
theorem OrH.next (h : OrH L w W s n d t m c) (hb : Below W.heap.size W W') : OrH L w W' s n d t m c := ⟨h.x.bel hb, h.y.bel hb, fun g hg => ⟨(h.bxs g hg).1, Box.bel (h.bxs g hg).2 hb⟩, h.nod, bel_tr h.bel hb⟩
theorem OrH.drew (h : OrH L w W s n d t m c) : OrH L w W.drew s n d t m c := ⟨h.x, h.y, h.bxs, h.nod, h.bel.drew⟩
theorem OrH.alloc (h : OrH L w W s n d t m c) : OrH (W.heap.size :: L) w (W.alloc (.cells #[.int .u64 0, .int .u64 0] 153)) s n d t m c :=
  ⟨h.x.alloc _, h.y.alloc _, fun g hg => by
    rcases List.mem_cons.1 hg with rfl | hg
    · exact ⟨h.y.lt, O.Box.new W 0 0⟩
    · exact ⟨(h.bxs g hg).1, (h.bxs g hg).2.alloc _⟩, List.nodup_cons.2 ⟨fun hm => absurd (h.bxs _ hm).2.lt (Nat.lt_irrefl _), h.nod⟩, bel_tr h.bel (bel_a _ _)⟩
theorem OrH.hlo (h : OrH L w W s n d t m c) : w.heap.size + 1 < W.heap.size := h.y.lt
theorem OrH.los (h : OrH L w W s n d t m c) : ∀ g ∈ L, w.heap.size + 1 < g := fun g hg => (h.bxs g hg).1
theorem OrH.fs (h : OrH L w W s n d t m c) : ∀ g ∈ L, ¬ g = W.heap.size ∧ ¬ W.heap.size = g ∧ W.cell? ⟨g, 0, none⟩ = some (.int .u64 0) ∧ W.cell? ⟨g, 1, none⟩ = some (.int .u64 0) ∧ W.frozen? ⟨g, 0, none⟩ = false ∧ W.frozen? ⟨g, 1, none⟩ = false ∧
    ∀ o, (W.alloc o).cell? ⟨g, 0, none⟩ = some (.int .u64 0) ∧ (W.alloc o).cell? ⟨g, 1, none⟩ = some (.int .u64 0) ∧ (W.alloc o).frozen? ⟨g, 0, none⟩ = false ∧ (W.alloc o).frozen? ⟨g, 1, none⟩ = false := fun g hg =>
  have hB := (h.bxs g hg).2
  ⟨Nat.ne_of_lt hB.lt, Ne.symm (Nat.ne_of_lt hB.lt), hB.c0, hB.c1, hB.fr 0, hB.fr 1, fun o => ⟨(hB.alloc o).c0, (hB.alloc o).c1, (hB.alloc o).fr 0, (hB.alloc o).fr 1⟩⟩
theorem OrH.pw (h : OrH L w W s n d t m c) : L.Pairwise fun a b => ¬ a = b ∧ ¬ b = a := h.nod.imp fun hab => ⟨hab, Ne.symm hab⟩
theorem two_pt {g k : Nat} (h1 : Pt W g s n d) (h2 : Pt W k t m c) : W.cell? ⟨g, 0, none⟩ = some (.bool s) ∧ W.cell? ⟨g, 1, none⟩ = some (.int .u64 (n : Int)) ∧ W.cell? ⟨g, 2, none⟩ = some (.int .u64 (d : Int)) ∧
    W.cell? ⟨k, 0, none⟩ = some (.bool t) ∧ W.cell? ⟨k, 1, none⟩ = some (.int .u64 (m : Int)) ∧ W.cell? ⟨k, 2, none⟩ = some (.int .u64 (c : Int)) := ⟨h1.c0, h1.c1, h1.c2, h2.c0, h2.c1, h2.c2⟩
theorem OrH.put2 (h : OrH L w W s n d t m c) (hG : G ∈ L) (hK : K ∈ L) (hne : G ≠ K) (a b e f : Nat) :
    OsH w ((((W.setCell ⟨G, 0, none⟩ (.int .u64 (a : Int))).setCell ⟨G, 1, none⟩ (.int .u64 (b : Int))).setCell ⟨K, 0, none⟩ (.int .u64 (e : Int))).setCell ⟨K, 1, none⟩ (.int .u64 (f : Int))) s n d t m c G a b K e f := by
  obtain ⟨lG, bG⟩ := h.bxs G hG
  obtain ⟨lK, bK⟩ := h.bxs K hK
  exact ⟨(h.x.far2 (by omega)).far2 (by omega), (h.y.far2 (by omega)).far2 (by omega), Box.far2 ((bG.set0 a).set1 b) hne, ((Box.far2 bK (Ne.symm hne)).set0 e).set1 f, bel_set (bel_set (bel_set (bel_set h.bel (by omega) _ _) (by omega) _ _) (by omega) _ _) (by omega) _ _⟩
theorem OrH.put5 (h : OrH L w W s n d t m c) (hK : K ∈ L) (a b e f : Nat) :
    OsH w (((W.alloc (.cells #[.int .u64 (a : Int), .int .u64 (b : Int)] 153)).setCell ⟨K, 0, none⟩ (.int .u64 (e : Int))).setCell ⟨K, 1, none⟩ (.int .u64 (f : Int))) s n d t m c W.heap.size a b K e f := by
  obtain ⟨lK, bK⟩ := h.bxs K hK
  have hl := bK.lt
  exact ⟨(h.x.alloc _).far2 (by omega), (h.y.alloc _).far2 (by omega), Box.far2 (O.Box.new W a b) (by omega), ((bK.alloc _).set0 e).set1 f, bel_set (bel_set (bel_tr h.bel (bel_a _ _)) (by omega) _ _) (by omega) _ _⟩
theorem OrH.put6 (h : OrH L w W s n d t m c) (hG : G ∈ L) (a b e f : Nat) :
    OsH w (((W.alloc (.cells #[.int .u64 (e : Int), .int .u64 (f : Int)] 153)).setCell ⟨G, 0, none⟩ (.int .u64 (a : Int))).setCell ⟨G, 1, none⟩ (.int .u64 (b : Int))) s n d t m c G a b W.heap.size e f :=
  have z := h.put5 hG e f a b
  ⟨z.x, z.y, z.q, z.p, z.bel⟩
theorem OrH.put1 (h : OrH L w W s n d t m c) (a b e f : Nat) : OsH w ((W.alloc (.cells #[.int .u64 (a : Int), .int .u64 (b : Int)] 153)).alloc (.cells #[.int .u64 (e : Int), .int .u64 (f : Int)] 153)) s n d t m c W.heap.size a b (W.heap.size + 1) e f :=
  ⟨(h.x.alloc _).alloc _, (h.y.alloc _).alloc _, (O.Box.new W a b).alloc _, by have := O.Box.new (W.alloc (.cells #[.int .u64 (a : Int), .int .u64 (b : Int)] 153)) e f; simpa using this, bel_tr (bel_tr h.bel (bel_a _ _)) (bel_a _ _)⟩
theorem OrH.put3 (h : OrH L w W s n d t m c) (a b e f : Nat) : OsH w ((W.alloc (.cells #[.int .u64 (e : Int), .int .u64 (f : Int)] 153)).alloc (.cells #[.int .u64 (a : Int), .int .u64 (b : Int)] 153)) s n d t m c (W.heap.size + 1) a b W.heap.size e f :=
  have z := h.put1 e f a b
  ⟨z.x, z.y, z.q, z.p, z.bel⟩
theorem OsH.next (h : OsH w W s n d t m c G a b K e f) (hb : Below W.heap.size W W') : OsH w W' s n d t m c G a b K e f := ⟨h.x.bel hb, h.y.bel hb, Box.bel h.p hb, Box.bel h.q hb, bel_tr h.bel hb⟩
theorem OsH.facts (h : OsH w W s n d t m c G a b K e f) : W.cell? ⟨w.heap.size, 0, none⟩ = some (.bool s) ∧ W.cell? ⟨w.heap.size + 1, 0, none⟩ = some (.bool t) ∧ W.cell? ⟨G, 0, none⟩ = some (.int .u64 (a : Int)) ∧ W.cell? ⟨G, 1, none⟩ = some (.int .u64 (b : Int)) ∧ W.cell? ⟨K, 0, none⟩ = some (.int .u64 (e : Int)) ∧ W.cell? ⟨K, 1, none⟩ = some (.int .u64 (f : Int)) :=
  ⟨h.x.c0, h.y.c0, h.p.c0, h.p.c1, h.q.c0, h.q.c1⟩
end
theorem cmp_pt (a b c d : Nat) (z : Int) (hz : z = O.cmpI (O.numW a b) (O.numW c d)) (hb : b < 18446744073709551616) (hd : d < 18446744073709551616) (w : World) : Calls Tryz.prog 121 #[.agg #[.int .u64 (a : Int), .int .u64 (b : Int)], .agg #[.int .u64 (c : Int), .int .u64 (d : Int)]] w fun e w' => e = .returned (.int .i64 z) ∧ Below w.heap.size w w' := by
  subst hz
  exact O.cmp_any a b c d w hb hd
set_option linter.unusedSimpArgs false in
set_option maxHeartbeats 8000000 in
theorem order_core (s t : Bool) (n d m c h1 l1 h2 l2 : Nat) (z y : Int) (w : World) (hd : d < 18446744073709551616) (hc : c < 18446744073709551616) (hn : n < 18446744073709551616) (hm : m < 18446744073709551616)
    (hh1 : h1 = O.pHi n c) (hl1 : l1 = O.pLo n c) (hh2 : h2 = O.pHi m d) (hl2 : l2 = O.pLo m d) (hz : z = O.cmpI (n * c) (m * d)) (hy : y = O.cmpI (m * d) (n * c)) :
    Calls Tryz.prog 104 #[.agg #[.bool s, .int .u64 (n : Int), .int .u64 (d : Int)], .agg #[.bool t, .int .u64 (m : Int), .int .u64 (c : Int)]] w fun e w' => e = .returned (.int .i64 (if s then (if t then y else -1) else if t then 1 else z)) ∧ Below w.heap.size w w' := by
  have HM1 := Lib.hid (mul_pt n c h1 l1 hh1 hl1 hn hc)
  have HM2 := Lib.hid (mul_pt m d h2 l2 hh2 hl2 hm hd)
  have HZ := Lib.hid (cmp_pt h1 l1 h2 l2 z (by rw [hh1, hl1, hh2, hl2, mul_num, mul_num]; exact hz) (by rw [hl1]; exact (mul_lim hn hc).2) (by rw [hl2]; exact (mul_lim hm hd).2))
  have HY := Lib.hid (cmp_pt h2 l2 h1 l1 y (by rw [hh1, hl1, hh2, hl2, mul_num, mul_num]; exact hy) (by rw [hl2]; exact (mul_lim hm hd).2) (by rw [hl1]; exact (mul_lim hn hc).2))
  have H := Lib.hid (OrH.start w s n d t m c)
  have hf := two_pt H.out.x H.out.y
  obtain ⟨f1, f2, f3, f4, f5, f6⟩ := hf
  have hlo := H.out.hlo
  clear hd hc hn hm hh1 hl1 hh2 hl2 hz hy
  go_enter Tryz.func104, Tryz.ntmps104
  go_upto_region 1 with fail
  go_cut [5, 6] from 7 to 17 (fun a b wx => ∃ (G K : Nat), a = .pointer (some ⟨G, 0, none⟩) ∧ b = .pointer (some ⟨K, 0, none⟩) ∧ OsH w wx s n d t m c G h1 l1 K h2 l2)
  case first =>
    go_region_held3 (fun w' => w'.cell? ⟨w.heap.size, 0, none⟩ = some (.bool s) ∧ w'.cell? ⟨w.heap.size, 1, none⟩ = some (.int .u64 (n : Int)) ∧ w'.cell? ⟨w.heap.size, 2, none⟩ = some (.int .u64 (d : Int)) ∧
        w'.cell? ⟨w.heap.size + 1, 0, none⟩ = some (.bool t) ∧ w'.cell? ⟨w.heap.size + 1, 1, none⟩ = some (.int .u64 (m : Int)) ∧ w'.cell? ⟨w.heap.size + 1, 2, none⟩ = some (.int .u64 (c : Int)))
      (first | (refine two_pt ?_ ?_ <;> (repeat (first | with_reducible exact H.out.x | with_reducible exact H.out.y | with_reducible refine Pt.drew ?_ | with_reducible refine Pt.alloc ?_ _ | (with_reducible refine Pt.far2 ?_ (by omega)))); done) | go_keep)
      (first
        | (go_at_call 120; (with_reducible refine (HM1.out _).mono ?_); rintro e w2 ⟨rfl, hb⟩; (first | (with_reducible have H := Lib.hid (H.out.next hb)) | (with_reducible have H := Lib.hid (H.out.drew.next hb)) | (with_reducible have H := Lib.hid (H.out.alloc.next hb)) | (with_reducible have H := Lib.hid (H.out.alloc.drew.next hb)) | (with_reducible have H := Lib.hid (H.out.drew.alloc.next hb)) | (with_reducible have H := Lib.hid (H.out.alloc.alloc.next hb)) | (with_reducible have H := Lib.hid (H.out.alloc.alloc.drew.next hb)) | (with_reducible have H := Lib.hid (H.out.drew.alloc.alloc.next hb))); clear hb hlo; (try clear hls hfs hpw); have hlo := H.out.hlo; have hls := H.out.los; have hfs := H.out.fs; have hpw := H.out.pw; simp only [List.forall_mem_cons, List.pairwise_cons, List.Pairwise.nil, List.not_mem_nil, false_implies, implies_true, and_true, size_a] at hls hfs hpw)
        | (go_at_call 120; (with_reducible refine (HM2.out _).mono ?_); rintro e w3 ⟨rfl, hb⟩; (first | (with_reducible have H := Lib.hid (H.out.next hb)) | (with_reducible have H := Lib.hid (H.out.drew.next hb)) | (with_reducible have H := Lib.hid (H.out.alloc.next hb)) | (with_reducible have H := Lib.hid (H.out.alloc.drew.next hb)) | (with_reducible have H := Lib.hid (H.out.drew.alloc.next hb)) | (with_reducible have H := Lib.hid (H.out.alloc.alloc.next hb)) | (with_reducible have H := Lib.hid (H.out.alloc.alloc.drew.next hb)) | (with_reducible have H := Lib.hid (H.out.drew.alloc.alloc.next hb))); clear hb hlo; (try clear hls hfs hpw); have hlo := H.out.hlo; have hls := H.out.los; have hfs := H.out.fs; have hpw := H.out.pw; simp only [List.forall_mem_cons, List.pairwise_cons, List.Pairwise.nil, List.not_mem_nil, false_implies, implies_true, and_true, size_a] at hls hfs hpw))
    all_goals
      go_wp2_with fail
      go_meet
      refine ⟨_, _, rfl, rfl, ?_⟩
      first
        | with_reducible exact H.out.put1 h1 l1 h2 l2
        | with_reducible exact H.out.put3 h1 l1 h2 l2
        | with_reducible exact H.out.put5 (by simp [size_a]) h1 l1 h2 l2
        | with_reducible exact H.out.put6 (by simp [size_a]) h1 l1 h2 l2
        | with_reducible exact H.out.put2 (by simp [size_a]) (by simp [size_a]) (by omega) h1 l1 h2 l2
        | with_reducible exact H.out.alloc.put2 (by simp [size_a]) (by simp [size_a]) (by omega) h1 l1 h2 l2
        | trace_state
  case rest =>
    obtain ⟨G, K, rfl, rfl, hL⟩ := hcut
    obtain ⟨W0, hW0⟩ : ∃ W, W = wc := ⟨_, rfl⟩
    subst wc
    have H := Lib.hid hL
    clear hL f1 f2 f3 f4 f5 f6 hlo
    obtain ⟨f1, f2, f3, f4, f5, f6⟩ := H.out.facts
    cases s <;> cases t
    all_goals
      go_wp2_with (first
        | (go_at_call 121; (with_reducible refine (HZ.out _).mono ?_); rintro e w4 ⟨rfl, hb⟩; have H := Lib.hid (H.out.next hb); clear hb)
        | (go_at_call 121; (with_reducible refine (HY.out _).mono ?_); rintro e w4 ⟨rfl, hb⟩; have H := Lib.hid (H.out.next hb); clear hb))
      go_ret
      exact ⟨rfl, H.out.bel⟩
end Go.Proofs.YtpobhegllhhdgaaGreat
namespace Go.Proofs.YtpobhegllhhdgaaGreat
open Go.RowKit

theorem cmp_nat (A B : Nat) : O.cmpI A B = cmpI (A : Int) (B : Int) := by
  unfold O.cmpI cmpI
  repeat' split
  all_goals first | rfl | omega
theorem order_val (n d m c : Int) (D C N M : Nat) (s t : Bool) (hD : (D : Int) = d) (hC : (C : Int) = c) (hN : N = n.natAbs) (hM : M = m.natAbs) (hs : s = decide (n < 0)) (ht : t = decide (m < 0)) (hd : 0 < d) (hc : 0 < c) :
    (if s then (if t then O.cmpI (M * D) (N * C) else -1) else if t then 1 else O.cmpI (N * C) (M * D)) = cmpI (n * c) (m * d) := by
  rw [cmp_nat, cmp_nat, Int.natCast_mul, Int.natCast_mul, hD, hC]
  have p1 : n < 0 → n * c < 0 := fun h => Int.mul_neg_of_neg_of_pos h hc
  have p2 : m < 0 → m * d < 0 := fun h => Int.mul_neg_of_neg_of_pos h hd
  have q1 : 0 ≤ n → 0 ≤ n * c := fun h => Int.mul_nonneg h (by omega)
  have q2 : 0 ≤ m → 0 ≤ m * d := fun h => Int.mul_nonneg h (by omega)
  by_cases h1 : n < 0
  · have e1 : (N : Int) = -n := by omega
    rw [hs, decide_eq_true h1, if_pos rfl, e1, Int.neg_mul]
    by_cases h2 : m < 0
    · have e2 : (M : Int) = -m := by omega
      rw [ht, decide_eq_true h2, if_pos rfl, e2, Int.neg_mul]
      unfold cmpI
      repeat' split
      all_goals first | rfl | omega
    · have a := p1 h1
      have b := q2 (by omega)
      rw [ht, decide_eq_false h2, if_neg (by simp)]
      unfold cmpI
      rw [if_pos (by omega)]
  · have e1 : (N : Int) = n := by omega
    rw [hs, decide_eq_false h1, if_neg (by simp), e1]
    by_cases h2 : m < 0
    · have a := q1 (by omega)
      have b := p2 h2
      rw [ht, decide_eq_true h2, if_pos rfl]
      unfold cmpI
      rw [if_neg (by omega), if_pos (by omega)]
    · have e2 : (M : Int) = m := by omega
      rw [ht, decide_eq_false h2, if_neg (by simp), e2]
theorem p_order (s t : Bool) (n d m c : Nat) (w : World) (hd : d < 18446744073709551616) (hc : c < 18446744073709551616) (hn : n < 18446744073709551616) (hm : m < 18446744073709551616) :
    Calls Tryz.prog 104 #[.agg #[.bool s, .int .u64 (n : Int), .int .u64 (d : Int)], .agg #[.bool t, .int .u64 (m : Int), .int .u64 (c : Int)]] w fun e w' => e = .returned (.int .i64 (if s then (if t then O.cmpI (m * d) (n * c) else -1) else if t then 1 else O.cmpI (n * c) (m * d))) ∧ Below w.heap.size w w' :=
  order_core s t n d m c _ _ _ _ _ _ w hd hc hn hm rfl rfl rfl rfl rfl rfl
set_option maxHeartbeats 4000000 in
theorem p_cmp (n d m c : Int) (w : World) (hn : Fit n) (hd : Fit d) (hm : Fit m) (hc : Fit c) : Calls Tryz.prog 80 #[.agg #[.int .i64 n, .int .i64 d], .agg #[.int .i64 m, .int .i64 c]] w fun e w' => e = .returned (.tuple #[.int .i64 (cmpR n d m c).1, .int .i64 (cmpR n d m c).2]) ∧ Below w.heap.size w w' := by
  have H := Lib.hid (BtH.start w n d m c)
  obtain ⟨f1, f2, f3, f4⟩ := H.out.facts
  have HA := Lib.hid (fun W => p_may n d W hn hd)
  have HB := Lib.hid (fun W => p_may m c W hm hc)
  by_cases h1 : Maybe n d
  · rw [decide_eq_true h1] at HA
    by_cases h2 : Maybe m c
    · rw [decide_eq_true h2] at HB
      have HE := Lib.hid (show cmpR n d m c = (cmpI (n * c) (m * d), 0) from if_pos ⟨h1, h2⟩)
      rw [HE.out]
      obtain ⟨hD0, hDl, hDe⟩ := pos_abs hd h1.1
      obtain ⟨hC0, hCl, hCe⟩ := pos_abs hc h2.1
      have hN := fit_abs hn
      have hM := fit_abs hm
      have hv := order_val n d m c d.natAbs c.natAbs n.natAbs m.natAbs _ _ hDe hCe rfl rfl rfl rfl h1.1 h2.1
      obtain ⟨s, hs⟩ : ∃ s, s = decide (n < 0) := ⟨_, rfl⟩
      obtain ⟨t, ht⟩ : ∃ t, t = decide (m < 0) := ⟨_, rfl⟩
      have HOA := Lib.hid (fun W => p_open n d W hn hd h1.1)
      have HOB := Lib.hid (fun W => p_open m c W hm hc h2.1)
      have HS := Lib.hid (fun W => p_order (decide (n < 0)) (decide (m < 0)) n.natAbs d.natAbs m.natAbs c.natAbs W (by omega) (by omega) (by omega) (by omega))
      rw [hv] at HS
      obtain ⟨z, hz⟩ : ∃ z, z = cmpI (n * c) (m * d) := ⟨_, rfl⟩
      rw [← hz] at HS
      rw [← hz]
      rw [← hs] at HOA HS
      rw [← ht] at HOB HS
      obtain ⟨N, hNe⟩ : ∃ N, N = n.natAbs := ⟨_, rfl⟩
      obtain ⟨D, hDd⟩ : ∃ N, N = d.natAbs := ⟨_, rfl⟩
      obtain ⟨M, hMe⟩ : ∃ N, N = m.natAbs := ⟨_, rfl⟩
      obtain ⟨C, hCd⟩ : ∃ N, N = c.natAbs := ⟨_, rfl⟩
      rw [← hNe, ← hDd] at HOA
      rw [← hMe, ← hCd] at HOB
      rw [← hNe, ← hDd, ← hMe, ← hCd] at HS
      by_cases hq : n = m ∧ d = c
      · obtain ⟨rfl, rfl⟩ := hq
        have HZ := Lib.hid (show z = 0 by rw [hz]; unfold cmpI; rw [if_neg (by omega), if_neg (by omega)])
        rw [HZ.out]
        clear hv hs ht hz hNe hDd hMe hCd h1 h2 hD0 hDl hDe hC0 hCl hCe hN hM hn hd hm hc
        go_enter Tryz.func80, Tryz.ntmps80
        go_wp2_with (first
          | (go_at_call 39; (with_reducible refine (HA.out _).mono ?_); rintro e w1 ⟨rfl, hb⟩; have H := Lib.hid (H.out.next hb); clear f1 f2 f3 f4 hb; obtain ⟨f1, f2, f3, f4⟩ := H.out.facts)
          | (go_at_call 39; (with_reducible refine (HB.out _).mono ?_); rintro e w1 ⟨rfl, hb⟩; have H := Lib.hid (H.out.next hb); clear f1 f2 f3 f4 hb; obtain ⟨f1, f2, f3, f4⟩ := H.out.facts))
        go_ret2
        exact ⟨rfl, H.out.bel⟩
      · have hb : (n == m && d == c) = false := by
          rw [Bool.eq_false_iff]
          intro h
          simp at h
          exact hq h
        have HQ := Lib.hid hb
        clear hv hs ht hz hNe hDd hMe hCd h1 h2 hD0 hDl hDe hC0 hCl hCe hN hM hn hd hm hc hb
        have main : ∀ b1 b2 : Bool, (n == m) = b1 → (d == c) = b2 → (b1 && b2) = false → Calls Tryz.prog 80 #[.agg #[.int .i64 n, .int .i64 d], .agg #[.int .i64 m, .int .i64 c]] w fun e w' => e = .returned (.tuple #[.int .i64 z, .int .i64 0]) ∧ Below w.heap.size w w' := by
          intro b1 b2 e1 e2 e3
          clear hq
          cases b1 <;> cases b2
          case true.true => cases e3
          all_goals
            clear e3
            go_enter Tryz.func80, Tryz.ntmps80
            go_wp2_with (first
              | (go_at_call 39; (with_reducible refine (HA.out _).mono ?_); rintro e w1 ⟨rfl, hb⟩; have H := Lib.hid (H.out.next hb); clear f1 f2 f3 f4 hb; obtain ⟨f1, f2, f3, f4⟩ := H.out.facts)
              | (go_at_call 39; (with_reducible refine (HB.out _).mono ?_); rintro e w1 ⟨rfl, hb⟩; have H := Lib.hid (H.out.next hb); clear f1 f2 f3 f4 hb; obtain ⟨f1, f2, f3, f4⟩ := H.out.facts))
            go_region_held3 (fun w' => w'.cell? ⟨w.heap.size, 0, none⟩ = some (.int .i64 n) ∧ w'.cell? ⟨w.heap.size, 1, none⟩ = some (.int .i64 d) ∧ w'.cell? ⟨w.heap.size + 1, 0, none⟩ = some (.int .i64 m) ∧ w'.cell? ⟨w.heap.size + 1, 1, none⟩ = some (.int .i64 c))
              (first | with_reducible exact H.out.facts | with_reducible exact H.out.drew.facts | go_keep)
              (first
              | (go_at_call 105; (with_reducible refine (HOA.out _).mono ?_); rintro e w2 ⟨rfl, hb⟩; (first | (with_reducible have H := Lib.hid (H.out.next hb)) | (with_reducible have H := Lib.hid (H.out.drew.next hb))); clear hb)
              | (go_at_call 105; (with_reducible refine (HOB.out _).mono ?_); rintro e w3 ⟨rfl, hb⟩; (first | (with_reducible have H := Lib.hid (H.out.next hb)) | (with_reducible have H := Lib.hid (H.out.drew.next hb))); clear hb)
              | (go_at_call 104; (with_reducible refine (HS.out _).mono ?_); rintro e w4 ⟨rfl, hb⟩; (first | (with_reducible have H := Lib.hid (H.out.next hb)) | (with_reducible have H := Lib.hid (H.out.drew.next hb))); clear hb))
            all_goals
              go_wp2_with fail
              go_ret2
              exact ⟨rfl, H.out.bel⟩
        exact main _ _ rfl rfl HQ.out
    · rw [decide_eq_false h2] at HB
      have HE := Lib.hid (show cmpR n d m c = (0, 1) from if_neg fun h => h2 h.2)
      rw [HE.out]
      clear h1 h2 hn hd hm hc
      go_enter Tryz.func80, Tryz.ntmps80
      go_wp2_with (first
        | (go_at_call 39; (with_reducible refine (HA.out _).mono ?_); rintro e w1 ⟨rfl, hb⟩; have H := Lib.hid (H.out.next hb); clear f1 f2 f3 f4 hb; obtain ⟨f1, f2, f3, f4⟩ := H.out.facts)
        | (go_at_call 39; (with_reducible refine (HB.out _).mono ?_); rintro e w1 ⟨rfl, hb⟩; have H := Lib.hid (H.out.next hb); clear f1 f2 f3 f4 hb; obtain ⟨f1, f2, f3, f4⟩ := H.out.facts))
      go_ret2
      exact ⟨rfl, H.out.bel⟩
  · rw [decide_eq_false h1] at HA
    have HE := Lib.hid (show cmpR n d m c = (0, 1) from if_neg fun h => h1 h.1)
    rw [HE.out]
    clear h1 hn hd hm hc
    go_enter Tryz.func80, Tryz.ntmps80
    go_wp2_with (go_at_call 39; (with_reducible refine (HA.out _).mono ?_); rintro e w1 ⟨rfl, hb⟩; have H := Lib.hid (H.out.next hb); clear f1 f2 f3 f4 hb; obtain ⟨f1, f2, f3, f4⟩ := H.out.facts)
    go_ret2
    exact ⟨rfl, H.out.bel⟩
end Go.Proofs.YtpobhegllhhdgaaGreat
