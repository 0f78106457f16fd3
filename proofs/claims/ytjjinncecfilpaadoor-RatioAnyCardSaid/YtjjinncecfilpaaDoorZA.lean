/- Proved here: what package ratio's absolute, common, open, negated and upended answer. Condition: numbers of 64 bits. · what package ratio's open, May and down answer. Condition: numbers of 64 bits. -/
import Derived.Test.YtjjinncecfilpaaDoorXa
import Derived.Test.YtjjinncecfilpaaDoorOA
namespace Go.Proofs.YtjjinncecfilpaaDoor
open Go.RowKit

theorem p_abs (n : Int) (w : World) (h : Fit n) : Calls Tryd.prog 31 #[.int .i64 n] w fun e w' => e = .returned (.int .u64 (n.natAbs : Int)) ∧ w = w' := by
  obtain ⟨h1, h2⟩ := h
  by_cases h : n < 0
  · have hd : decide (n < 0) = true := decide_eq_true h
    go_enter Tryd.func31, Tryd.ntmps31
    go_wp2_with fail
    go_ret
    exact ⟨ret_int (by rw [wrap_u64m, wrap_u64m]; omega), rfl⟩
  · have hd : decide (n < 0) = false := decide_eq_false h
    have h0 : 0 ≤ n := by omega
    go_enter Tryd.func31, Tryd.ntmps31
    go_wp2_with fail
    go_ret
    exact ⟨ret_int (by omega), rfl⟩
theorem p_gcd (a b : Nat) (w : World) (ha : a < 18446744073709551616) (hb : b < 18446744073709551616) : Calls Tryd.prog 32 #[.int .u64 (a : Int), .int .u64 (b : Int)] w fun e w' => e = .returned (.int .u64 ((a.gcd b : Nat) : Int)) ∧ w = w' := by
  go_enter Tryd.func32, Tryd.ntmps32
  go_wp2_with fail
  go_loop [0, 1] (fun s t => ∃ x y : Nat, s = .int .u64 (x : Int) ∧ t = .int .u64 (y : Int) ∧ x < 18446744073709551616 ∧ y < 18446744073709551616 ∧ x.gcd y = a.gcd b) (fun s _ => (intOf s).toNat)
  case atStart => exact ⟨a, b, rfl, rfl, ha, hb, rfl⟩
  case round =>
    obtain ⟨x, y, rfl, rfl, hx, hy, hg⟩ := hrel
    have HG := Lib.hid hg
    clear hg
    rcases Nat.eq_zero_or_pos x with h0 | h0
    · subst h0
      go_wp2_with fail
      go_ret
      exact ⟨ret_int (by rw [← HG.out, Nat.gcd_zero_left]), rfl⟩
    · have hd : ((x : Int) != 0) = true := by simp; omega
      have hz : ¬ (x : Int) = 0 := by omega
      obtain ⟨r, hr⟩ : ∃ r, r = y % x := ⟨_, rfl⟩
      have F : (y : Int) % (x : Int) = (r : Int) := by rw [hr]; simp
      have F2 : (y : Int).tmod (x : Int) = (r : Int) := by rw [Int.tmod_eq_emod_of_nonneg (Int.natCast_nonneg _), F]
      have hry : r < x := by rw [hr]; exact Nat.mod_lt _ h0
      have HR := Lib.hid hr
      clear hr
      go_wp2_with fail
      exact ⟨⟨r, x, rfl, rfl, by omega, hx, by rw [← HG.out, HR.out, ← Nat.gcd_rec]⟩, by simp [intOf]; omega⟩
/-- A fraction's sign and its two numbers as they lie in a block of their own. -/
def Pt (w : World) (g : Nat) (s : Bool) (n d : Nat) : Prop := w.heap[g]? = some (.cells #[.bool s, .int .u64 (n : Int), .int .u64 (d : Int)] 59 (0, 0))
section
variable {w w' : World} {g : Nat} {s : Bool} {n d : Nat}
theorem Pt.lt (h : Pt w g s n d) : g < w.heap.size := by
  rcases Nat.lt_or_ge g w.heap.size with hl | hl
  · exact hl
  · unfold Pt at h; rw [Array.getElem?_eq_none hl] at h; cases h
theorem Pt.c0 (h : Pt w g s n d) : w.cell? ⟨g, 0, none⟩ = some (.bool s) := cell_of_row w g 0 _ 59 (0, 0) h
theorem Pt.c1 (h : Pt w g s n d) : w.cell? ⟨g, 1, none⟩ = some (.int .u64 (n : Int)) := cell_of_row w g 1 _ 59 (0, 0) h
theorem Pt.c2 (h : Pt w g s n d) : w.cell? ⟨g, 2, none⟩ = some (.int .u64 (d : Int)) := cell_of_row w g 2 _ 59 (0, 0) h
theorem Pt.fr (h : Pt w g s n d) (j : Nat) : w.frozen? ⟨g, j, none⟩ = false := by
  unfold Pt at h
  simp [World.frozen?, h]
theorem Pt.below {B : Nat} (h : Pt w g s n d) (hb : Below B w w') (hg : g < B) : Pt w' g s n d := (hb.block g hg).trans h
theorem Pt.bel (h : Pt w g s n d) (hb : Below w.heap.size w w') : Pt w' g s n d := h.below hb h.lt
theorem Pt.new (w : World) (s : Bool) (n d : Nat) : Pt (w.alloc (.cells #[.bool s, .int .u64 (n : Int), .int .u64 (d : Int)] 59)) w.heap.size s n d := heap_alloc_new w _
theorem Pt.newg {G : Nat} (hG : G = w.heap.size) : Pt (w.alloc (.cells #[.bool s, .int .u64 (n : Int), .int .u64 (d : Int)] 59)) G s n d := hG ▸ Pt.new w s n d
theorem Pt.alloc (h : Pt w g s n d) (o : Obj) : Pt (w.alloc o) g s n d := h.below ((Below.refl _ _).alloc (Nat.le_refl _) o) h.lt
theorem Pt.drew (h : Pt w g s n d) : Pt w.drew g s n d := h
theorem Pt.set0 (h : Pt w g s n d) (x : Bool) : Pt (w.setCell ⟨g, 0, none⟩ (.bool x)) g x n d := by
  unfold Pt at h ⊢
  simp [World.setCell, Array.getElem?_modify, h]
theorem Pt.set1 (h : Pt w g s n d) (x : Nat) : Pt (w.setCell ⟨g, 1, none⟩ (.int .u64 (x : Int))) g s x d := by
  unfold Pt at h ⊢
  simp [World.setCell, Array.getElem?_modify, h]
theorem Pt.set2 (h : Pt w g s n d) (x : Nat) : Pt (w.setCell ⟨g, 2, none⟩ (.int .u64 (x : Int))) g s n x := by
  unfold Pt at h ⊢
  simp [World.setCell, Array.getElem?_modify, h]
theorem Pt.set (h : Pt w g s n d) (x : Bool) (y z : Nat) : Pt (((w.setCell ⟨g, 0, none⟩ (.bool x)).setCell ⟨g, 1, none⟩ (.int .u64 (y : Int))).setCell ⟨g, 2, none⟩ (.int .u64 (z : Int))) g x y z := ((h.set0 x).set1 y).set2 z
theorem Pt.far (h : Pt w g s n d) {p : Addr} (hp : g ≠ p.block) (u : Value) : Pt (w.setCell p u) g s n d := (Below.heap_setCell w p u g hp).trans h
end
theorem ret_pt {fn : Func} {p : Tmp} {tmps : Array Value} {W : World} {g : Nat} {s : Bool} {n d : Nat} (h : fn.results = #[.cell p 59]) (hp : tmps.getD p undef = .pointer (some ⟨g, 0, none⟩)) (hb : Pt W g s n d) :
    (results fn tmps).run Tryd.prog W = .ok (.agg #[.bool s, .int .u64 (n : Int), .int .u64 (d : Int)]) W := by
  have hc0 := hb.c0
  have hc1 := hb.c1
  have hc2 := hb.c2
  rw [Array.getD_eq_getD_getElem?] at hp
  simp [results, h, hp, go_sem, hc0, hc1, hc2]
/-- What a call answers that makes a fraction with its sign beside it. -/
def PtE (s : Bool) (n d : Nat) (w : World) (e : Ending) (w' : World) : Prop := e = .returned (.agg #[.bool s, .int .u64 (n : Int), .int .u64 (d : Int)]) ∧ Below w.heap.size w w'
theorem p_neg (s : Bool) (n d : Nat) (w : World) : Calls Tryd.prog 40 #[.agg #[.bool s, .int .u64 (n : Int), .int .u64 (d : Int)]] w (PtE (!s) n d w) := by
  have HB := Lib.hid (bel_tr (bel_a w (.cells #[.bool s, .int .u64 (n : Int), .int .u64 (d : Int)] 59)) (bel_a _ (.cells #[.bool (!s), .int .u64 (n : Int), .int .u64 (d : Int)] 59)))
  go_enter Tryd.func40, Tryd.ntmps40
  go_wp2_with fail
  exact bodyPost_ret (ret_pt rfl rfl (Pt.newg (by simp))) rfl ⟨rfl, HB.out⟩
theorem p_up (s : Bool) (n d : Nat) (w : World) : Calls Tryd.prog 42 #[.agg #[.bool s, .int .u64 (n : Int), .int .u64 (d : Int)]] w (PtE s d n w) := by
  have HB := Lib.hid (bel_tr (bel_a w (.cells #[.bool s, .int .u64 (n : Int), .int .u64 (d : Int)] 59)) (bel_a _ (.cells #[.bool s, .int .u64 (d : Int), .int .u64 (n : Int)] 59)))
  go_enter Tryd.func42, Tryd.ntmps42
  go_wp2_with fail
  exact bodyPost_ret (ret_pt rfl rfl (Pt.newg (by simp))) rfl ⟨rfl, HB.out⟩
end Go.Proofs.YtjjinncecfilpaaDoor
namespace Go.Proofs.YtjjinncecfilpaaDoor
open Go.RowKit

/-- A fraction in its box, and the answer's box behind it. -/
structure OpH (w W : World) (n d : Int) (s : Bool) (a b : Nat) : Prop where
  ba : Rt W w.heap.size n d
  rr : Pt W (w.heap.size + 1) s a b
  bel : Below w.heap.size w W
section
variable {w W W' : World} {n d : Int} {s : Bool} {a b : Nat}
theorem OpH.mk' (w : World) (n d : Int) (s : Bool) (a b : Nat) : OpH w ((w.alloc (.cells #[.int .i64 n, .int .i64 d] 24)).alloc (.cells #[.bool s, .int .u64 (a : Int), .int .u64 (b : Int)] 59)) n d s a b :=
  ⟨(Rt.new w n d).alloc _, Pt.newg (by simp), bel_tr (bel_a w _) (bel_a _ _)⟩
theorem OpH.start (w : World) (n d : Int) : OpH w ((w.alloc (.cells #[.int .i64 n, .int .i64 d] 24)).alloc (.cells #[.bool false, .int .u64 0, .int .u64 0] 59)) n d false 0 0 := OpH.mk' w n d false 0 0
theorem OpH.drew (h : OpH w W n d s a b) : OpH w W.drew n d s a b := ⟨h.ba, h.rr, h.bel.drew⟩
theorem OpH.facts (h : OpH w W n d s a b) : W.cell? ⟨w.heap.size, 0, none⟩ = some (.int .i64 n) ∧ W.cell? ⟨w.heap.size, 1, none⟩ = some (.int .i64 d) := ⟨h.ba.c0, h.ba.c1⟩
theorem OpH.res (h : OpH w W n d s a b) : W.cell? ⟨w.heap.size + 1, 0, none⟩ = some (.bool s) ∧ W.cell? ⟨w.heap.size + 1, 1, none⟩ = some (.int .u64 (a : Int)) ∧ W.cell? ⟨w.heap.size + 1, 2, none⟩ = some (.int .u64 (b : Int)) ∧
    W.frozen? ⟨w.heap.size + 1, 0, none⟩ = false ∧ W.frozen? ⟨w.heap.size + 1, 1, none⟩ = false ∧ W.frozen? ⟨w.heap.size + 1, 2, none⟩ = false := ⟨h.rr.c0, h.rr.c1, h.rr.c2, h.rr.fr 0, h.rr.fr 1, h.rr.fr 2⟩
theorem OpH.put (h : OpH w W n d s a b) (x : Bool) (y z : Nat) : OpH w (((W.setCell ⟨w.heap.size + 1, 0, none⟩ (.bool x)).setCell ⟨w.heap.size + 1, 1, none⟩ (.int .u64 (y : Int))).setCell ⟨w.heap.size + 1, 2, none⟩ (.int .u64 (z : Int))) n d x y z :=
  ⟨((h.ba.far (by show _ ≠ _; simp) _).far (by show _ ≠ _; simp) _).far (by show _ ≠ _; simp) _, h.rr.set x y z, bel_set (bel_set (bel_set h.bel (by omega) _ _) (by omega) _ _) (by omega) _ _⟩
end
set_option maxHeartbeats 2000000 in
theorem p_open (n d : Int) (w : World) (hn : Fit n) (hd : Fit d) (h0 : 0 < d) : Calls Tryd.prog 39 #[.agg #[.int .i64 n, .int .i64 d]] w (PtE (decide (n < 0)) n.natAbs d.natAbs w) := by
  have H := Lib.hid (OpH.start w n d)
  obtain ⟨f1, f2⟩ := H.out.facts
  obtain ⟨k1, k2, k3, k4, k5, k6⟩ := H.out.res
  obtain ⟨s, hs⟩ : ∃ s, decide (n < 0) = s := ⟨_, rfl⟩
  obtain ⟨a, ha⟩ : ∃ a, a = n.natAbs := ⟨_, rfl⟩
  obtain ⟨b, hb⟩ : ∃ b, b = d.natAbs := ⟨_, rfl⟩
  have F : IntKind.u64.wrap d = (b : Int) := by rw [hb, wrap_u64m]; have := hd.2; omega
  have HA := Lib.hid (fun W => p_abs n W hn)
  rw [← ha] at HA
  rw [hs, ← ha, ← hb]
  clear ha hb hn hd h0
  go_enter Tryd.func39, Tryd.ntmps39
  go_wp2_with fail
  go_region_held3 (fun w' => w'.cell? ⟨w.heap.size, 0, none⟩ = some (.int .i64 n) ∧ w'.cell? ⟨w.heap.size, 1, none⟩ = some (.int .i64 d))
    (first | with_reducible exact H.out.facts | with_reducible exact H.out.drew.facts | with_reducible exact (H.out.put s a b).facts | go_keep)
    (first | (go_at_call 31; (with_reducible refine (HA.out _).mono ?_); rintro e w1 ⟨rfl, rfl⟩))
  all_goals
    go_wp2_with fail
    exact bodyPost_ret (ret_pt rfl rfl (OpH.mk' w n d s a b).drew.rr) rfl ⟨rfl, (OpH.mk' w n d s a b).drew.bel⟩
set_option maxHeartbeats 1000000 in
theorem p_may (n d : Int) (w : World) (hn : Fit n) (hd : Fit d) : Calls Tryd.prog 11 #[.agg #[.int .i64 n, .int .i64 d]] w fun e w' => e = .returned (.bool (decide (Maybe n d))) ∧ Below w.heap.size w w' := by
  by_cases h0 : 0 < d
  · have hd0 : decide (0 < d) = true := decide_eq_true h0
    obtain ⟨x, hx⟩ : ∃ x, x = n.natAbs.gcd d.natAbs := ⟨_, rfl⟩
    have HR := Lib.hid (show ((x : Int) == 1) = decide (Maybe n d) by rw [Bool.eq_iff_iff]; simp [Maybe, h0, ← hx]; omega)
    have HC := Lib.hid (fun W => (p_gcd n.natAbs d.natAbs W (by have := hn.1; have := hn.2; omega) (by have := hd.1; have := hd.2; omega)).mono fun _ _ (h : _ ∧ W = _) => (⟨h.1, h.2.symm⟩ : _ ∧ _ = W))
    rw [← hx] at HC
    obtain ⟨b, hb⟩ : ∃ b, b = d.natAbs := ⟨_, rfl⟩
    have F : IntKind.u64.wrap d = (b : Int) := by rw [hb, wrap_u64m]; have := hd.2; omega
    rw [← hb] at HC
    have HN := Lib.hid (fun W => (p_abs n W hn).mono fun _ _ (h : _ ∧ W = _) => (⟨h.1, h.2.symm⟩ : _ ∧ _ = W))
    have HB := Lib.hid (Rt.new w n d)
    have f1 := HB.out.c0
    have f2 := HB.out.c1
    clear hx hb hn hd
    go_enter Tryd.func11, Tryd.ntmps11
    go_wp2_with fail
    go_quiet (first
      | (go_at_call 31; with_reducible exact Calls.quiet_of_same (HN.out _))
      | (go_at_call 32; with_reducible exact Calls.quiet_of_same (HC.out _)))
    go_wp2_with fail
    go_ret
    exact ⟨by rw [HR.out]; rfl, below_drewN (bel_a w _) nq⟩
  · have hd0 : decide (0 < d) = false := decide_eq_false h0
    have hr : decide (Maybe n d) = false := decide_eq_false fun h => h0 h.1
    have HB := Lib.hid (Rt.new w n d)
    have f1 := HB.out.c0
    have f2 := HB.out.c1
    go_enter Tryd.func11, Tryd.ntmps11
    go_wp2_with fail
    go_quiet (fail)
    go_wp2_with fail
    go_ret
    exact ⟨by rw [hr]; rfl, below_drewN (bel_a w _) nq⟩
end Go.Proofs.YtjjinncecfilpaaDoor
