/- Proved here: what the document's head, maxp and hhea answer. Condition: texts of at most a billion bytes. -/
import Derived.Test.YtphnapnmeidgkaaHf
namespace Go.Proofs.Ytphnapnmeidgkaa
open Go.RowKit

theorem PS.start2 (w : World) (h : Hd) : PS w ((w.alloc (.cells #[.int .i64 h.em, .bool h.lg, .int .i64 h.gl, .int .i64 h.me, .int .i64 h.a1, .int .i64 h.a2, .int .i64 h.a3] 23)).alloc (.cells #[.int .i64 0, .bool false, .int .i64 0, .int .i64 0, .int .i64 0, .int .i64 0, .int .i64 0] 23)) (w.heap.size + 1) w.heap.size Hd.zero h := by
  refine ⟨((Below.refl _ _).alloc (Nat.le_refl _) _).alloc (by simp) _, by omega, Nat.le_refl _, by omega, ?_, ?_⟩
  · have h := HB.new (w.alloc (.cells #[.int .i64 h.em, .bool h.lg, .int .i64 h.gl, .int .i64 h.me, .int .i64 h.a1, .int .i64 h.a2, .int .i64 h.a3] 23))
    simpa using h
  · exact (show HB (w.alloc (.cells #[.int .i64 h.em, .bool h.lg, .int .i64 h.gl, .int .i64 h.me, .int .i64 h.a1, .int .i64 h.a2, .int .i64 h.a3] 23)) w.heap.size h from heap_alloc_new w _).bel ((Below.refl _ _).alloc (Nat.le_refl _) _)
/-- What is read, if there is no error. -/
def Ok0 (e : Nat) (k t : Hd) : Prop := e = 0 → k = t
theorem ne_symm {a b : Nat} (h : a ≠ b) : ¬ b = a := fun e => h e.symm
section
variable {w W : World} {b g : Nat} {r k : Hd}
theorem PS.set0 (h : PS w W b g r k) (x : Int) : PS w (W.setCell ⟨g, 0, none⟩ (.int .i64 x)) b g r { k with em := x } := ⟨h.bel.setCell h.og _, h.ob, h.og, h.ne, h.res.far h.ne, h.box.set0 x⟩
theorem PS.set1 (h : PS w W b g r k) (x : Bool) : PS w (W.setCell ⟨g, 1, none⟩ (.bool x)) b g r { k with lg := x } := ⟨h.bel.setCell h.og _, h.ob, h.og, h.ne, h.res.far h.ne, h.box.set1 x⟩
theorem PS.set2 (h : PS w W b g r k) (x : Int) : PS w (W.setCell ⟨g, 2, none⟩ (.int .i64 x)) b g r { k with gl := x } := ⟨h.bel.setCell h.og _, h.ob, h.og, h.ne, h.res.far h.ne, h.box.set2 x⟩
theorem PS.set3 (h : PS w W b g r k) (x : Int) : PS w (W.setCell ⟨g, 3, none⟩ (.int .i64 x)) b g r { k with me := x } := ⟨h.bel.setCell h.og _, h.ob, h.og, h.ne, h.res.far h.ne, h.box.set3 x⟩
theorem PS.set4 (h : PS w W b g r k) (x : Int) : PS w (W.setCell ⟨g, 4, none⟩ (.int .i64 x)) b g r { k with a1 := x } := ⟨h.bel.setCell h.og _, h.ob, h.og, h.ne, h.res.far h.ne, h.box.set4 x⟩
theorem PS.set5 (h : PS w W b g r k) (x : Int) : PS w (W.setCell ⟨g, 5, none⟩ (.int .i64 x)) b g r { k with a2 := x } := ⟨h.bel.setCell h.og _, h.ob, h.og, h.ne, h.res.far h.ne, h.box.set5 x⟩
theorem PS.set6 (h : PS w W b g r k) (x : Int) : PS w (W.setCell ⟨g, 6, none⟩ (.int .i64 x)) b g r { k with a3 := x } := ⟨h.bel.setCell h.og _, h.ob, h.og, h.ne, h.res.far h.ne, h.box.set6 x⟩
end
set_option maxHeartbeats 4000000 in
theorem rhead_any (s : ByteArray) (h : Hd) (d : List UInt8) (w : World) (hs : s.size ≤ 1000000000) (hdl : s.data.toList = d) :
    Calls Try.prog 27 #[.string s, .agg #[.int .i64 h.em, .bool h.lg, .int .i64 h.gl, .int .i64 h.me, .int .i64 h.a1, .int .i64 h.a2, .int .i64 h.a3]] w fun e w' => ∃ k, e = .returned (.tuple #[Hd.val k, .int .i64 (headE d : Int)]) ∧ Below w.heap.size w w' ∧ Ok0 (headE d) k (h1 d h) := by
  have hz : d.length = s.size := by rw [← hdl, size_list]
  by_cases hl : s.size < 54
  · have e0 : headE d = 3 := by unfold headE; rw [if_pos (by omega)]
    rw [e0]
    have dl : decide ((s.size : Int) < 54) = true := decide_eq_true (by omega)
    clear hs hdl hz hl e0
    go_enter Try.func27, Try.ntmps27
    go_upto_region 1 with fail
    have S0 := Lib.hid (PS.start2 w h)
    obtain ⟨g, hg⟩ : ∃ g, g = w.heap.size := ⟨_, rfl⟩
    obtain ⟨b, hb⟩ : ∃ b, b = w.heap.size + 1 := ⟨_, rfl⟩
    obtain ⟨W0, hW0⟩ : ∃ W, W = ((w.alloc (.cells #[.int .i64 h.em, .bool h.lg, .int .i64 h.gl, .int .i64 h.me, .int .i64 h.a1, .int .i64 h.a2, .int .i64 h.a3] 23)).alloc (.cells #[.int .i64 0, .bool false, .int .i64 0, .int .i64 0, .int .i64 0, .int .i64 0, .int .i64 0] 23)) := ⟨_, rfl⟩
    have S0 := Lib.hid (show PS w W0 b g Hd.zero h by rw [hW0, hb, hg]; exact S0.out)
    rw [← hb, ← hg, ← hW0]
    clear hb hg hW0
    have nbg : ¬ b = g := S0.out.ne
    have ngb : ¬ g = b := ne_symm S0.out.ne
    obtain ⟨c0, c1, c2, c3, c4, c5, c6⟩ := S0.out.box.cells
    obtain ⟨r0, r1, r2, r3, r4, r5, r6⟩ := S0.out.box.frs
    obtain ⟨d0, d1, d2, d3, d4, d5, d6⟩ := S0.out.res.cells
    obtain ⟨s0, s1, s2, s3, s4, s5, s6⟩ := S0.out.res.frs
    go_wp2_with fail
    exact bodyPost_ret (ret_hd rfl rfl rfl (S0.out.res.put h)) rfl ⟨h, rfl, S0.out.out h, fun h => absurd h (by decide)⟩
  · have dl : decide ((s.size : Int) < 54) = false := decide_eq_false (by omega)
    have p18 := fun W => r16_any s 18 18 rfl W hs (by omega)
    have p0 := fun W => r16_any s 0 0 rfl W hs (by omega)
    have p2 := fun W => r16_any s 2 2 rfl W hs (by omega)
    have p50 := fun W => r16_any s 50 50 rfl W hs (by omega)
    have p52 := fun W => r16_any s 52 52 rfl W hs (by omega)
    have p12 := fun W => r32_any s 12 12 rfl W hs (by omega)
    have hbb := n4_two (l := d) (a := 0) (by omega)
    have hb2 := n2_lt d 2
    rw [hdl] at p18 p0 p2 p50 p52 p12
    unfold headE h1
    rw [if_neg (by omega)]
    have v0 := n2_lt d 0
    rw [show 0 + 2 = 2 from rfl] at hbb
    obtain ⟨x, hx⟩ : ∃ x, x = n2 d 18 := ⟨_, rfl⟩
    obtain ⟨y, hy⟩ : ∃ x, x = n2 d 50 := ⟨_, rfl⟩
    obtain ⟨u, hu⟩ : ∃ x, x = n2 d 52 := ⟨_, rfl⟩
    obtain ⟨a, ha⟩ : ∃ x, x = n2 d 0 := ⟨_, rfl⟩
    obtain ⟨c, hc⟩ : ∃ x, x = n2 d 2 := ⟨_, rfl⟩
    obtain ⟨q, hq⟩ : ∃ x, x = n4 d 12 := ⟨_, rfl⟩
    obtain ⟨z, hzz⟩ : ∃ x, x = n4 d 0 := ⟨_, rfl⟩
    rw [← hx] at p18 ⊢
    rw [← hy] at p50 ⊢
    rw [← hu] at p52 ⊢
    rw [← ha] at p0 hbb v0
    rw [← hc] at p2 hbb hb2
    rw [← hq] at p12 ⊢
    rw [← hzz] at hbb ⊢
    have hyb := nat_eqb y 1
    rw [show ((1 : Nat) : Int) = 1 from rfl] at hyb
    obtain ⟨yb, hyb1⟩ : ∃ b, b = decide (y = 1) := ⟨_, rfl⟩
    rw [← hyb1] at hyb ⊢
    have P18 := Lib.hid p18
    have P50 := Lib.hid p50
    have P52 := Lib.hid p52
    have P0 := Lib.hid p0
    have P2 := Lib.hid p2
    have P12 := Lib.hid p12
    clear p18 p50 p52 p0 p2 p12 hx hy hu ha hc hq hzz hyb1 hs hdl hz hl
    by_cases k0 : a = 1
    · have e0' : ((a : Int) != 1) = false := by simp; omega
      by_cases k1 : c = 0
      · have e1' : ((c : Int) != 0) = false := by simp; omega
        by_cases k2 : q = 1594834165
        · have e2' : ((q : Int) != 1594834165) = false := by simp; omega
          by_cases k3 : 16 ≤ x
          · have e3' : decide ((x : Int) < 16) = false := decide_eq_false (by omega)
            by_cases k4 : x ≤ 16384
            · have e4' : decide (16384 < (x : Int)) = false := decide_eq_false (by omega)
              by_cases k5 : y ≤ 1
              · have e5' : decide (1 < (y : Int)) = false := decide_eq_false (by omega)
                by_cases k6 : u = 0
                · have e6' : ((u : Int) != 0) = false := by simp; omega
                  rw [if_pos (by omega)]
                  clear k0 k1 k2 k3 k4 k5 k6 hbb hb2 v0
                  go_enter Try.func27, Try.ntmps27
                  go_upto_region 1 with fail
                  have S0 := Lib.hid (PS.start2 w h)
                  obtain ⟨g, hg⟩ : ∃ g, g = w.heap.size := ⟨_, rfl⟩
                  obtain ⟨b, hb⟩ : ∃ b, b = w.heap.size + 1 := ⟨_, rfl⟩
                  obtain ⟨W0, hW0⟩ : ∃ W, W = ((w.alloc (.cells #[.int .i64 h.em, .bool h.lg, .int .i64 h.gl, .int .i64 h.me, .int .i64 h.a1, .int .i64 h.a2, .int .i64 h.a3] 23)).alloc (.cells #[.int .i64 0, .bool false, .int .i64 0, .int .i64 0, .int .i64 0, .int .i64 0, .int .i64 0] 23)) := ⟨_, rfl⟩
                  have S0 := Lib.hid (show PS w W0 b g Hd.zero h by rw [hW0, hb, hg]; exact S0.out)
                  rw [← hb, ← hg, ← hW0]
                  clear hb hg hW0
                  have nbg : ¬ b = g := S0.out.ne
                  have ngb : ¬ g = b := ne_symm S0.out.ne
                  obtain ⟨c0, c1, c2, c3, c4, c5, c6⟩ := S0.out.box.cells
                  obtain ⟨r0, r1, r2, r3, r4, r5, r6⟩ := S0.out.box.frs
                  obtain ⟨d0, d1, d2, d3, d4, d5, d6⟩ := S0.out.res.cells
                  obtain ⟨s0, s1, s2, s3, s4, s5, s6⟩ := S0.out.res.frs
                  go_upto_region 4 with (first
                      | (go_at_call 37; (with_reducible refine (P18.out _).mono ?_); rintro e w' ⟨rfl, rfl⟩)
                      | (go_at_call 37; (with_reducible refine (P50.out _).mono ?_); rintro e w' ⟨rfl, rfl⟩)
                      | (go_at_call 37; (with_reducible refine (P52.out _).mono ?_); rintro e w' ⟨rfl, rfl⟩)
                      | (go_at_call 37; (with_reducible refine (P0.out _).mono ?_); rintro e w' ⟨rfl, rfl⟩)
                      | (go_at_call 37; (with_reducible refine (P2.out _).mono ?_); rintro e w' ⟨rfl, rfl⟩)
                      | (go_at_call 38; (with_reducible refine (P12.out _).mono ?_); rintro e w' ⟨rfl, rfl⟩))
                  have S1 := Lib.hid (S0.out.set0 (x : Int))
                  obtain ⟨W1, hW1⟩ : ∃ W, W = W0.setCell ⟨g, 0, none⟩ (.int .i64 (x : Int)) := ⟨_, rfl⟩
                  rw [← hW1] at S1 ⊢
                  clear hW1
                  clear c0 c1 c2 c3 c4 c5 c6 r0 r1 r2 r3 r4 r5 r6 d0 d1 d2 d3 d4 d5 d6 s0 s1 s2 s3 s4 s5 s6
                  obtain ⟨c0, c1, c2, c3, c4, c5, c6⟩ := S1.out.box.cells
                  obtain ⟨r0, r1, r2, r3, r4, r5, r6⟩ := S1.out.box.frs
                  obtain ⟨d0, d1, d2, d3, d4, d5, d6⟩ := S1.out.res.cells
                  obtain ⟨s0, s1, s2, s3, s4, s5, s6⟩ := S1.out.res.frs
                  go_upto_region 7 with (first
                      | (go_at_call 37; (with_reducible refine (P18.out _).mono ?_); rintro e w' ⟨rfl, rfl⟩)
                      | (go_at_call 37; (with_reducible refine (P50.out _).mono ?_); rintro e w' ⟨rfl, rfl⟩)
                      | (go_at_call 37; (with_reducible refine (P52.out _).mono ?_); rintro e w' ⟨rfl, rfl⟩)
                      | (go_at_call 37; (with_reducible refine (P0.out _).mono ?_); rintro e w' ⟨rfl, rfl⟩)
                      | (go_at_call 37; (with_reducible refine (P2.out _).mono ?_); rintro e w' ⟨rfl, rfl⟩)
                      | (go_at_call 38; (with_reducible refine (P12.out _).mono ?_); rintro e w' ⟨rfl, rfl⟩))
                  have S2 := Lib.hid (S1.out.set1 yb)
                  obtain ⟨W2, hW2⟩ : ∃ W, W = W1.setCell ⟨g, 1, none⟩ (.bool yb) := ⟨_, rfl⟩
                  rw [← hW2] at S2 ⊢
                  clear hW2
                  clear c0 c1 c2 c3 c4 c5 c6 r0 r1 r2 r3 r4 r5 r6 d0 d1 d2 d3 d4 d5 d6 s0 s1 s2 s3 s4 s5 s6
                  obtain ⟨c0, c1, c2, c3, c4, c5, c6⟩ := S2.out.box.cells
                  obtain ⟨r0, r1, r2, r3, r4, r5, r6⟩ := S2.out.box.frs
                  obtain ⟨d0, d1, d2, d3, d4, d5, d6⟩ := S2.out.res.cells
                  obtain ⟨s0, s1, s2, s3, s4, s5, s6⟩ := S2.out.res.frs
                  go_wp2_with fail
                  exact bodyPost_ret (ret_hd rfl rfl rfl (S2.out.res.put { h with em := (x : Int), lg := yb })) rfl ⟨{ h with em := (x : Int), lg := yb }, rfl, S2.out.out { h with em := (x : Int), lg := yb }, fun _ => rfl⟩
                · have e6' : ((u : Int) != 0) = true := by simp; omega
                  rw [if_neg (by omega)]
                  clear k0 k1 k2 k3 k4 k5 k6 hbb hb2 v0
                  go_enter Try.func27, Try.ntmps27
                  go_upto_region 1 with fail
                  have S0 := Lib.hid (PS.start2 w h)
                  obtain ⟨g, hg⟩ : ∃ g, g = w.heap.size := ⟨_, rfl⟩
                  obtain ⟨b, hb⟩ : ∃ b, b = w.heap.size + 1 := ⟨_, rfl⟩
                  obtain ⟨W0, hW0⟩ : ∃ W, W = ((w.alloc (.cells #[.int .i64 h.em, .bool h.lg, .int .i64 h.gl, .int .i64 h.me, .int .i64 h.a1, .int .i64 h.a2, .int .i64 h.a3] 23)).alloc (.cells #[.int .i64 0, .bool false, .int .i64 0, .int .i64 0, .int .i64 0, .int .i64 0, .int .i64 0] 23)) := ⟨_, rfl⟩
                  have S0 := Lib.hid (show PS w W0 b g Hd.zero h by rw [hW0, hb, hg]; exact S0.out)
                  rw [← hb, ← hg, ← hW0]
                  clear hb hg hW0
                  have nbg : ¬ b = g := S0.out.ne
                  have ngb : ¬ g = b := ne_symm S0.out.ne
                  obtain ⟨c0, c1, c2, c3, c4, c5, c6⟩ := S0.out.box.cells
                  obtain ⟨r0, r1, r2, r3, r4, r5, r6⟩ := S0.out.box.frs
                  obtain ⟨d0, d1, d2, d3, d4, d5, d6⟩ := S0.out.res.cells
                  obtain ⟨s0, s1, s2, s3, s4, s5, s6⟩ := S0.out.res.frs
                  go_upto_region 4 with (first
                      | (go_at_call 37; (with_reducible refine (P18.out _).mono ?_); rintro e w' ⟨rfl, rfl⟩)
                      | (go_at_call 37; (with_reducible refine (P50.out _).mono ?_); rintro e w' ⟨rfl, rfl⟩)
                      | (go_at_call 37; (with_reducible refine (P52.out _).mono ?_); rintro e w' ⟨rfl, rfl⟩)
                      | (go_at_call 37; (with_reducible refine (P0.out _).mono ?_); rintro e w' ⟨rfl, rfl⟩)
                      | (go_at_call 37; (with_reducible refine (P2.out _).mono ?_); rintro e w' ⟨rfl, rfl⟩)
                      | (go_at_call 38; (with_reducible refine (P12.out _).mono ?_); rintro e w' ⟨rfl, rfl⟩))
                  have S1 := Lib.hid (S0.out.set0 (x : Int))
                  obtain ⟨W1, hW1⟩ : ∃ W, W = W0.setCell ⟨g, 0, none⟩ (.int .i64 (x : Int)) := ⟨_, rfl⟩
                  rw [← hW1] at S1 ⊢
                  clear hW1
                  clear c0 c1 c2 c3 c4 c5 c6 r0 r1 r2 r3 r4 r5 r6 d0 d1 d2 d3 d4 d5 d6 s0 s1 s2 s3 s4 s5 s6
                  obtain ⟨c0, c1, c2, c3, c4, c5, c6⟩ := S1.out.box.cells
                  obtain ⟨r0, r1, r2, r3, r4, r5, r6⟩ := S1.out.box.frs
                  obtain ⟨d0, d1, d2, d3, d4, d5, d6⟩ := S1.out.res.cells
                  obtain ⟨s0, s1, s2, s3, s4, s5, s6⟩ := S1.out.res.frs
                  go_wp2_with (first
                      | (go_at_call 37; (with_reducible refine (P18.out _).mono ?_); rintro e w' ⟨rfl, rfl⟩)
                      | (go_at_call 37; (with_reducible refine (P50.out _).mono ?_); rintro e w' ⟨rfl, rfl⟩)
                      | (go_at_call 37; (with_reducible refine (P52.out _).mono ?_); rintro e w' ⟨rfl, rfl⟩)
                      | (go_at_call 37; (with_reducible refine (P0.out _).mono ?_); rintro e w' ⟨rfl, rfl⟩)
                      | (go_at_call 37; (with_reducible refine (P2.out _).mono ?_); rintro e w' ⟨rfl, rfl⟩)
                      | (go_at_call 38; (with_reducible refine (P12.out _).mono ?_); rintro e w' ⟨rfl, rfl⟩))
                  exact bodyPost_ret (ret_hd rfl rfl rfl (S1.out.res.put { h with em := (x : Int) })) rfl ⟨{ h with em := (x : Int) }, rfl, S1.out.out { h with em := (x : Int) }, fun h => absurd h (by decide)⟩
              · have e5' : decide (1 < (y : Int)) = true := decide_eq_true (by omega)
                rw [if_neg (by omega)]
                clear k0 k1 k2 k3 k4 k5 hbb hb2 v0
                go_enter Try.func27, Try.ntmps27
                go_upto_region 1 with fail
                have S0 := Lib.hid (PS.start2 w h)
                obtain ⟨g, hg⟩ : ∃ g, g = w.heap.size := ⟨_, rfl⟩
                obtain ⟨b, hb⟩ : ∃ b, b = w.heap.size + 1 := ⟨_, rfl⟩
                obtain ⟨W0, hW0⟩ : ∃ W, W = ((w.alloc (.cells #[.int .i64 h.em, .bool h.lg, .int .i64 h.gl, .int .i64 h.me, .int .i64 h.a1, .int .i64 h.a2, .int .i64 h.a3] 23)).alloc (.cells #[.int .i64 0, .bool false, .int .i64 0, .int .i64 0, .int .i64 0, .int .i64 0, .int .i64 0] 23)) := ⟨_, rfl⟩
                have S0 := Lib.hid (show PS w W0 b g Hd.zero h by rw [hW0, hb, hg]; exact S0.out)
                rw [← hb, ← hg, ← hW0]
                clear hb hg hW0
                have nbg : ¬ b = g := S0.out.ne
                have ngb : ¬ g = b := ne_symm S0.out.ne
                obtain ⟨c0, c1, c2, c3, c4, c5, c6⟩ := S0.out.box.cells
                obtain ⟨r0, r1, r2, r3, r4, r5, r6⟩ := S0.out.box.frs
                obtain ⟨d0, d1, d2, d3, d4, d5, d6⟩ := S0.out.res.cells
                obtain ⟨s0, s1, s2, s3, s4, s5, s6⟩ := S0.out.res.frs
                go_upto_region 4 with (first
                    | (go_at_call 37; (with_reducible refine (P18.out _).mono ?_); rintro e w' ⟨rfl, rfl⟩)
                    | (go_at_call 37; (with_reducible refine (P50.out _).mono ?_); rintro e w' ⟨rfl, rfl⟩)
                    | (go_at_call 37; (with_reducible refine (P52.out _).mono ?_); rintro e w' ⟨rfl, rfl⟩)
                    | (go_at_call 37; (with_reducible refine (P0.out _).mono ?_); rintro e w' ⟨rfl, rfl⟩)
                    | (go_at_call 37; (with_reducible refine (P2.out _).mono ?_); rintro e w' ⟨rfl, rfl⟩)
                    | (go_at_call 38; (with_reducible refine (P12.out _).mono ?_); rintro e w' ⟨rfl, rfl⟩))
                have S1 := Lib.hid (S0.out.set0 (x : Int))
                obtain ⟨W1, hW1⟩ : ∃ W, W = W0.setCell ⟨g, 0, none⟩ (.int .i64 (x : Int)) := ⟨_, rfl⟩
                rw [← hW1] at S1 ⊢
                clear hW1
                clear c0 c1 c2 c3 c4 c5 c6 r0 r1 r2 r3 r4 r5 r6 d0 d1 d2 d3 d4 d5 d6 s0 s1 s2 s3 s4 s5 s6
                obtain ⟨c0, c1, c2, c3, c4, c5, c6⟩ := S1.out.box.cells
                obtain ⟨r0, r1, r2, r3, r4, r5, r6⟩ := S1.out.box.frs
                obtain ⟨d0, d1, d2, d3, d4, d5, d6⟩ := S1.out.res.cells
                obtain ⟨s0, s1, s2, s3, s4, s5, s6⟩ := S1.out.res.frs
                go_wp2_with (first
                    | (go_at_call 37; (with_reducible refine (P18.out _).mono ?_); rintro e w' ⟨rfl, rfl⟩)
                    | (go_at_call 37; (with_reducible refine (P50.out _).mono ?_); rintro e w' ⟨rfl, rfl⟩)
                    | (go_at_call 37; (with_reducible refine (P52.out _).mono ?_); rintro e w' ⟨rfl, rfl⟩)
                    | (go_at_call 37; (with_reducible refine (P0.out _).mono ?_); rintro e w' ⟨rfl, rfl⟩)
                    | (go_at_call 37; (with_reducible refine (P2.out _).mono ?_); rintro e w' ⟨rfl, rfl⟩)
                    | (go_at_call 38; (with_reducible refine (P12.out _).mono ?_); rintro e w' ⟨rfl, rfl⟩))
                exact bodyPost_ret (ret_hd rfl rfl rfl (S1.out.res.put { h with em := (x : Int) })) rfl ⟨{ h with em := (x : Int) }, rfl, S1.out.out { h with em := (x : Int) }, fun h => absurd h (by decide)⟩
            · have e4' : decide (16384 < (x : Int)) = true := decide_eq_true (by omega)
              rw [if_neg (by omega)]
              clear k0 k1 k2 k3 k4 hbb hb2 v0
              go_enter Try.func27, Try.ntmps27
              go_upto_region 1 with fail
              have S0 := Lib.hid (PS.start2 w h)
              obtain ⟨g, hg⟩ : ∃ g, g = w.heap.size := ⟨_, rfl⟩
              obtain ⟨b, hb⟩ : ∃ b, b = w.heap.size + 1 := ⟨_, rfl⟩
              obtain ⟨W0, hW0⟩ : ∃ W, W = ((w.alloc (.cells #[.int .i64 h.em, .bool h.lg, .int .i64 h.gl, .int .i64 h.me, .int .i64 h.a1, .int .i64 h.a2, .int .i64 h.a3] 23)).alloc (.cells #[.int .i64 0, .bool false, .int .i64 0, .int .i64 0, .int .i64 0, .int .i64 0, .int .i64 0] 23)) := ⟨_, rfl⟩
              have S0 := Lib.hid (show PS w W0 b g Hd.zero h by rw [hW0, hb, hg]; exact S0.out)
              rw [← hb, ← hg, ← hW0]
              clear hb hg hW0
              have nbg : ¬ b = g := S0.out.ne
              have ngb : ¬ g = b := ne_symm S0.out.ne
              obtain ⟨c0, c1, c2, c3, c4, c5, c6⟩ := S0.out.box.cells
              obtain ⟨r0, r1, r2, r3, r4, r5, r6⟩ := S0.out.box.frs
              obtain ⟨d0, d1, d2, d3, d4, d5, d6⟩ := S0.out.res.cells
              obtain ⟨s0, s1, s2, s3, s4, s5, s6⟩ := S0.out.res.frs
              go_upto_region 4 with (first
                  | (go_at_call 37; (with_reducible refine (P18.out _).mono ?_); rintro e w' ⟨rfl, rfl⟩)
                  | (go_at_call 37; (with_reducible refine (P50.out _).mono ?_); rintro e w' ⟨rfl, rfl⟩)
                  | (go_at_call 37; (with_reducible refine (P52.out _).mono ?_); rintro e w' ⟨rfl, rfl⟩)
                  | (go_at_call 37; (with_reducible refine (P0.out _).mono ?_); rintro e w' ⟨rfl, rfl⟩)
                  | (go_at_call 37; (with_reducible refine (P2.out _).mono ?_); rintro e w' ⟨rfl, rfl⟩)
                  | (go_at_call 38; (with_reducible refine (P12.out _).mono ?_); rintro e w' ⟨rfl, rfl⟩))
              have S1 := Lib.hid (S0.out.set0 (x : Int))
              obtain ⟨W1, hW1⟩ : ∃ W, W = W0.setCell ⟨g, 0, none⟩ (.int .i64 (x : Int)) := ⟨_, rfl⟩
              rw [← hW1] at S1 ⊢
              clear hW1
              clear c0 c1 c2 c3 c4 c5 c6 r0 r1 r2 r3 r4 r5 r6 d0 d1 d2 d3 d4 d5 d6 s0 s1 s2 s3 s4 s5 s6
              obtain ⟨c0, c1, c2, c3, c4, c5, c6⟩ := S1.out.box.cells
              obtain ⟨r0, r1, r2, r3, r4, r5, r6⟩ := S1.out.box.frs
              obtain ⟨d0, d1, d2, d3, d4, d5, d6⟩ := S1.out.res.cells
              obtain ⟨s0, s1, s2, s3, s4, s5, s6⟩ := S1.out.res.frs
              go_wp2_with (first
                  | (go_at_call 37; (with_reducible refine (P18.out _).mono ?_); rintro e w' ⟨rfl, rfl⟩)
                  | (go_at_call 37; (with_reducible refine (P50.out _).mono ?_); rintro e w' ⟨rfl, rfl⟩)
                  | (go_at_call 37; (with_reducible refine (P52.out _).mono ?_); rintro e w' ⟨rfl, rfl⟩)
                  | (go_at_call 37; (with_reducible refine (P0.out _).mono ?_); rintro e w' ⟨rfl, rfl⟩)
                  | (go_at_call 37; (with_reducible refine (P2.out _).mono ?_); rintro e w' ⟨rfl, rfl⟩)
                  | (go_at_call 38; (with_reducible refine (P12.out _).mono ?_); rintro e w' ⟨rfl, rfl⟩))
              exact bodyPost_ret (ret_hd rfl rfl rfl (S1.out.res.put { h with em := (x : Int) })) rfl ⟨{ h with em := (x : Int) }, rfl, S1.out.out { h with em := (x : Int) }, fun h => absurd h (by decide)⟩
          · have e3' : decide ((x : Int) < 16) = true := decide_eq_true (by omega)
            rw [if_neg (by omega)]
            clear k0 k1 k2 k3 hbb hb2 v0
            go_enter Try.func27, Try.ntmps27
            go_upto_region 1 with fail
            have S0 := Lib.hid (PS.start2 w h)
            obtain ⟨g, hg⟩ : ∃ g, g = w.heap.size := ⟨_, rfl⟩
            obtain ⟨b, hb⟩ : ∃ b, b = w.heap.size + 1 := ⟨_, rfl⟩
            obtain ⟨W0, hW0⟩ : ∃ W, W = ((w.alloc (.cells #[.int .i64 h.em, .bool h.lg, .int .i64 h.gl, .int .i64 h.me, .int .i64 h.a1, .int .i64 h.a2, .int .i64 h.a3] 23)).alloc (.cells #[.int .i64 0, .bool false, .int .i64 0, .int .i64 0, .int .i64 0, .int .i64 0, .int .i64 0] 23)) := ⟨_, rfl⟩
            have S0 := Lib.hid (show PS w W0 b g Hd.zero h by rw [hW0, hb, hg]; exact S0.out)
            rw [← hb, ← hg, ← hW0]
            clear hb hg hW0
            have nbg : ¬ b = g := S0.out.ne
            have ngb : ¬ g = b := ne_symm S0.out.ne
            obtain ⟨c0, c1, c2, c3, c4, c5, c6⟩ := S0.out.box.cells
            obtain ⟨r0, r1, r2, r3, r4, r5, r6⟩ := S0.out.box.frs
            obtain ⟨d0, d1, d2, d3, d4, d5, d6⟩ := S0.out.res.cells
            obtain ⟨s0, s1, s2, s3, s4, s5, s6⟩ := S0.out.res.frs
            go_upto_region 4 with (first
                | (go_at_call 37; (with_reducible refine (P18.out _).mono ?_); rintro e w' ⟨rfl, rfl⟩)
                | (go_at_call 37; (with_reducible refine (P50.out _).mono ?_); rintro e w' ⟨rfl, rfl⟩)
                | (go_at_call 37; (with_reducible refine (P52.out _).mono ?_); rintro e w' ⟨rfl, rfl⟩)
                | (go_at_call 37; (with_reducible refine (P0.out _).mono ?_); rintro e w' ⟨rfl, rfl⟩)
                | (go_at_call 37; (with_reducible refine (P2.out _).mono ?_); rintro e w' ⟨rfl, rfl⟩)
                | (go_at_call 38; (with_reducible refine (P12.out _).mono ?_); rintro e w' ⟨rfl, rfl⟩))
            have S1 := Lib.hid (S0.out.set0 (x : Int))
            obtain ⟨W1, hW1⟩ : ∃ W, W = W0.setCell ⟨g, 0, none⟩ (.int .i64 (x : Int)) := ⟨_, rfl⟩
            rw [← hW1] at S1 ⊢
            clear hW1
            clear c0 c1 c2 c3 c4 c5 c6 r0 r1 r2 r3 r4 r5 r6 d0 d1 d2 d3 d4 d5 d6 s0 s1 s2 s3 s4 s5 s6
            obtain ⟨c0, c1, c2, c3, c4, c5, c6⟩ := S1.out.box.cells
            obtain ⟨r0, r1, r2, r3, r4, r5, r6⟩ := S1.out.box.frs
            obtain ⟨d0, d1, d2, d3, d4, d5, d6⟩ := S1.out.res.cells
            obtain ⟨s0, s1, s2, s3, s4, s5, s6⟩ := S1.out.res.frs
            go_wp2_with (first
                | (go_at_call 37; (with_reducible refine (P18.out _).mono ?_); rintro e w' ⟨rfl, rfl⟩)
                | (go_at_call 37; (with_reducible refine (P50.out _).mono ?_); rintro e w' ⟨rfl, rfl⟩)
                | (go_at_call 37; (with_reducible refine (P52.out _).mono ?_); rintro e w' ⟨rfl, rfl⟩)
                | (go_at_call 37; (with_reducible refine (P0.out _).mono ?_); rintro e w' ⟨rfl, rfl⟩)
                | (go_at_call 37; (with_reducible refine (P2.out _).mono ?_); rintro e w' ⟨rfl, rfl⟩)
                | (go_at_call 38; (with_reducible refine (P12.out _).mono ?_); rintro e w' ⟨rfl, rfl⟩))
            exact bodyPost_ret (ret_hd rfl rfl rfl (S1.out.res.put { h with em := (x : Int) })) rfl ⟨{ h with em := (x : Int) }, rfl, S1.out.out { h with em := (x : Int) }, fun h => absurd h (by decide)⟩
        · have e2' : ((q : Int) != 1594834165) = true := by simp; omega
          rw [if_neg (by omega)]
          clear k0 k1 k2 hbb hb2 v0
          go_enter Try.func27, Try.ntmps27
          go_upto_region 1 with fail
          have S0 := Lib.hid (PS.start2 w h)
          obtain ⟨g, hg⟩ : ∃ g, g = w.heap.size := ⟨_, rfl⟩
          obtain ⟨b, hb⟩ : ∃ b, b = w.heap.size + 1 := ⟨_, rfl⟩
          obtain ⟨W0, hW0⟩ : ∃ W, W = ((w.alloc (.cells #[.int .i64 h.em, .bool h.lg, .int .i64 h.gl, .int .i64 h.me, .int .i64 h.a1, .int .i64 h.a2, .int .i64 h.a3] 23)).alloc (.cells #[.int .i64 0, .bool false, .int .i64 0, .int .i64 0, .int .i64 0, .int .i64 0, .int .i64 0] 23)) := ⟨_, rfl⟩
          have S0 := Lib.hid (show PS w W0 b g Hd.zero h by rw [hW0, hb, hg]; exact S0.out)
          rw [← hb, ← hg, ← hW0]
          clear hb hg hW0
          have nbg : ¬ b = g := S0.out.ne
          have ngb : ¬ g = b := ne_symm S0.out.ne
          obtain ⟨c0, c1, c2, c3, c4, c5, c6⟩ := S0.out.box.cells
          obtain ⟨r0, r1, r2, r3, r4, r5, r6⟩ := S0.out.box.frs
          obtain ⟨d0, d1, d2, d3, d4, d5, d6⟩ := S0.out.res.cells
          obtain ⟨s0, s1, s2, s3, s4, s5, s6⟩ := S0.out.res.frs
          go_upto_region 4 with (first
              | (go_at_call 37; (with_reducible refine (P18.out _).mono ?_); rintro e w' ⟨rfl, rfl⟩)
              | (go_at_call 37; (with_reducible refine (P50.out _).mono ?_); rintro e w' ⟨rfl, rfl⟩)
              | (go_at_call 37; (with_reducible refine (P52.out _).mono ?_); rintro e w' ⟨rfl, rfl⟩)
              | (go_at_call 37; (with_reducible refine (P0.out _).mono ?_); rintro e w' ⟨rfl, rfl⟩)
              | (go_at_call 37; (with_reducible refine (P2.out _).mono ?_); rintro e w' ⟨rfl, rfl⟩)
              | (go_at_call 38; (with_reducible refine (P12.out _).mono ?_); rintro e w' ⟨rfl, rfl⟩))
          have S1 := Lib.hid (S0.out.set0 (x : Int))
          obtain ⟨W1, hW1⟩ : ∃ W, W = W0.setCell ⟨g, 0, none⟩ (.int .i64 (x : Int)) := ⟨_, rfl⟩
          rw [← hW1] at S1 ⊢
          clear hW1
          clear c0 c1 c2 c3 c4 c5 c6 r0 r1 r2 r3 r4 r5 r6 d0 d1 d2 d3 d4 d5 d6 s0 s1 s2 s3 s4 s5 s6
          obtain ⟨c0, c1, c2, c3, c4, c5, c6⟩ := S1.out.box.cells
          obtain ⟨r0, r1, r2, r3, r4, r5, r6⟩ := S1.out.box.frs
          obtain ⟨d0, d1, d2, d3, d4, d5, d6⟩ := S1.out.res.cells
          obtain ⟨s0, s1, s2, s3, s4, s5, s6⟩ := S1.out.res.frs
          go_wp2_with (first
              | (go_at_call 37; (with_reducible refine (P18.out _).mono ?_); rintro e w' ⟨rfl, rfl⟩)
              | (go_at_call 37; (with_reducible refine (P50.out _).mono ?_); rintro e w' ⟨rfl, rfl⟩)
              | (go_at_call 37; (with_reducible refine (P52.out _).mono ?_); rintro e w' ⟨rfl, rfl⟩)
              | (go_at_call 37; (with_reducible refine (P0.out _).mono ?_); rintro e w' ⟨rfl, rfl⟩)
              | (go_at_call 37; (with_reducible refine (P2.out _).mono ?_); rintro e w' ⟨rfl, rfl⟩)
              | (go_at_call 38; (with_reducible refine (P12.out _).mono ?_); rintro e w' ⟨rfl, rfl⟩))
          exact bodyPost_ret (ret_hd rfl rfl rfl (S1.out.res.put { h with em := (x : Int) })) rfl ⟨{ h with em := (x : Int) }, rfl, S1.out.out { h with em := (x : Int) }, fun h => absurd h (by decide)⟩
      · have e1' : ((c : Int) != 0) = true := by simp; omega
        rw [if_neg (by omega)]
        clear k0 k1 hbb hb2 v0
        go_enter Try.func27, Try.ntmps27
        go_upto_region 1 with fail
        have S0 := Lib.hid (PS.start2 w h)
        obtain ⟨g, hg⟩ : ∃ g, g = w.heap.size := ⟨_, rfl⟩
        obtain ⟨b, hb⟩ : ∃ b, b = w.heap.size + 1 := ⟨_, rfl⟩
        obtain ⟨W0, hW0⟩ : ∃ W, W = ((w.alloc (.cells #[.int .i64 h.em, .bool h.lg, .int .i64 h.gl, .int .i64 h.me, .int .i64 h.a1, .int .i64 h.a2, .int .i64 h.a3] 23)).alloc (.cells #[.int .i64 0, .bool false, .int .i64 0, .int .i64 0, .int .i64 0, .int .i64 0, .int .i64 0] 23)) := ⟨_, rfl⟩
        have S0 := Lib.hid (show PS w W0 b g Hd.zero h by rw [hW0, hb, hg]; exact S0.out)
        rw [← hb, ← hg, ← hW0]
        clear hb hg hW0
        have nbg : ¬ b = g := S0.out.ne
        have ngb : ¬ g = b := ne_symm S0.out.ne
        obtain ⟨c0, c1, c2, c3, c4, c5, c6⟩ := S0.out.box.cells
        obtain ⟨r0, r1, r2, r3, r4, r5, r6⟩ := S0.out.box.frs
        obtain ⟨d0, d1, d2, d3, d4, d5, d6⟩ := S0.out.res.cells
        obtain ⟨s0, s1, s2, s3, s4, s5, s6⟩ := S0.out.res.frs
        go_upto_region 4 with (first
            | (go_at_call 37; (with_reducible refine (P18.out _).mono ?_); rintro e w' ⟨rfl, rfl⟩)
            | (go_at_call 37; (with_reducible refine (P50.out _).mono ?_); rintro e w' ⟨rfl, rfl⟩)
            | (go_at_call 37; (with_reducible refine (P52.out _).mono ?_); rintro e w' ⟨rfl, rfl⟩)
            | (go_at_call 37; (with_reducible refine (P0.out _).mono ?_); rintro e w' ⟨rfl, rfl⟩)
            | (go_at_call 37; (with_reducible refine (P2.out _).mono ?_); rintro e w' ⟨rfl, rfl⟩)
            | (go_at_call 38; (with_reducible refine (P12.out _).mono ?_); rintro e w' ⟨rfl, rfl⟩))
        have S1 := Lib.hid (S0.out.set0 (x : Int))
        obtain ⟨W1, hW1⟩ : ∃ W, W = W0.setCell ⟨g, 0, none⟩ (.int .i64 (x : Int)) := ⟨_, rfl⟩
        rw [← hW1] at S1 ⊢
        clear hW1
        clear c0 c1 c2 c3 c4 c5 c6 r0 r1 r2 r3 r4 r5 r6 d0 d1 d2 d3 d4 d5 d6 s0 s1 s2 s3 s4 s5 s6
        obtain ⟨c0, c1, c2, c3, c4, c5, c6⟩ := S1.out.box.cells
        obtain ⟨r0, r1, r2, r3, r4, r5, r6⟩ := S1.out.box.frs
        obtain ⟨d0, d1, d2, d3, d4, d5, d6⟩ := S1.out.res.cells
        obtain ⟨s0, s1, s2, s3, s4, s5, s6⟩ := S1.out.res.frs
        go_wp2_with (first
            | (go_at_call 37; (with_reducible refine (P18.out _).mono ?_); rintro e w' ⟨rfl, rfl⟩)
            | (go_at_call 37; (with_reducible refine (P50.out _).mono ?_); rintro e w' ⟨rfl, rfl⟩)
            | (go_at_call 37; (with_reducible refine (P52.out _).mono ?_); rintro e w' ⟨rfl, rfl⟩)
            | (go_at_call 37; (with_reducible refine (P0.out _).mono ?_); rintro e w' ⟨rfl, rfl⟩)
            | (go_at_call 37; (with_reducible refine (P2.out _).mono ?_); rintro e w' ⟨rfl, rfl⟩)
            | (go_at_call 38; (with_reducible refine (P12.out _).mono ?_); rintro e w' ⟨rfl, rfl⟩))
        exact bodyPost_ret (ret_hd rfl rfl rfl (S1.out.res.put { h with em := (x : Int) })) rfl ⟨{ h with em := (x : Int) }, rfl, S1.out.out { h with em := (x : Int) }, fun h => absurd h (by decide)⟩
    · have e0' : ((a : Int) != 1) = true := by simp; omega
      rw [if_neg (by omega)]
      clear k0 hbb hb2 v0
      go_enter Try.func27, Try.ntmps27
      go_upto_region 1 with fail
      have S0 := Lib.hid (PS.start2 w h)
      obtain ⟨g, hg⟩ : ∃ g, g = w.heap.size := ⟨_, rfl⟩
      obtain ⟨b, hb⟩ : ∃ b, b = w.heap.size + 1 := ⟨_, rfl⟩
      obtain ⟨W0, hW0⟩ : ∃ W, W = ((w.alloc (.cells #[.int .i64 h.em, .bool h.lg, .int .i64 h.gl, .int .i64 h.me, .int .i64 h.a1, .int .i64 h.a2, .int .i64 h.a3] 23)).alloc (.cells #[.int .i64 0, .bool false, .int .i64 0, .int .i64 0, .int .i64 0, .int .i64 0, .int .i64 0] 23)) := ⟨_, rfl⟩
      have S0 := Lib.hid (show PS w W0 b g Hd.zero h by rw [hW0, hb, hg]; exact S0.out)
      rw [← hb, ← hg, ← hW0]
      clear hb hg hW0
      have nbg : ¬ b = g := S0.out.ne
      have ngb : ¬ g = b := ne_symm S0.out.ne
      obtain ⟨c0, c1, c2, c3, c4, c5, c6⟩ := S0.out.box.cells
      obtain ⟨r0, r1, r2, r3, r4, r5, r6⟩ := S0.out.box.frs
      obtain ⟨d0, d1, d2, d3, d4, d5, d6⟩ := S0.out.res.cells
      obtain ⟨s0, s1, s2, s3, s4, s5, s6⟩ := S0.out.res.frs
      go_upto_region 4 with (first
          | (go_at_call 37; (with_reducible refine (P18.out _).mono ?_); rintro e w' ⟨rfl, rfl⟩)
          | (go_at_call 37; (with_reducible refine (P50.out _).mono ?_); rintro e w' ⟨rfl, rfl⟩)
          | (go_at_call 37; (with_reducible refine (P52.out _).mono ?_); rintro e w' ⟨rfl, rfl⟩)
          | (go_at_call 37; (with_reducible refine (P0.out _).mono ?_); rintro e w' ⟨rfl, rfl⟩)
          | (go_at_call 37; (with_reducible refine (P2.out _).mono ?_); rintro e w' ⟨rfl, rfl⟩)
          | (go_at_call 38; (with_reducible refine (P12.out _).mono ?_); rintro e w' ⟨rfl, rfl⟩))
      have S1 := Lib.hid (S0.out.set0 (x : Int))
      obtain ⟨W1, hW1⟩ : ∃ W, W = W0.setCell ⟨g, 0, none⟩ (.int .i64 (x : Int)) := ⟨_, rfl⟩
      rw [← hW1] at S1 ⊢
      clear hW1
      clear c0 c1 c2 c3 c4 c5 c6 r0 r1 r2 r3 r4 r5 r6 d0 d1 d2 d3 d4 d5 d6 s0 s1 s2 s3 s4 s5 s6
      obtain ⟨c0, c1, c2, c3, c4, c5, c6⟩ := S1.out.box.cells
      obtain ⟨r0, r1, r2, r3, r4, r5, r6⟩ := S1.out.box.frs
      obtain ⟨d0, d1, d2, d3, d4, d5, d6⟩ := S1.out.res.cells
      obtain ⟨s0, s1, s2, s3, s4, s5, s6⟩ := S1.out.res.frs
      go_wp2_with (first
          | (go_at_call 37; (with_reducible refine (P18.out _).mono ?_); rintro e w' ⟨rfl, rfl⟩)
          | (go_at_call 37; (with_reducible refine (P50.out _).mono ?_); rintro e w' ⟨rfl, rfl⟩)
          | (go_at_call 37; (with_reducible refine (P52.out _).mono ?_); rintro e w' ⟨rfl, rfl⟩)
          | (go_at_call 37; (with_reducible refine (P0.out _).mono ?_); rintro e w' ⟨rfl, rfl⟩)
          | (go_at_call 37; (with_reducible refine (P2.out _).mono ?_); rintro e w' ⟨rfl, rfl⟩)
          | (go_at_call 38; (with_reducible refine (P12.out _).mono ?_); rintro e w' ⟨rfl, rfl⟩))
      exact bodyPost_ret (ret_hd rfl rfl rfl (S1.out.res.put { h with em := (x : Int) })) rfl ⟨{ h with em := (x : Int) }, rfl, S1.out.out { h with em := (x : Int) }, fun h => absurd h (by decide)⟩
end Go.Proofs.Ytphnapnmeidgkaa
