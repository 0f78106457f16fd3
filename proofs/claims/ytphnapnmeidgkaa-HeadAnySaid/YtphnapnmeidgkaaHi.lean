/- Proved here: what the document's Signed and hhea answer. Condition: texts of at most a billion bytes. -/
import Derived.Test.YtphnapnmeidgkaaHh
namespace Go.Proofs.Ytphnapnmeidgkaa
open Go.RowKit

theorem out2_in {l : List UInt8} {a : Nat} (ha : a + 2 ≤ l.length) : outR l a false 2 = piece l a 2 := by
  unfold outR
  have e1 : okR l.length a false 2 = true := by unfold okR; simp only [Bool.not_false, Bool.true_and]; exact decide_eq_true ⟨by omega, by omega, by omega⟩
  rw [if_pos e1]
  rfl
set_option maxHeartbeats 2000000 in
theorem rsg_any (s : ByteArray) (i : Int) (k : Nat) (hi : i = (k : Int)) (w : World) (hs : s.size ≤ 1000000000) (hk : k + 2 ≤ s.size) :
    Calls Try.prog 39 #[.string s, .int .i64 i] w fun e w' => e = .returned (.int .i64 (sg16 (n2 s.data.toList k))) ∧ Below w.heap.size w w' := by
  subst hi
  obtain ⟨W, hW⟩ : ∃ W, W = w.alloc (.cells #[.string s, .int .i64 (k : Int), .bool false] 84) := ⟨_, rfl⟩
  have hr : Rd 84 W w.heap.size s k false := by rw [hW]; exact heap_alloc_new w _
  have hb : Below w.heap.size w W := by rw [hW]; exact (Below.refl _ _).alloc (Nat.le_refl _) _
  have hc := ri16_any w.heap.size s k false W hr hs (by omega)
  rw [out2_in (by rw [size_list]; omega)] at hc
  have hc : Calls Try.prog 51 #[.pointer (some ⟨w.heap.size, 0, none⟩)] W fun e w' => e = .returned (.int .i64 (sg16 (n2 s.data.toList k))) ∧ Below w.heap.size w w' := hc.mono fun e w' ⟨h1, h2⟩ => ⟨h1, hb.trans (h2.2.below (Nat.le_refl _) hb.size)⟩
  rw [hW] at hc
  obtain ⟨v, hv⟩ : ∃ v, v = sg16 (n2 s.data.toList k) := ⟨_, rfl⟩
  rw [← hv] at hc ⊢
  have HC := Lib.hid hc
  clear hc hb hr hW hv hs hk
  go_enter Try.func39, Try.ntmps39
  go_wp2_with (go_at_call 51; (with_reducible refine (HC.out).mono ?_); rintro e w1 ⟨rfl, hb⟩; have B := Lib.hid hb; clear hb)
  go_ret
  exact ⟨rfl, B.out⟩
theorem PS.next {w W W' : World} {b g : Nat} {r k : Hd} (h : PS w W b g r k) (hb : Below W.heap.size W W') : PS w W' b g r k :=
  ⟨h.bel.trans (hb.mono h.bel.size), h.ob, h.og, h.ne, h.res.bel hb, h.box.bel hb⟩

set_option maxHeartbeats 4000000 in
theorem rhhea_any (s : ByteArray) (h : Hd) (d : List UInt8) (w : World) (hs : s.size ≤ 1000000000) (hdl : s.data.toList = d) (gl : Nat) (hg : h.gl = (gl : Int)) :
    Calls Try.prog 29 #[.string s, .agg #[.int .i64 h.em, .bool h.lg, .int .i64 h.gl, .int .i64 h.me, .int .i64 h.a1, .int .i64 h.a2, .int .i64 h.a3]] w fun e w' => ∃ k, e = .returned (.tuple #[Hd.val k, .int .i64 (hheaE d gl : Int)]) ∧ Below w.heap.size w w' ∧ Ok0 (hheaE d gl) k (h3 d h) := by
  have hz : d.length = s.size := by rw [← hdl, size_list]
  by_cases hl : s.size < 36
  · have e0 : hheaE d gl = 3 := by unfold hheaE; rw [if_pos (by omega)]
    rw [e0]
    have dl : decide ((s.size : Int) < 36) = true := decide_eq_true (by omega)
    clear hs hdl hz hl e0 hg
    go_enter Try.func29, Try.ntmps29
    go_upto_region 1 with fail
    have S0 := Lib.hid (PS.start2 w h)
    obtain ⟨g, hg⟩ : ∃ g, g = w.heap.size := ⟨_, rfl⟩
    obtain ⟨b, hb⟩ : ∃ b, b = w.heap.size + 1 := ⟨_, rfl⟩
    obtain ⟨W0, hW0⟩ : ∃ W, W = ((w.alloc (.cells #[.int .i64 h.em, .bool h.lg, .int .i64 h.gl, .int .i64 h.me, .int .i64 h.a1, .int .i64 h.a2, .int .i64 h.a3] 23)).alloc (.cells #[.int .i64 0, .bool false, .int .i64 0, .int .i64 0, .int .i64 0, .int .i64 0, .int .i64 0] 23)) := ⟨_, rfl⟩
    have S0 := Lib.hid (show PS w W0 b g Hd.zero h by rw [hW0, hb, hg]; exact S0.out)
    rw [← hb, ← hg, ← hW0]
    clear hb hg hW0
    have nbg : ¬ b = g := S0.out.ne
    have ngb : ¬ g = b := ne_symm S0.out.ne
    obtain ⟨c0, c1, c2, c3, c4, c5, c6⟩ := S0.out.box.cells
    obtain ⟨r0, r1, r2, r3, r4, r5, r6⟩ := S0.out.box.frs
    obtain ⟨d0, d1, d2, d3, d4, d5, d6⟩ := S0.out.res.cells
    obtain ⟨s0, s1, s2, s3, s4, s5, s6⟩ := S0.out.res.frs
    go_wp2_with fail
    exact bodyPost_ret (ret_hd rfl rfl rfl (S0.out.res.put h)) rfl ⟨h, rfl, S0.out.out h, fun h => absurd h (by decide)⟩
  · have dl : decide ((s.size : Int) < 36) = false := decide_eq_false (by omega)
    have p4 := fun W => rsg_any s 4 4 rfl W hs (by omega)
    have p6 := fun W => rsg_any s 6 6 rfl W hs (by omega)
    have p8 := fun W => rsg_any s 8 8 rfl W hs (by omega)
    have p34 := fun W => r16_any s 34 34 rfl W hs (by omega)
    have p32 := fun W => r16_any s 32 32 rfl W hs (by omega)
    have p0 := fun W => r32_any s 0 0 rfl W hs (by omega)
    rw [hdl] at p4 p6 p8 p34 p32 p0
    unfold hheaE h3
    rw [if_neg (by omega)]
    obtain ⟨t1, ht1⟩ : ∃ x, x = sg16 (n2 d 4) := ⟨_, rfl⟩
    obtain ⟨t2, ht2⟩ : ∃ x, x = sg16 (n2 d 6) := ⟨_, rfl⟩
    obtain ⟨t3, ht3⟩ : ∃ x, x = sg16 (n2 d 8) := ⟨_, rfl⟩
    obtain ⟨x, hx⟩ : ∃ x, x = n2 d 34 := ⟨_, rfl⟩
    obtain ⟨u, hu⟩ : ∃ x, x = n2 d 32 := ⟨_, rfl⟩
    obtain ⟨z, hzz⟩ : ∃ x, x = n4 d 0 := ⟨_, rfl⟩
    rw [← ht1] at p4 ⊢
    rw [← ht2] at p6 ⊢
    rw [← ht3] at p8 ⊢
    rw [← hx] at p34 ⊢
    rw [← hu] at p32 ⊢
    rw [← hzz] at p0 ⊢
    have P4 := Lib.hid p4
    have P6 := Lib.hid p6
    have P8 := Lib.hid p8
    have P34 := Lib.hid p34
    have P32 := Lib.hid p32
    have P0 := Lib.hid p0
    have HG := Lib.hid hg
    clear p4 p6 p8 p34 p32 p0 ht1 ht2 ht3 hx hu hzz hs hdl hz hl hg
    by_cases k0 : z = 65536
    · have e0' : ((z : Int) != 65536) = false := by simp; omega
      by_cases k1 : u = 0
      · have e1' : ((u : Int) != 0) = false := by simp; omega
        by_cases k2 : 1 ≤ x
        · have e2' : decide ((x : Int) < 1) = false := decide_eq_false (by omega)
          by_cases k3 : x ≤ gl
          · have e3' : decide (h.gl < (x : Int)) = false := decide_eq_false (by rw [HG.out]; omega)
            rw [if_pos (by omega)]
            clear k0 k1 k2 k3
            go_enter Try.func29, Try.ntmps29
            go_upto_region 1 with fail
            have S0 := Lib.hid (PS.start2 w h)
            obtain ⟨g, hg⟩ : ∃ g, g = w.heap.size := ⟨_, rfl⟩
            obtain ⟨b, hb⟩ : ∃ b, b = w.heap.size + 1 := ⟨_, rfl⟩
            obtain ⟨W0, hW0⟩ : ∃ W, W = ((w.alloc (.cells #[.int .i64 h.em, .bool h.lg, .int .i64 h.gl, .int .i64 h.me, .int .i64 h.a1, .int .i64 h.a2, .int .i64 h.a3] 23)).alloc (.cells #[.int .i64 0, .bool false, .int .i64 0, .int .i64 0, .int .i64 0, .int .i64 0, .int .i64 0] 23)) := ⟨_, rfl⟩
            have S0 := Lib.hid (show PS w W0 b g Hd.zero h by rw [hW0, hb, hg]; exact S0.out)
            rw [← hb, ← hg, ← hW0]
            clear hb hg hW0
            have nbg : ¬ b = g := S0.out.ne
            have ngb : ¬ g = b := ne_symm S0.out.ne
            obtain ⟨c0, c1, c2, c3, c4, c5, c6⟩ := S0.out.box.cells
            obtain ⟨r0, r1, r2, r3, r4, r5, r6⟩ := S0.out.box.frs
            obtain ⟨d0, d1, d2, d3, d4, d5, d6⟩ := S0.out.res.cells
            obtain ⟨s0, s1, s2, s3, s4, s5, s6⟩ := S0.out.res.frs
            go_upto_region 4 with (go_at_call 39; (with_reducible refine (P4.out _).mono ?_); rintro e w1 ⟨rfl, hb⟩; have T1 := Lib.hid (S0.out.next hb); clear c0 c1 c2 c3 c4 c5 c6 r0 r1 r2 r3 r4 r5 r6 d0 d1 d2 d3 d4 d5 d6 s0 s1 s2 s3 s4 s5 s6; obtain ⟨c0, c1, c2, c3, c4, c5, c6⟩ := T1.out.box.cells; obtain ⟨r0, r1, r2, r3, r4, r5, r6⟩ := T1.out.box.frs; obtain ⟨d0, d1, d2, d3, d4, d5, d6⟩ := T1.out.res.cells; obtain ⟨s0, s1, s2, s3, s4, s5, s6⟩ := T1.out.res.frs; clear hb)
            have S1 := Lib.hid (T1.out.set4 t1)
            obtain ⟨W1, hW1⟩ : ∃ W, W = w1.setCell ⟨g, 4, none⟩ (.int .i64 t1) := ⟨_, rfl⟩
            rw [← hW1] at S1 ⊢
            clear hW1 T1
            clear c0 c1 c2 c3 c4 c5 c6 r0 r1 r2 r3 r4 r5 r6 d0 d1 d2 d3 d4 d5 d6 s0 s1 s2 s3 s4 s5 s6
            obtain ⟨c0, c1, c2, c3, c4, c5, c6⟩ := S1.out.box.cells
            obtain ⟨r0, r1, r2, r3, r4, r5, r6⟩ := S1.out.box.frs
            obtain ⟨d0, d1, d2, d3, d4, d5, d6⟩ := S1.out.res.cells
            obtain ⟨s0, s1, s2, s3, s4, s5, s6⟩ := S1.out.res.frs
            go_upto_region 5 with (go_at_call 39; (with_reducible refine (P6.out _).mono ?_); rintro e w2 ⟨rfl, hb⟩; have T2 := Lib.hid (S1.out.next hb); clear c0 c1 c2 c3 c4 c5 c6 r0 r1 r2 r3 r4 r5 r6 d0 d1 d2 d3 d4 d5 d6 s0 s1 s2 s3 s4 s5 s6; obtain ⟨c0, c1, c2, c3, c4, c5, c6⟩ := T2.out.box.cells; obtain ⟨r0, r1, r2, r3, r4, r5, r6⟩ := T2.out.box.frs; obtain ⟨d0, d1, d2, d3, d4, d5, d6⟩ := T2.out.res.cells; obtain ⟨s0, s1, s2, s3, s4, s5, s6⟩ := T2.out.res.frs; clear hb)
            have S2 := Lib.hid (T2.out.set5 t2)
            obtain ⟨W2, hW2⟩ : ∃ W, W = w2.setCell ⟨g, 5, none⟩ (.int .i64 t2) := ⟨_, rfl⟩
            rw [← hW2] at S2 ⊢
            clear hW2 T2
            clear c0 c1 c2 c3 c4 c5 c6 r0 r1 r2 r3 r4 r5 r6 d0 d1 d2 d3 d4 d5 d6 s0 s1 s2 s3 s4 s5 s6
            obtain ⟨c0, c1, c2, c3, c4, c5, c6⟩ := S2.out.box.cells
            obtain ⟨r0, r1, r2, r3, r4, r5, r6⟩ := S2.out.box.frs
            obtain ⟨d0, d1, d2, d3, d4, d5, d6⟩ := S2.out.res.cells
            obtain ⟨s0, s1, s2, s3, s4, s5, s6⟩ := S2.out.res.frs
            go_upto_region 6 with (go_at_call 39; (with_reducible refine (P8.out _).mono ?_); rintro e w3 ⟨rfl, hb⟩; have T3 := Lib.hid (S2.out.next hb); clear c0 c1 c2 c3 c4 c5 c6 r0 r1 r2 r3 r4 r5 r6 d0 d1 d2 d3 d4 d5 d6 s0 s1 s2 s3 s4 s5 s6; obtain ⟨c0, c1, c2, c3, c4, c5, c6⟩ := T3.out.box.cells; obtain ⟨r0, r1, r2, r3, r4, r5, r6⟩ := T3.out.box.frs; obtain ⟨d0, d1, d2, d3, d4, d5, d6⟩ := T3.out.res.cells; obtain ⟨s0, s1, s2, s3, s4, s5, s6⟩ := T3.out.res.frs; clear hb)
            have S3 := Lib.hid (T3.out.set6 t3)
            obtain ⟨W3, hW3⟩ : ∃ W, W = w3.setCell ⟨g, 6, none⟩ (.int .i64 t3) := ⟨_, rfl⟩
            rw [← hW3] at S3 ⊢
            clear hW3 T3
            clear c0 c1 c2 c3 c4 c5 c6 r0 r1 r2 r3 r4 r5 r6 d0 d1 d2 d3 d4 d5 d6 s0 s1 s2 s3 s4 s5 s6
            obtain ⟨c0, c1, c2, c3, c4, c5, c6⟩ := S3.out.box.cells
            obtain ⟨r0, r1, r2, r3, r4, r5, r6⟩ := S3.out.box.frs
            obtain ⟨d0, d1, d2, d3, d4, d5, d6⟩ := S3.out.res.cells
            obtain ⟨s0, s1, s2, s3, s4, s5, s6⟩ := S3.out.res.frs
            go_upto_region 7 with (first
                | (go_at_call 37; (with_reducible refine (P34.out _).mono ?_); rintro e w' ⟨rfl, rfl⟩)
                | (go_at_call 37; (with_reducible refine (P32.out _).mono ?_); rintro e w' ⟨rfl, rfl⟩)
                | (go_at_call 38; (with_reducible refine (P0.out _).mono ?_); rintro e w' ⟨rfl, rfl⟩))
            have S4 := Lib.hid (S3.out.set3 (x : Int))
            obtain ⟨W4, hW4⟩ : ∃ W, W = W3.setCell ⟨g, 3, none⟩ (.int .i64 (x : Int)) := ⟨_, rfl⟩
            rw [← hW4] at S4 ⊢
            clear hW4
            clear c0 c1 c2 c3 c4 c5 c6 r0 r1 r2 r3 r4 r5 r6 d0 d1 d2 d3 d4 d5 d6 s0 s1 s2 s3 s4 s5 s6
            obtain ⟨c0, c1, c2, c3, c4, c5, c6⟩ := S4.out.box.cells
            obtain ⟨r0, r1, r2, r3, r4, r5, r6⟩ := S4.out.box.frs
            obtain ⟨d0, d1, d2, d3, d4, d5, d6⟩ := S4.out.res.cells
            obtain ⟨s0, s1, s2, s3, s4, s5, s6⟩ := S4.out.res.frs
            go_wp2_with (first
                | (go_at_call 37; (with_reducible refine (P34.out _).mono ?_); rintro e w' ⟨rfl, rfl⟩)
                | (go_at_call 37; (with_reducible refine (P32.out _).mono ?_); rintro e w' ⟨rfl, rfl⟩)
                | (go_at_call 38; (with_reducible refine (P0.out _).mono ?_); rintro e w' ⟨rfl, rfl⟩))
            exact bodyPost_ret (ret_hd rfl rfl rfl (S4.out.res.put { h with a1 := t1, a2 := t2, a3 := t3, me := (x : Int) })) rfl ⟨{ h with a1 := t1, a2 := t2, a3 := t3, me := (x : Int) }, rfl, S4.out.out { h with a1 := t1, a2 := t2, a3 := t3, me := (x : Int) }, fun _ => rfl⟩
          · have e3' : decide (h.gl < (x : Int)) = true := decide_eq_true (by rw [HG.out]; omega)
            rw [if_neg (by omega)]
            clear k0 k1 k2 k3
            go_enter Try.func29, Try.ntmps29
            go_upto_region 1 with fail
            have S0 := Lib.hid (PS.start2 w h)
            obtain ⟨g, hg⟩ : ∃ g, g = w.heap.size := ⟨_, rfl⟩
            obtain ⟨b, hb⟩ : ∃ b, b = w.heap.size + 1 := ⟨_, rfl⟩
            obtain ⟨W0, hW0⟩ : ∃ W, W = ((w.alloc (.cells #[.int .i64 h.em, .bool h.lg, .int .i64 h.gl, .int .i64 h.me, .int .i64 h.a1, .int .i64 h.a2, .int .i64 h.a3] 23)).alloc (.cells #[.int .i64 0, .bool false, .int .i64 0, .int .i64 0, .int .i64 0, .int .i64 0, .int .i64 0] 23)) := ⟨_, rfl⟩
            have S0 := Lib.hid (show PS w W0 b g Hd.zero h by rw [hW0, hb, hg]; exact S0.out)
            rw [← hb, ← hg, ← hW0]
            clear hb hg hW0
            have nbg : ¬ b = g := S0.out.ne
            have ngb : ¬ g = b := ne_symm S0.out.ne
            obtain ⟨c0, c1, c2, c3, c4, c5, c6⟩ := S0.out.box.cells
            obtain ⟨r0, r1, r2, r3, r4, r5, r6⟩ := S0.out.box.frs
            obtain ⟨d0, d1, d2, d3, d4, d5, d6⟩ := S0.out.res.cells
            obtain ⟨s0, s1, s2, s3, s4, s5, s6⟩ := S0.out.res.frs
            go_upto_region 4 with (go_at_call 39; (with_reducible refine (P4.out _).mono ?_); rintro e w1 ⟨rfl, hb⟩; have T1 := Lib.hid (S0.out.next hb); clear c0 c1 c2 c3 c4 c5 c6 r0 r1 r2 r3 r4 r5 r6 d0 d1 d2 d3 d4 d5 d6 s0 s1 s2 s3 s4 s5 s6; obtain ⟨c0, c1, c2, c3, c4, c5, c6⟩ := T1.out.box.cells; obtain ⟨r0, r1, r2, r3, r4, r5, r6⟩ := T1.out.box.frs; obtain ⟨d0, d1, d2, d3, d4, d5, d6⟩ := T1.out.res.cells; obtain ⟨s0, s1, s2, s3, s4, s5, s6⟩ := T1.out.res.frs; clear hb)
            have S1 := Lib.hid (T1.out.set4 t1)
            obtain ⟨W1, hW1⟩ : ∃ W, W = w1.setCell ⟨g, 4, none⟩ (.int .i64 t1) := ⟨_, rfl⟩
            rw [← hW1] at S1 ⊢
            clear hW1 T1
            clear c0 c1 c2 c3 c4 c5 c6 r0 r1 r2 r3 r4 r5 r6 d0 d1 d2 d3 d4 d5 d6 s0 s1 s2 s3 s4 s5 s6
            obtain ⟨c0, c1, c2, c3, c4, c5, c6⟩ := S1.out.box.cells
            obtain ⟨r0, r1, r2, r3, r4, r5, r6⟩ := S1.out.box.frs
            obtain ⟨d0, d1, d2, d3, d4, d5, d6⟩ := S1.out.res.cells
            obtain ⟨s0, s1, s2, s3, s4, s5, s6⟩ := S1.out.res.frs
            go_upto_region 5 with (go_at_call 39; (with_reducible refine (P6.out _).mono ?_); rintro e w2 ⟨rfl, hb⟩; have T2 := Lib.hid (S1.out.next hb); clear c0 c1 c2 c3 c4 c5 c6 r0 r1 r2 r3 r4 r5 r6 d0 d1 d2 d3 d4 d5 d6 s0 s1 s2 s3 s4 s5 s6; obtain ⟨c0, c1, c2, c3, c4, c5, c6⟩ := T2.out.box.cells; obtain ⟨r0, r1, r2, r3, r4, r5, r6⟩ := T2.out.box.frs; obtain ⟨d0, d1, d2, d3, d4, d5, d6⟩ := T2.out.res.cells; obtain ⟨s0, s1, s2, s3, s4, s5, s6⟩ := T2.out.res.frs; clear hb)
            have S2 := Lib.hid (T2.out.set5 t2)
            obtain ⟨W2, hW2⟩ : ∃ W, W = w2.setCell ⟨g, 5, none⟩ (.int .i64 t2) := ⟨_, rfl⟩
            rw [← hW2] at S2 ⊢
            clear hW2 T2
            clear c0 c1 c2 c3 c4 c5 c6 r0 r1 r2 r3 r4 r5 r6 d0 d1 d2 d3 d4 d5 d6 s0 s1 s2 s3 s4 s5 s6
            obtain ⟨c0, c1, c2, c3, c4, c5, c6⟩ := S2.out.box.cells
            obtain ⟨r0, r1, r2, r3, r4, r5, r6⟩ := S2.out.box.frs
            obtain ⟨d0, d1, d2, d3, d4, d5, d6⟩ := S2.out.res.cells
            obtain ⟨s0, s1, s2, s3, s4, s5, s6⟩ := S2.out.res.frs
            go_upto_region 6 with (go_at_call 39; (with_reducible refine (P8.out _).mono ?_); rintro e w3 ⟨rfl, hb⟩; have T3 := Lib.hid (S2.out.next hb); clear c0 c1 c2 c3 c4 c5 c6 r0 r1 r2 r3 r4 r5 r6 d0 d1 d2 d3 d4 d5 d6 s0 s1 s2 s3 s4 s5 s6; obtain ⟨c0, c1, c2, c3, c4, c5, c6⟩ := T3.out.box.cells; obtain ⟨r0, r1, r2, r3, r4, r5, r6⟩ := T3.out.box.frs; obtain ⟨d0, d1, d2, d3, d4, d5, d6⟩ := T3.out.res.cells; obtain ⟨s0, s1, s2, s3, s4, s5, s6⟩ := T3.out.res.frs; clear hb)
            have S3 := Lib.hid (T3.out.set6 t3)
            obtain ⟨W3, hW3⟩ : ∃ W, W = w3.setCell ⟨g, 6, none⟩ (.int .i64 t3) := ⟨_, rfl⟩
            rw [← hW3] at S3 ⊢
            clear hW3 T3
            clear c0 c1 c2 c3 c4 c5 c6 r0 r1 r2 r3 r4 r5 r6 d0 d1 d2 d3 d4 d5 d6 s0 s1 s2 s3 s4 s5 s6
            obtain ⟨c0, c1, c2, c3, c4, c5, c6⟩ := S3.out.box.cells
            obtain ⟨r0, r1, r2, r3, r4, r5, r6⟩ := S3.out.box.frs
            obtain ⟨d0, d1, d2, d3, d4, d5, d6⟩ := S3.out.res.cells
            obtain ⟨s0, s1, s2, s3, s4, s5, s6⟩ := S3.out.res.frs
            go_upto_region 7 with (first
                | (go_at_call 37; (with_reducible refine (P34.out _).mono ?_); rintro e w' ⟨rfl, rfl⟩)
                | (go_at_call 37; (with_reducible refine (P32.out _).mono ?_); rintro e w' ⟨rfl, rfl⟩)
                | (go_at_call 38; (with_reducible refine (P0.out _).mono ?_); rintro e w' ⟨rfl, rfl⟩))
            have S4 := Lib.hid (S3.out.set3 (x : Int))
            obtain ⟨W4, hW4⟩ : ∃ W, W = W3.setCell ⟨g, 3, none⟩ (.int .i64 (x : Int)) := ⟨_, rfl⟩
            rw [← hW4] at S4 ⊢
            clear hW4
            clear c0 c1 c2 c3 c4 c5 c6 r0 r1 r2 r3 r4 r5 r6 d0 d1 d2 d3 d4 d5 d6 s0 s1 s2 s3 s4 s5 s6
            obtain ⟨c0, c1, c2, c3, c4, c5, c6⟩ := S4.out.box.cells
            obtain ⟨r0, r1, r2, r3, r4, r5, r6⟩ := S4.out.box.frs
            obtain ⟨d0, d1, d2, d3, d4, d5, d6⟩ := S4.out.res.cells
            obtain ⟨s0, s1, s2, s3, s4, s5, s6⟩ := S4.out.res.frs
            go_wp2_with (first
                | (go_at_call 37; (with_reducible refine (P34.out _).mono ?_); rintro e w' ⟨rfl, rfl⟩)
                | (go_at_call 37; (with_reducible refine (P32.out _).mono ?_); rintro e w' ⟨rfl, rfl⟩)
                | (go_at_call 38; (with_reducible refine (P0.out _).mono ?_); rintro e w' ⟨rfl, rfl⟩))
            exact bodyPost_ret (ret_hd rfl rfl rfl (S4.out.res.put { h with a1 := t1, a2 := t2, a3 := t3, me := (x : Int) })) rfl ⟨{ h with a1 := t1, a2 := t2, a3 := t3, me := (x : Int) }, rfl, S4.out.out { h with a1 := t1, a2 := t2, a3 := t3, me := (x : Int) }, fun h => absurd h (by decide)⟩
        · have e2' : decide ((x : Int) < 1) = true := decide_eq_true (by omega)
          rw [if_neg (by omega)]
          clear k0 k1 k2
          go_enter Try.func29, Try.ntmps29
          go_upto_region 1 with fail
          have S0 := Lib.hid (PS.start2 w h)
          obtain ⟨g, hg⟩ : ∃ g, g = w.heap.size := ⟨_, rfl⟩
          obtain ⟨b, hb⟩ : ∃ b, b = w.heap.size + 1 := ⟨_, rfl⟩
          obtain ⟨W0, hW0⟩ : ∃ W, W = ((w.alloc (.cells #[.int .i64 h.em, .bool h.lg, .int .i64 h.gl, .int .i64 h.me, .int .i64 h.a1, .int .i64 h.a2, .int .i64 h.a3] 23)).alloc (.cells #[.int .i64 0, .bool false, .int .i64 0, .int .i64 0, .int .i64 0, .int .i64 0, .int .i64 0] 23)) := ⟨_, rfl⟩
          have S0 := Lib.hid (show PS w W0 b g Hd.zero h by rw [hW0, hb, hg]; exact S0.out)
          rw [← hb, ← hg, ← hW0]
          clear hb hg hW0
          have nbg : ¬ b = g := S0.out.ne
          have ngb : ¬ g = b := ne_symm S0.out.ne
          obtain ⟨c0, c1, c2, c3, c4, c5, c6⟩ := S0.out.box.cells
          obtain ⟨r0, r1, r2, r3, r4, r5, r6⟩ := S0.out.box.frs
          obtain ⟨d0, d1, d2, d3, d4, d5, d6⟩ := S0.out.res.cells
          obtain ⟨s0, s1, s2, s3, s4, s5, s6⟩ := S0.out.res.frs
          go_upto_region 4 with (go_at_call 39; (with_reducible refine (P4.out _).mono ?_); rintro e w1 ⟨rfl, hb⟩; have T1 := Lib.hid (S0.out.next hb); clear c0 c1 c2 c3 c4 c5 c6 r0 r1 r2 r3 r4 r5 r6 d0 d1 d2 d3 d4 d5 d6 s0 s1 s2 s3 s4 s5 s6; obtain ⟨c0, c1, c2, c3, c4, c5, c6⟩ := T1.out.box.cells; obtain ⟨r0, r1, r2, r3, r4, r5, r6⟩ := T1.out.box.frs; obtain ⟨d0, d1, d2, d3, d4, d5, d6⟩ := T1.out.res.cells; obtain ⟨s0, s1, s2, s3, s4, s5, s6⟩ := T1.out.res.frs; clear hb)
          have S1 := Lib.hid (T1.out.set4 t1)
          obtain ⟨W1, hW1⟩ : ∃ W, W = w1.setCell ⟨g, 4, none⟩ (.int .i64 t1) := ⟨_, rfl⟩
          rw [← hW1] at S1 ⊢
          clear hW1 T1
          clear c0 c1 c2 c3 c4 c5 c6 r0 r1 r2 r3 r4 r5 r6 d0 d1 d2 d3 d4 d5 d6 s0 s1 s2 s3 s4 s5 s6
          obtain ⟨c0, c1, c2, c3, c4, c5, c6⟩ := S1.out.box.cells
          obtain ⟨r0, r1, r2, r3, r4, r5, r6⟩ := S1.out.box.frs
          obtain ⟨d0, d1, d2, d3, d4, d5, d6⟩ := S1.out.res.cells
          obtain ⟨s0, s1, s2, s3, s4, s5, s6⟩ := S1.out.res.frs
          go_upto_region 5 with (go_at_call 39; (with_reducible refine (P6.out _).mono ?_); rintro e w2 ⟨rfl, hb⟩; have T2 := Lib.hid (S1.out.next hb); clear c0 c1 c2 c3 c4 c5 c6 r0 r1 r2 r3 r4 r5 r6 d0 d1 d2 d3 d4 d5 d6 s0 s1 s2 s3 s4 s5 s6; obtain ⟨c0, c1, c2, c3, c4, c5, c6⟩ := T2.out.box.cells; obtain ⟨r0, r1, r2, r3, r4, r5, r6⟩ := T2.out.box.frs; obtain ⟨d0, d1, d2, d3, d4, d5, d6⟩ := T2.out.res.cells; obtain ⟨s0, s1, s2, s3, s4, s5, s6⟩ := T2.out.res.frs; clear hb)
          have S2 := Lib.hid (T2.out.set5 t2)
          obtain ⟨W2, hW2⟩ : ∃ W, W = w2.setCell ⟨g, 5, none⟩ (.int .i64 t2) := ⟨_, rfl⟩
          rw [← hW2] at S2 ⊢
          clear hW2 T2
          clear c0 c1 c2 c3 c4 c5 c6 r0 r1 r2 r3 r4 r5 r6 d0 d1 d2 d3 d4 d5 d6 s0 s1 s2 s3 s4 s5 s6
          obtain ⟨c0, c1, c2, c3, c4, c5, c6⟩ := S2.out.box.cells
          obtain ⟨r0, r1, r2, r3, r4, r5, r6⟩ := S2.out.box.frs
          obtain ⟨d0, d1, d2, d3, d4, d5, d6⟩ := S2.out.res.cells
          obtain ⟨s0, s1, s2, s3, s4, s5, s6⟩ := S2.out.res.frs
          go_upto_region 6 with (go_at_call 39; (with_reducible refine (P8.out _).mono ?_); rintro e w3 ⟨rfl, hb⟩; have T3 := Lib.hid (S2.out.next hb); clear c0 c1 c2 c3 c4 c5 c6 r0 r1 r2 r3 r4 r5 r6 d0 d1 d2 d3 d4 d5 d6 s0 s1 s2 s3 s4 s5 s6; obtain ⟨c0, c1, c2, c3, c4, c5, c6⟩ := T3.out.box.cells; obtain ⟨r0, r1, r2, r3, r4, r5, r6⟩ := T3.out.box.frs; obtain ⟨d0, d1, d2, d3, d4, d5, d6⟩ := T3.out.res.cells; obtain ⟨s0, s1, s2, s3, s4, s5, s6⟩ := T3.out.res.frs; clear hb)
          have S3 := Lib.hid (T3.out.set6 t3)
          obtain ⟨W3, hW3⟩ : ∃ W, W = w3.setCell ⟨g, 6, none⟩ (.int .i64 t3) := ⟨_, rfl⟩
          rw [← hW3] at S3 ⊢
          clear hW3 T3
          clear c0 c1 c2 c3 c4 c5 c6 r0 r1 r2 r3 r4 r5 r6 d0 d1 d2 d3 d4 d5 d6 s0 s1 s2 s3 s4 s5 s6
          obtain ⟨c0, c1, c2, c3, c4, c5, c6⟩ := S3.out.box.cells
          obtain ⟨r0, r1, r2, r3, r4, r5, r6⟩ := S3.out.box.frs
          obtain ⟨d0, d1, d2, d3, d4, d5, d6⟩ := S3.out.res.cells
          obtain ⟨s0, s1, s2, s3, s4, s5, s6⟩ := S3.out.res.frs
          go_upto_region 7 with (first
              | (go_at_call 37; (with_reducible refine (P34.out _).mono ?_); rintro e w' ⟨rfl, rfl⟩)
              | (go_at_call 37; (with_reducible refine (P32.out _).mono ?_); rintro e w' ⟨rfl, rfl⟩)
              | (go_at_call 38; (with_reducible refine (P0.out _).mono ?_); rintro e w' ⟨rfl, rfl⟩))
          have S4 := Lib.hid (S3.out.set3 (x : Int))
          obtain ⟨W4, hW4⟩ : ∃ W, W = W3.setCell ⟨g, 3, none⟩ (.int .i64 (x : Int)) := ⟨_, rfl⟩
          rw [← hW4] at S4 ⊢
          clear hW4
          clear c0 c1 c2 c3 c4 c5 c6 r0 r1 r2 r3 r4 r5 r6 d0 d1 d2 d3 d4 d5 d6 s0 s1 s2 s3 s4 s5 s6
          obtain ⟨c0, c1, c2, c3, c4, c5, c6⟩ := S4.out.box.cells
          obtain ⟨r0, r1, r2, r3, r4, r5, r6⟩ := S4.out.box.frs
          obtain ⟨d0, d1, d2, d3, d4, d5, d6⟩ := S4.out.res.cells
          obtain ⟨s0, s1, s2, s3, s4, s5, s6⟩ := S4.out.res.frs
          go_wp2_with (first
              | (go_at_call 37; (with_reducible refine (P34.out _).mono ?_); rintro e w' ⟨rfl, rfl⟩)
              | (go_at_call 37; (with_reducible refine (P32.out _).mono ?_); rintro e w' ⟨rfl, rfl⟩)
              | (go_at_call 38; (with_reducible refine (P0.out _).mono ?_); rintro e w' ⟨rfl, rfl⟩))
          exact bodyPost_ret (ret_hd rfl rfl rfl (S4.out.res.put { h with a1 := t1, a2 := t2, a3 := t3, me := (x : Int) })) rfl ⟨{ h with a1 := t1, a2 := t2, a3 := t3, me := (x : Int) }, rfl, S4.out.out { h with a1 := t1, a2 := t2, a3 := t3, me := (x : Int) }, fun h => absurd h (by decide)⟩
      · have e1' : ((u : Int) != 0) = true := by simp; omega
        rw [if_neg (by omega)]
        clear k0 k1
        go_enter Try.func29, Try.ntmps29
        go_upto_region 1 with fail
        have S0 := Lib.hid (PS.start2 w h)
        obtain ⟨g, hg⟩ : ∃ g, g = w.heap.size := ⟨_, rfl⟩
        obtain ⟨b, hb⟩ : ∃ b, b = w.heap.size + 1 := ⟨_, rfl⟩
        obtain ⟨W0, hW0⟩ : ∃ W, W = ((w.alloc (.cells #[.int .i64 h.em, .bool h.lg, .int .i64 h.gl, .int .i64 h.me, .int .i64 h.a1, .int .i64 h.a2, .int .i64 h.a3] 23)).alloc (.cells #[.int .i64 0, .bool false, .int .i64 0, .int .i64 0, .int .i64 0, .int .i64 0, .int .i64 0] 23)) := ⟨_, rfl⟩
        have S0 := Lib.hid (show PS w W0 b g Hd.zero h by rw [hW0, hb, hg]; exact S0.out)
        rw [← hb, ← hg, ← hW0]
        clear hb hg hW0
        have nbg : ¬ b = g := S0.out.ne
        have ngb : ¬ g = b := ne_symm S0.out.ne
        obtain ⟨c0, c1, c2, c3, c4, c5, c6⟩ := S0.out.box.cells
        obtain ⟨r0, r1, r2, r3, r4, r5, r6⟩ := S0.out.box.frs
        obtain ⟨d0, d1, d2, d3, d4, d5, d6⟩ := S0.out.res.cells
        obtain ⟨s0, s1, s2, s3, s4, s5, s6⟩ := S0.out.res.frs
        go_upto_region 4 with (go_at_call 39; (with_reducible refine (P4.out _).mono ?_); rintro e w1 ⟨rfl, hb⟩; have T1 := Lib.hid (S0.out.next hb); clear c0 c1 c2 c3 c4 c5 c6 r0 r1 r2 r3 r4 r5 r6 d0 d1 d2 d3 d4 d5 d6 s0 s1 s2 s3 s4 s5 s6; obtain ⟨c0, c1, c2, c3, c4, c5, c6⟩ := T1.out.box.cells; obtain ⟨r0, r1, r2, r3, r4, r5, r6⟩ := T1.out.box.frs; obtain ⟨d0, d1, d2, d3, d4, d5, d6⟩ := T1.out.res.cells; obtain ⟨s0, s1, s2, s3, s4, s5, s6⟩ := T1.out.res.frs; clear hb)
        have S1 := Lib.hid (T1.out.set4 t1)
        obtain ⟨W1, hW1⟩ : ∃ W, W = w1.setCell ⟨g, 4, none⟩ (.int .i64 t1) := ⟨_, rfl⟩
        rw [← hW1] at S1 ⊢
        clear hW1 T1
        clear c0 c1 c2 c3 c4 c5 c6 r0 r1 r2 r3 r4 r5 r6 d0 d1 d2 d3 d4 d5 d6 s0 s1 s2 s3 s4 s5 s6
        obtain ⟨c0, c1, c2, c3, c4, c5, c6⟩ := S1.out.box.cells
        obtain ⟨r0, r1, r2, r3, r4, r5, r6⟩ := S1.out.box.frs
        obtain ⟨d0, d1, d2, d3, d4, d5, d6⟩ := S1.out.res.cells
        obtain ⟨s0, s1, s2, s3, s4, s5, s6⟩ := S1.out.res.frs
        go_upto_region 5 with (go_at_call 39; (with_reducible refine (P6.out _).mono ?_); rintro e w2 ⟨rfl, hb⟩; have T2 := Lib.hid (S1.out.next hb); clear c0 c1 c2 c3 c4 c5 c6 r0 r1 r2 r3 r4 r5 r6 d0 d1 d2 d3 d4 d5 d6 s0 s1 s2 s3 s4 s5 s6; obtain ⟨c0, c1, c2, c3, c4, c5, c6⟩ := T2.out.box.cells; obtain ⟨r0, r1, r2, r3, r4, r5, r6⟩ := T2.out.box.frs; obtain ⟨d0, d1, d2, d3, d4, d5, d6⟩ := T2.out.res.cells; obtain ⟨s0, s1, s2, s3, s4, s5, s6⟩ := T2.out.res.frs; clear hb)
        have S2 := Lib.hid (T2.out.set5 t2)
        obtain ⟨W2, hW2⟩ : ∃ W, W = w2.setCell ⟨g, 5, none⟩ (.int .i64 t2) := ⟨_, rfl⟩
        rw [← hW2] at S2 ⊢
        clear hW2 T2
        clear c0 c1 c2 c3 c4 c5 c6 r0 r1 r2 r3 r4 r5 r6 d0 d1 d2 d3 d4 d5 d6 s0 s1 s2 s3 s4 s5 s6
        obtain ⟨c0, c1, c2, c3, c4, c5, c6⟩ := S2.out.box.cells
        obtain ⟨r0, r1, r2, r3, r4, r5, r6⟩ := S2.out.box.frs
        obtain ⟨d0, d1, d2, d3, d4, d5, d6⟩ := S2.out.res.cells
        obtain ⟨s0, s1, s2, s3, s4, s5, s6⟩ := S2.out.res.frs
        go_upto_region 6 with (go_at_call 39; (with_reducible refine (P8.out _).mono ?_); rintro e w3 ⟨rfl, hb⟩; have T3 := Lib.hid (S2.out.next hb); clear c0 c1 c2 c3 c4 c5 c6 r0 r1 r2 r3 r4 r5 r6 d0 d1 d2 d3 d4 d5 d6 s0 s1 s2 s3 s4 s5 s6; obtain ⟨c0, c1, c2, c3, c4, c5, c6⟩ := T3.out.box.cells; obtain ⟨r0, r1, r2, r3, r4, r5, r6⟩ := T3.out.box.frs; obtain ⟨d0, d1, d2, d3, d4, d5, d6⟩ := T3.out.res.cells; obtain ⟨s0, s1, s2, s3, s4, s5, s6⟩ := T3.out.res.frs; clear hb)
        have S3 := Lib.hid (T3.out.set6 t3)
        obtain ⟨W3, hW3⟩ : ∃ W, W = w3.setCell ⟨g, 6, none⟩ (.int .i64 t3) := ⟨_, rfl⟩
        rw [← hW3] at S3 ⊢
        clear hW3 T3
        clear c0 c1 c2 c3 c4 c5 c6 r0 r1 r2 r3 r4 r5 r6 d0 d1 d2 d3 d4 d5 d6 s0 s1 s2 s3 s4 s5 s6
        obtain ⟨c0, c1, c2, c3, c4, c5, c6⟩ := S3.out.box.cells
        obtain ⟨r0, r1, r2, r3, r4, r5, r6⟩ := S3.out.box.frs
        obtain ⟨d0, d1, d2, d3, d4, d5, d6⟩ := S3.out.res.cells
        obtain ⟨s0, s1, s2, s3, s4, s5, s6⟩ := S3.out.res.frs
        go_upto_region 7 with (first
            | (go_at_call 37; (with_reducible refine (P34.out _).mono ?_); rintro e w' ⟨rfl, rfl⟩)
            | (go_at_call 37; (with_reducible refine (P32.out _).mono ?_); rintro e w' ⟨rfl, rfl⟩)
            | (go_at_call 38; (with_reducible refine (P0.out _).mono ?_); rintro e w' ⟨rfl, rfl⟩))
        have S4 := Lib.hid (S3.out.set3 (x : Int))
        obtain ⟨W4, hW4⟩ : ∃ W, W = W3.setCell ⟨g, 3, none⟩ (.int .i64 (x : Int)) := ⟨_, rfl⟩
        rw [← hW4] at S4 ⊢
        clear hW4
        clear c0 c1 c2 c3 c4 c5 c6 r0 r1 r2 r3 r4 r5 r6 d0 d1 d2 d3 d4 d5 d6 s0 s1 s2 s3 s4 s5 s6
        obtain ⟨c0, c1, c2, c3, c4, c5, c6⟩ := S4.out.box.cells
        obtain ⟨r0, r1, r2, r3, r4, r5, r6⟩ := S4.out.box.frs
        obtain ⟨d0, d1, d2, d3, d4, d5, d6⟩ := S4.out.res.cells
        obtain ⟨s0, s1, s2, s3, s4, s5, s6⟩ := S4.out.res.frs
        go_wp2_with (first
            | (go_at_call 37; (with_reducible refine (P34.out _).mono ?_); rintro e w' ⟨rfl, rfl⟩)
            | (go_at_call 37; (with_reducible refine (P32.out _).mono ?_); rintro e w' ⟨rfl, rfl⟩)
            | (go_at_call 38; (with_reducible refine (P0.out _).mono ?_); rintro e w' ⟨rfl, rfl⟩))
        exact bodyPost_ret (ret_hd rfl rfl rfl (S4.out.res.put { h with a1 := t1, a2 := t2, a3 := t3, me := (x : Int) })) rfl ⟨{ h with a1 := t1, a2 := t2, a3 := t3, me := (x : Int) }, rfl, S4.out.out { h with a1 := t1, a2 := t2, a3 := t3, me := (x : Int) }, fun h => absurd h (by decide)⟩
    · have e0' : ((z : Int) != 65536) = true := by simp; omega
      rw [if_neg (by omega)]
      clear k0
      go_enter Try.func29, Try.ntmps29
      go_upto_region 1 with fail
      have S0 := Lib.hid (PS.start2 w h)
      obtain ⟨g, hg⟩ : ∃ g, g = w.heap.size := ⟨_, rfl⟩
      obtain ⟨b, hb⟩ : ∃ b, b = w.heap.size + 1 := ⟨_, rfl⟩
      obtain ⟨W0, hW0⟩ : ∃ W, W = ((w.alloc (.cells #[.int .i64 h.em, .bool h.lg, .int .i64 h.gl, .int .i64 h.me, .int .i64 h.a1, .int .i64 h.a2, .int .i64 h.a3] 23)).alloc (.cells #[.int .i64 0, .bool false, .int .i64 0, .int .i64 0, .int .i64 0, .int .i64 0, .int .i64 0] 23)) := ⟨_, rfl⟩
      have S0 := Lib.hid (show PS w W0 b g Hd.zero h by rw [hW0, hb, hg]; exact S0.out)
      rw [← hb, ← hg, ← hW0]
      clear hb hg hW0
      have nbg : ¬ b = g := S0.out.ne
      have ngb : ¬ g = b := ne_symm S0.out.ne
      obtain ⟨c0, c1, c2, c3, c4, c5, c6⟩ := S0.out.box.cells
      obtain ⟨r0, r1, r2, r3, r4, r5, r6⟩ := S0.out.box.frs
      obtain ⟨d0, d1, d2, d3, d4, d5, d6⟩ := S0.out.res.cells
      obtain ⟨s0, s1, s2, s3, s4, s5, s6⟩ := S0.out.res.frs
      go_upto_region 4 with (go_at_call 39; (with_reducible refine (P4.out _).mono ?_); rintro e w1 ⟨rfl, hb⟩; have T1 := Lib.hid (S0.out.next hb); clear c0 c1 c2 c3 c4 c5 c6 r0 r1 r2 r3 r4 r5 r6 d0 d1 d2 d3 d4 d5 d6 s0 s1 s2 s3 s4 s5 s6; obtain ⟨c0, c1, c2, c3, c4, c5, c6⟩ := T1.out.box.cells; obtain ⟨r0, r1, r2, r3, r4, r5, r6⟩ := T1.out.box.frs; obtain ⟨d0, d1, d2, d3, d4, d5, d6⟩ := T1.out.res.cells; obtain ⟨s0, s1, s2, s3, s4, s5, s6⟩ := T1.out.res.frs; clear hb)
      have S1 := Lib.hid (T1.out.set4 t1)
      obtain ⟨W1, hW1⟩ : ∃ W, W = w1.setCell ⟨g, 4, none⟩ (.int .i64 t1) := ⟨_, rfl⟩
      rw [← hW1] at S1 ⊢
      clear hW1 T1
      clear c0 c1 c2 c3 c4 c5 c6 r0 r1 r2 r3 r4 r5 r6 d0 d1 d2 d3 d4 d5 d6 s0 s1 s2 s3 s4 s5 s6
      obtain ⟨c0, c1, c2, c3, c4, c5, c6⟩ := S1.out.box.cells
      obtain ⟨r0, r1, r2, r3, r4, r5, r6⟩ := S1.out.box.frs
      obtain ⟨d0, d1, d2, d3, d4, d5, d6⟩ := S1.out.res.cells
      obtain ⟨s0, s1, s2, s3, s4, s5, s6⟩ := S1.out.res.frs
      go_upto_region 5 with (go_at_call 39; (with_reducible refine (P6.out _).mono ?_); rintro e w2 ⟨rfl, hb⟩; have T2 := Lib.hid (S1.out.next hb); clear c0 c1 c2 c3 c4 c5 c6 r0 r1 r2 r3 r4 r5 r6 d0 d1 d2 d3 d4 d5 d6 s0 s1 s2 s3 s4 s5 s6; obtain ⟨c0, c1, c2, c3, c4, c5, c6⟩ := T2.out.box.cells; obtain ⟨r0, r1, r2, r3, r4, r5, r6⟩ := T2.out.box.frs; obtain ⟨d0, d1, d2, d3, d4, d5, d6⟩ := T2.out.res.cells; obtain ⟨s0, s1, s2, s3, s4, s5, s6⟩ := T2.out.res.frs; clear hb)
      have S2 := Lib.hid (T2.out.set5 t2)
      obtain ⟨W2, hW2⟩ : ∃ W, W = w2.setCell ⟨g, 5, none⟩ (.int .i64 t2) := ⟨_, rfl⟩
      rw [← hW2] at S2 ⊢
      clear hW2 T2
      clear c0 c1 c2 c3 c4 c5 c6 r0 r1 r2 r3 r4 r5 r6 d0 d1 d2 d3 d4 d5 d6 s0 s1 s2 s3 s4 s5 s6
      obtain ⟨c0, c1, c2, c3, c4, c5, c6⟩ := S2.out.box.cells
      obtain ⟨r0, r1, r2, r3, r4, r5, r6⟩ := S2.out.box.frs
      obtain ⟨d0, d1, d2, d3, d4, d5, d6⟩ := S2.out.res.cells
      obtain ⟨s0, s1, s2, s3, s4, s5, s6⟩ := S2.out.res.frs
      go_upto_region 6 with (go_at_call 39; (with_reducible refine (P8.out _).mono ?_); rintro e w3 ⟨rfl, hb⟩; have T3 := Lib.hid (S2.out.next hb); clear c0 c1 c2 c3 c4 c5 c6 r0 r1 r2 r3 r4 r5 r6 d0 d1 d2 d3 d4 d5 d6 s0 s1 s2 s3 s4 s5 s6; obtain ⟨c0, c1, c2, c3, c4, c5, c6⟩ := T3.out.box.cells; obtain ⟨r0, r1, r2, r3, r4, r5, r6⟩ := T3.out.box.frs; obtain ⟨d0, d1, d2, d3, d4, d5, d6⟩ := T3.out.res.cells; obtain ⟨s0, s1, s2, s3, s4, s5, s6⟩ := T3.out.res.frs; clear hb)
      have S3 := Lib.hid (T3.out.set6 t3)
      obtain ⟨W3, hW3⟩ : ∃ W, W = w3.setCell ⟨g, 6, none⟩ (.int .i64 t3) := ⟨_, rfl⟩
      rw [← hW3] at S3 ⊢
      clear hW3 T3
      clear c0 c1 c2 c3 c4 c5 c6 r0 r1 r2 r3 r4 r5 r6 d0 d1 d2 d3 d4 d5 d6 s0 s1 s2 s3 s4 s5 s6
      obtain ⟨c0, c1, c2, c3, c4, c5, c6⟩ := S3.out.box.cells
      obtain ⟨r0, r1, r2, r3, r4, r5, r6⟩ := S3.out.box.frs
      obtain ⟨d0, d1, d2, d3, d4, d5, d6⟩ := S3.out.res.cells
      obtain ⟨s0, s1, s2, s3, s4, s5, s6⟩ := S3.out.res.frs
      go_upto_region 7 with (first
          | (go_at_call 37; (with_reducible refine (P34.out _).mono ?_); rintro e w' ⟨rfl, rfl⟩)
          | (go_at_call 37; (with_reducible refine (P32.out _).mono ?_); rintro e w' ⟨rfl, rfl⟩)
          | (go_at_call 38; (with_reducible refine (P0.out _).mono ?_); rintro e w' ⟨rfl, rfl⟩))
      have S4 := Lib.hid (S3.out.set3 (x : Int))
      obtain ⟨W4, hW4⟩ : ∃ W, W = W3.setCell ⟨g, 3, none⟩ (.int .i64 (x : Int)) := ⟨_, rfl⟩
      rw [← hW4] at S4 ⊢
      clear hW4
      clear c0 c1 c2 c3 c4 c5 c6 r0 r1 r2 r3 r4 r5 r6 d0 d1 d2 d3 d4 d5 d6 s0 s1 s2 s3 s4 s5 s6
      obtain ⟨c0, c1, c2, c3, c4, c5, c6⟩ := S4.out.box.cells
      obtain ⟨r0, r1, r2, r3, r4, r5, r6⟩ := S4.out.box.frs
      obtain ⟨d0, d1, d2, d3, d4, d5, d6⟩ := S4.out.res.cells
      obtain ⟨s0, s1, s2, s3, s4, s5, s6⟩ := S4.out.res.frs
      go_wp2_with (first
          | (go_at_call 37; (with_reducible refine (P34.out _).mono ?_); rintro e w' ⟨rfl, rfl⟩)
          | (go_at_call 37; (with_reducible refine (P32.out _).mono ?_); rintro e w' ⟨rfl, rfl⟩)
          | (go_at_call 38; (with_reducible refine (P0.out _).mono ?_); rintro e w' ⟨rfl, rfl⟩))
      exact bodyPost_ret (ret_hd rfl rfl rfl (S4.out.res.put { h with a1 := t1, a2 := t2, a3 := t3, me := (x : Int) })) rfl ⟨{ h with a1 := t1, a2 := t2, a3 := t3, me := (x : Int) }, rfl, S4.out.out { h with a1 := t1, a2 := t2, a3 := t3, me := (x : Int) }, fun h => absurd h (by decide)⟩
end Go.Proofs.Ytphnapnmeidgkaa
