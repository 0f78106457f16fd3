/- Proved here: what the document's maxp and hhea answer. Condition: texts of at most a billion bytes. -/
import Derived.Test.YtphnapnmeidgkaaHg
namespace Go.Proofs.Ytphnapnmeidgkaa
open Go.RowKit

set_option maxHeartbeats 4000000 in
theorem rmaxp_any (s : ByteArray) (h : Hd) (d : List UInt8) (w : World) (hs : s.size ≤ 1000000000) (hdl : s.data.toList = d) :
    Calls Try.prog 28 #[.string s, .agg #[.int .i64 h.em, .bool h.lg, .int .i64 h.gl, .int .i64 h.me, .int .i64 h.a1, .int .i64 h.a2, .int .i64 h.a3]] w fun e w' => ∃ k, e = .returned (.tuple #[Hd.val k, .int .i64 (maxpE d : Int)]) ∧ Below w.heap.size w w' ∧ Ok0 (maxpE d) k (h2 d h) := by
  have hz : d.length = s.size := by rw [← hdl, size_list]
  by_cases hl : s.size < 32
  · have e0 : maxpE d = 3 := by unfold maxpE; rw [if_pos (by omega)]
    rw [e0]
    have dl : decide ((s.size : Int) < 32) = true := decide_eq_true (by omega)
    clear hs hdl hz hl e0
    go_enter Try.func28, Try.ntmps28
    go_upto_region 1 with fail
    have S0 := Lib.hid (PS.start2 w h)
    obtain ⟨g, hg⟩ : ∃ g, g = w.heap.size := ⟨_, rfl⟩
    obtain ⟨b, hb⟩ : ∃ b, b = w.heap.size + 1 := ⟨_, rfl⟩
    obtain ⟨W0, hW0⟩ : ∃ W, W = ((w.alloc (.cells #[.int .i64 h.em, .bool h.lg, .int .i64 h.gl, .int .i64 h.me, .int .i64 h.a1, .int .i64 h.a2, .int .i64 h.a3] 23)).alloc (.cells #[.int .i64 0, .bool false, .int .i64 0, .int .i64 0, .int .i64 0, .int .i64 0, .int .i64 0] 23)) := ⟨_, rfl⟩
    have S0 := Lib.hid (show PS w W0 b g Hd.zero h by rw [hW0, hb, hg]; exact S0.out)
    rw [← hb, ← hg, ← hW0]
    clear hb hg hW0
    have nbg : ¬ b = g := S0.out.ne
    have ngb : ¬ g = b := ne_symm S0.out.ne
    obtain ⟨c0, c1, c2, c3, c4, c5, c6⟩ := S0.out.box.cells
    obtain ⟨r0, r1, r2, r3, r4, r5, r6⟩ := S0.out.box.frs
    obtain ⟨d0, d1, d2, d3, d4, d5, d6⟩ := S0.out.res.cells
    obtain ⟨s0, s1, s2, s3, s4, s5, s6⟩ := S0.out.res.frs
    go_wp2_with fail
    exact bodyPost_ret (ret_hd rfl rfl rfl (S0.out.res.put h)) rfl ⟨h, rfl, S0.out.out h, fun h => absurd h (by decide)⟩
  · have dl : decide ((s.size : Int) < 32) = false := decide_eq_false (by omega)
    have p4 := fun W => r16_any s 4 4 rfl W hs (by omega)
    have p0 := fun W => r32_any s 0 0 rfl W hs (by omega)
    rw [hdl] at p4 p0
    unfold maxpE h2
    rw [if_neg (by omega)]
    obtain ⟨x, hx⟩ : ∃ x, x = n2 d 4 := ⟨_, rfl⟩
    obtain ⟨z, hzz⟩ : ∃ x, x = n4 d 0 := ⟨_, rfl⟩
    rw [← hx] at p4 ⊢
    rw [← hzz] at p0 ⊢
    have P4 := Lib.hid p4
    have P0 := Lib.hid p0
    clear p4 p0 hx hzz hs hdl hz hl
    by_cases k0 : z = 65536
    · have e0' : ((z : Int) != 65536) = false := by simp; omega
      by_cases k1 : x = 0
      · have e1' : decide (1024 < (x : Int)) = false := decide_eq_false (by omega)
        have e2' : ((x : Int) == 0) = true := by simp; omega
        rw [if_neg (by omega)]
        clear k0 k1
        go_enter Try.func28, Try.ntmps28
        go_upto_region 1 with fail
        have S0 := Lib.hid (PS.start2 w h)
        obtain ⟨g, hg⟩ : ∃ g, g = w.heap.size := ⟨_, rfl⟩
        obtain ⟨b, hb⟩ : ∃ b, b = w.heap.size + 1 := ⟨_, rfl⟩
        obtain ⟨W0, hW0⟩ : ∃ W, W = ((w.alloc (.cells #[.int .i64 h.em, .bool h.lg, .int .i64 h.gl, .int .i64 h.me, .int .i64 h.a1, .int .i64 h.a2, .int .i64 h.a3] 23)).alloc (.cells #[.int .i64 0, .bool false, .int .i64 0, .int .i64 0, .int .i64 0, .int .i64 0, .int .i64 0] 23)) := ⟨_, rfl⟩
        have S0 := Lib.hid (show PS w W0 b g Hd.zero h by rw [hW0, hb, hg]; exact S0.out)
        rw [← hb, ← hg, ← hW0]
        clear hb hg hW0
        have nbg : ¬ b = g := S0.out.ne
        have ngb : ¬ g = b := ne_symm S0.out.ne
        obtain ⟨c0, c1, c2, c3, c4, c5, c6⟩ := S0.out.box.cells
        obtain ⟨r0, r1, r2, r3, r4, r5, r6⟩ := S0.out.box.frs
        obtain ⟨d0, d1, d2, d3, d4, d5, d6⟩ := S0.out.res.cells
        obtain ⟨s0, s1, s2, s3, s4, s5, s6⟩ := S0.out.res.frs
        go_upto_region 6 with (first
            | (go_at_call 37; (with_reducible refine (P4.out _).mono ?_); rintro e w' ⟨rfl, rfl⟩)
            | (go_at_call 38; (with_reducible refine (P0.out _).mono ?_); rintro e w' ⟨rfl, rfl⟩))
        have S1 := Lib.hid (S0.out.set2 (x : Int))
        obtain ⟨W1, hW1⟩ : ∃ W, W = W0.setCell ⟨g, 2, none⟩ (.int .i64 (x : Int)) := ⟨_, rfl⟩
        rw [← hW1] at S1 ⊢
        clear hW1
        clear c0 c1 c2 c3 c4 c5 c6 r0 r1 r2 r3 r4 r5 r6 d0 d1 d2 d3 d4 d5 d6 s0 s1 s2 s3 s4 s5 s6
        obtain ⟨c0, c1, c2, c3, c4, c5, c6⟩ := S1.out.box.cells
        obtain ⟨r0, r1, r2, r3, r4, r5, r6⟩ := S1.out.box.frs
        obtain ⟨d0, d1, d2, d3, d4, d5, d6⟩ := S1.out.res.cells
        obtain ⟨s0, s1, s2, s3, s4, s5, s6⟩ := S1.out.res.frs
        go_wp2_with (first
            | (go_at_call 37; (with_reducible refine (P4.out _).mono ?_); rintro e w' ⟨rfl, rfl⟩)
            | (go_at_call 38; (with_reducible refine (P0.out _).mono ?_); rintro e w' ⟨rfl, rfl⟩))
        exact bodyPost_ret (ret_hd rfl rfl rfl (S1.out.res.put { h with gl := (x : Int) })) rfl ⟨{ h with gl := (x : Int) }, rfl, S1.out.out { h with gl := (x : Int) }, fun h => absurd h (by decide)⟩
      · rw [if_pos (by omega)]
        by_cases k2 : 1024 < x
        · have e1' : decide (1024 < (x : Int)) = true := decide_eq_true (by omega)
          rw [if_pos k2]
          clear k0 k1 k2
          go_enter Try.func28, Try.ntmps28
          go_upto_region 1 with fail
          have S0 := Lib.hid (PS.start2 w h)
          obtain ⟨g, hg⟩ : ∃ g, g = w.heap.size := ⟨_, rfl⟩
          obtain ⟨b, hb⟩ : ∃ b, b = w.heap.size + 1 := ⟨_, rfl⟩
          obtain ⟨W0, hW0⟩ : ∃ W, W = ((w.alloc (.cells #[.int .i64 h.em, .bool h.lg, .int .i64 h.gl, .int .i64 h.me, .int .i64 h.a1, .int .i64 h.a2, .int .i64 h.a3] 23)).alloc (.cells #[.int .i64 0, .bool false, .int .i64 0, .int .i64 0, .int .i64 0, .int .i64 0, .int .i64 0] 23)) := ⟨_, rfl⟩
          have S0 := Lib.hid (show PS w W0 b g Hd.zero h by rw [hW0, hb, hg]; exact S0.out)
          rw [← hb, ← hg, ← hW0]
          clear hb hg hW0
          have nbg : ¬ b = g := S0.out.ne
          have ngb : ¬ g = b := ne_symm S0.out.ne
          obtain ⟨c0, c1, c2, c3, c4, c5, c6⟩ := S0.out.box.cells
          obtain ⟨r0, r1, r2, r3, r4, r5, r6⟩ := S0.out.box.frs
          obtain ⟨d0, d1, d2, d3, d4, d5, d6⟩ := S0.out.res.cells
          obtain ⟨s0, s1, s2, s3, s4, s5, s6⟩ := S0.out.res.frs
          go_upto_region 6 with (first
              | (go_at_call 37; (with_reducible refine (P4.out _).mono ?_); rintro e w' ⟨rfl, rfl⟩)
              | (go_at_call 38; (with_reducible refine (P0.out _).mono ?_); rintro e w' ⟨rfl, rfl⟩))
          have S1 := Lib.hid (S0.out.set2 (x : Int))
          obtain ⟨W1, hW1⟩ : ∃ W, W = W0.setCell ⟨g, 2, none⟩ (.int .i64 (x : Int)) := ⟨_, rfl⟩
          rw [← hW1] at S1 ⊢
          clear hW1
          clear c0 c1 c2 c3 c4 c5 c6 r0 r1 r2 r3 r4 r5 r6 d0 d1 d2 d3 d4 d5 d6 s0 s1 s2 s3 s4 s5 s6
          obtain ⟨c0, c1, c2, c3, c4, c5, c6⟩ := S1.out.box.cells
          obtain ⟨r0, r1, r2, r3, r4, r5, r6⟩ := S1.out.box.frs
          obtain ⟨d0, d1, d2, d3, d4, d5, d6⟩ := S1.out.res.cells
          obtain ⟨s0, s1, s2, s3, s4, s5, s6⟩ := S1.out.res.frs
          go_wp2_with (first
              | (go_at_call 37; (with_reducible refine (P4.out _).mono ?_); rintro e w' ⟨rfl, rfl⟩)
              | (go_at_call 38; (with_reducible refine (P0.out _).mono ?_); rintro e w' ⟨rfl, rfl⟩))
          exact bodyPost_ret (ret_hd rfl rfl rfl (S1.out.res.put { h with gl := (x : Int) })) rfl ⟨{ h with gl := (x : Int) }, rfl, S1.out.out { h with gl := (x : Int) }, fun h => absurd h (by decide)⟩
        · have e1' : decide (1024 < (x : Int)) = false := decide_eq_false (by omega)
          have e2' : ((x : Int) == 0) = false := by simp; omega
          rw [if_neg k2]
          clear k0 k1 k2
          go_enter Try.func28, Try.ntmps28
          go_upto_region 1 with fail
          have S0 := Lib.hid (PS.start2 w h)
          obtain ⟨g, hg⟩ : ∃ g, g = w.heap.size := ⟨_, rfl⟩
          obtain ⟨b, hb⟩ : ∃ b, b = w.heap.size + 1 := ⟨_, rfl⟩
          obtain ⟨W0, hW0⟩ : ∃ W, W = ((w.alloc (.cells #[.int .i64 h.em, .bool h.lg, .int .i64 h.gl, .int .i64 h.me, .int .i64 h.a1, .int .i64 h.a2, .int .i64 h.a3] 23)).alloc (.cells #[.int .i64 0, .bool false, .int .i64 0, .int .i64 0, .int .i64 0, .int .i64 0, .int .i64 0] 23)) := ⟨_, rfl⟩
          have S0 := Lib.hid (show PS w W0 b g Hd.zero h by rw [hW0, hb, hg]; exact S0.out)
          rw [← hb, ← hg, ← hW0]
          clear hb hg hW0
          have nbg : ¬ b = g := S0.out.ne
          have ngb : ¬ g = b := ne_symm S0.out.ne
          obtain ⟨c0, c1, c2, c3, c4, c5, c6⟩ := S0.out.box.cells
          obtain ⟨r0, r1, r2, r3, r4, r5, r6⟩ := S0.out.box.frs
          obtain ⟨d0, d1, d2, d3, d4, d5, d6⟩ := S0.out.res.cells
          obtain ⟨s0, s1, s2, s3, s4, s5, s6⟩ := S0.out.res.frs
          go_upto_region 6 with (first
              | (go_at_call 37; (with_reducible refine (P4.out _).mono ?_); rintro e w' ⟨rfl, rfl⟩)
              | (go_at_call 38; (with_reducible refine (P0.out _).mono ?_); rintro e w' ⟨rfl, rfl⟩))
          have S1 := Lib.hid (S0.out.set2 (x : Int))
          obtain ⟨W1, hW1⟩ : ∃ W, W = W0.setCell ⟨g, 2, none⟩ (.int .i64 (x : Int)) := ⟨_, rfl⟩
          rw [← hW1] at S1 ⊢
          clear hW1
          clear c0 c1 c2 c3 c4 c5 c6 r0 r1 r2 r3 r4 r5 r6 d0 d1 d2 d3 d4 d5 d6 s0 s1 s2 s3 s4 s5 s6
          obtain ⟨c0, c1, c2, c3, c4, c5, c6⟩ := S1.out.box.cells
          obtain ⟨r0, r1, r2, r3, r4, r5, r6⟩ := S1.out.box.frs
          obtain ⟨d0, d1, d2, d3, d4, d5, d6⟩ := S1.out.res.cells
          obtain ⟨s0, s1, s2, s3, s4, s5, s6⟩ := S1.out.res.frs
          go_wp2_with (first
              | (go_at_call 37; (with_reducible refine (P4.out _).mono ?_); rintro e w' ⟨rfl, rfl⟩)
              | (go_at_call 38; (with_reducible refine (P0.out _).mono ?_); rintro e w' ⟨rfl, rfl⟩))
          exact bodyPost_ret (ret_hd rfl rfl rfl (S1.out.res.put { h with gl := (x : Int) })) rfl ⟨{ h with gl := (x : Int) }, rfl, S1.out.out { h with gl := (x : Int) }, fun _ => rfl⟩
    · have e0' : ((z : Int) != 65536) = true := by simp; omega
      rw [if_neg (by omega)]
      clear k0
      go_enter Try.func28, Try.ntmps28
      go_upto_region 1 with fail
      have S0 := Lib.hid (PS.start2 w h)
      obtain ⟨g, hg⟩ : ∃ g, g = w.heap.size := ⟨_, rfl⟩
      obtain ⟨b, hb⟩ : ∃ b, b = w.heap.size + 1 := ⟨_, rfl⟩
      obtain ⟨W0, hW0⟩ : ∃ W, W = ((w.alloc (.cells #[.int .i64 h.em, .bool h.lg, .int .i64 h.gl, .int .i64 h.me, .int .i64 h.a1, .int .i64 h.a2, .int .i64 h.a3] 23)).alloc (.cells #[.int .i64 0, .bool false, .int .i64 0, .int .i64 0, .int .i64 0, .int .i64 0, .int .i64 0] 23)) := ⟨_, rfl⟩
      have S0 := Lib.hid (show PS w W0 b g Hd.zero h by rw [hW0, hb, hg]; exact S0.out)
      rw [← hb, ← hg, ← hW0]
      clear hb hg hW0
      have nbg : ¬ b = g := S0.out.ne
      have ngb : ¬ g = b := ne_symm S0.out.ne
      obtain ⟨c0, c1, c2, c3, c4, c5, c6⟩ := S0.out.box.cells
      obtain ⟨r0, r1, r2, r3, r4, r5, r6⟩ := S0.out.box.frs
      obtain ⟨d0, d1, d2, d3, d4, d5, d6⟩ := S0.out.res.cells
      obtain ⟨s0, s1, s2, s3, s4, s5, s6⟩ := S0.out.res.frs
      go_wp2_with (first
          | (go_at_call 37; (with_reducible refine (P4.out _).mono ?_); rintro e w' ⟨rfl, rfl⟩)
          | (go_at_call 38; (with_reducible refine (P0.out _).mono ?_); rintro e w' ⟨rfl, rfl⟩))
      exact bodyPost_ret (ret_hd rfl rfl rfl (S0.out.res.put h)) rfl ⟨h, rfl, S0.out.out h, fun h => absurd h (by decide)⟩
end Go.Proofs.Ytphnapnmeidgkaa
