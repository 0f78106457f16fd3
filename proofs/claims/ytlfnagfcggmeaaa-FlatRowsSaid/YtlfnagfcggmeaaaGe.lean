/- Proved here: what the law FlatRows answers, over memory. Condition: a row of pairs that lies in memory. -/
import Derived.Test.YtlfnagfcggmeaaaGd
import Derived.Test.YtlfnagfcggmeaaaGc
import Derived.BigQuiet
namespace Go.Proofs.Ytlfnagfcggmeaaa
open Go.RowKit

theorem Try.info50z : (Try.prog.info? 50).map (fun i => (i.zero, i.size, i.bytes)) = some (some (.agg #[.slice none 0 0, .slice none 0 0]), 2, 48) := by kernel_rfl
/-- Pairs of small numbers, as they lie in memory. -/
structure Rl (w : World) (A : Option Addr) (m : Nat) (D : Nat → Int × Int) : Prop where
  get : ∀ i, i < m → ∃ ad, A = some ad ∧ ad.block < w.heap.size ∧ w.cell? (ad.add (i * 2)) = some (.int .i8 (D i).1) ∧ w.cell? (ad.add (i * 2 + 1)) = some (.int .i8 (D i).2)
theorem Rl.at_ {w : World} {A : Option Addr} {m : Nat} {D : Nat → Int × Int} (h : Rl w A m D) {W : World} (hb : Below w.heap.size w W) {i : Nat} (hi : i < m) :
    ∃ ad, A = some ad ∧ W.cell? (ad.add (i * 2)) = some (.int .i8 (D i).1) ∧ W.cell? { block := (ad.add (i * 2)).block, off := (ad.add (i * 2)).off + 1 } = some (.int .i8 (D i).2) := by
  obtain ⟨ad, h1, h2, h3, h4⟩ := h.get i hi
  exact ⟨ad, h1, by rw [hb.cell (by rw [block_of_add]; exact h2)]; exact h3, by rw [add_next, hb.cell (by rw [block_of_add]; exact h2)]; exact h4⟩
theorem RoW.start (w : World) (G : Nat → Int) (D : Nat → Int × Int) (g : Nat → Nat) :
    RoW w (((w.alloc (.cells #[.int .i64 3, .int .i64 4, .bool true] 46)).alloc (.cells #[.slice (some ⟨w.heap.size, 0, none⟩) 1 1] 47)).alloc (.cells #[.slice (some ⟨w.heap.size + 1, 0, none⟩) 1 1, .slice none 0 0] 50)) (.slice (some ⟨w.heap.size + 2, 0, none⟩) 1 1) 0 G D [.slice (some ⟨w.heap.size + 1, 0, none⟩) 1 1, .slice none 0 0] g w.heap.size (w.heap.size + 1) := by
  obtain ⟨w1, e1⟩ : ∃ W, W = w.alloc (.cells #[.int .i64 3, .int .i64 4, .bool true] 46) := ⟨_, rfl⟩
  obtain ⟨w2, e2⟩ : ∃ W, W = w1.alloc (.cells #[.slice (some ⟨w.heap.size, 0, none⟩) 1 1] 47) := ⟨_, rfl⟩
  obtain ⟨w3, e3⟩ : ∃ W, W = w2.alloc (.cells #[.slice (some ⟨w.heap.size + 1, 0, none⟩) 1 1, .slice none 0 0] 50) := ⟨_, rfl⟩
  have s1 : w1.heap.size = w.heap.size + 1 := by rw [e1]; simp
  have s2 : w2.heap.size = w.heap.size + 2 := by rw [e2]; simp [s1]
  have g0 := heap_alloc_new w (.cells #[.int .i64 3, .int .i64 4, .bool true] 46)
  have g1 := heap_alloc_new w1 (.cells #[.slice (some ⟨w.heap.size, 0, none⟩) 1 1] 47)
  rw [← e1] at g0
  rw [← e2, s1] at g1
  have b2 : Below w2.heap.size w2 w3 := by rw [e3]; exact (Below.refl _ _).alloc (Nat.le_refl _) _
  have b1 : Below w1.heap.size w1 w3 := Below.trans (by rw [e2]; exact (Below.refl _ _).alloc (Nat.le_refl _) _) (b2.mono (by omega))
  have b0 : Below w.heap.size w w3 := Below.trans (by rw [e1]; exact (Below.refl _ _).alloc (Nat.le_refl _) _) (b1.mono (by omega))
  have ho := World.ownsRow_lit (base := w.heap.size) (e := 50) (size := 2) w2 #[.slice (some ⟨w.heap.size + 1, 0, none⟩) 1 1, .slice none 0 0] 1 (by omega) (by decide) rfl
  rw [← e3, s2] at ho
  rw [← e1, ← e2, ← e3]
  exact ⟨b0, ho, rfl, rfl, (b1.block _ (by omega)).trans g0, (b2.block _ (by omega)).trans g1, fun i hi => by omega, fun i j _ h => by omega, fun i hi => by omega⟩
set_option maxHeartbeats 8000000 in
set_option maxRecDepth 100000 in
theorem law_rows (A : Option Addr) (m c : Nat) (D : Nat → Int × Int) (bk : Nat) (w : World) (hP : Rl w A m D) (hD : DOk D) (hbk : bk < 256) : Calls Try.prog 5 #[.slice A m c, .int .u8 (bk : Int)] w fun e w' => e = .returned (.bool true) ∧ Below w.heap.size w w' := by
  have CA := Lib.hid (awake_any w)
  by_cases h20 : 20 < m
  · clear hP
    go_enter Try.func5, Try.ntmps5
    go_wp2_with (go_at_call 6; (with_reducible refine CA.out.mono ?_); rintro e w1 ⟨rfl, hb⟩; have B := Lib.hid hb; clear hb)
    go_ret
    exact ⟨rfl, B.out⟩
  have HI := Lib.hid hP
  have HD := Lib.hid hD
  obtain ⟨i50, h26a, h26b, h26c, h26d⟩ := info_parts Try.info50z
  have H50 := Lib.hid (And.intro h26a (And.intro h26b (And.intro h26c h26d)))
  clear hP hD h26a h26b h26c h26d
  go_enter Try.func5, Try.ntmps5
  go_upto_region 6 with (go_at_call 6; (with_reducible refine CA.out.mono ?_); rintro e w1 ⟨rfl, hb⟩; have B := Lib.hid hb; have H0 := Lib.hid (RoW.start w1 (fun i => (i : Int)) D (fun _ => 0)); clear hb)
  generalize (((w1.alloc (.cells #[.int .i64 3, .int .i64 4, .bool true] 46)).alloc (.cells #[.slice (some ⟨w1.heap.size, 0, none⟩) 1 1] 47)).alloc (.cells #[.slice (some ⟨w1.heap.size + 1, 0, none⟩) 1 1, .slice none 0 0] 50)) = W0 at H0 ⊢
  obtain ⟨a0, ha0⟩ : ∃ a : Addr, a = ⟨w1.heap.size + 2, 0, none⟩ := ⟨_, rfl⟩
  obtain ⟨c0, hc0⟩ : ∃ c0, c0 = w1.heap.size := ⟨_, rfl⟩
  rw [← ha0] at H0 ⊢
  have H0 : Hid (RoW w1 W0 (.slice (some a0) 1 1) 0 (fun i => (i : Int)) D [.slice (some ⟨w1.heap.size + 1, 0, none⟩) 1 1, .slice none 0 0] (fun _ => 0) w1.heap.size (w1.heap.size + 1)) := H0
  clear ha0 hc0
  go_wp2_with fail
  go_loopw [5, 6, 7, 29] (fun v x y i wr => ∃ (k : Nat) (A' : Option Addr) (c' : Nat) (cs : List Value) (g : Nat → Nat), i = .int .i64 (k : Int) ∧ k ≤ m ∧ v = .slice A' (k + 1) c' ∧ x = .int .i64 (rX D k) ∧ y = .int .i64 (rY D k) ∧ RoW w1 wr (.slice A' (k + 1) c') k (fun i => (i : Int)) D cs g w1.heap.size (w1.heap.size + 1)) (fun _ _ _ i _ => m - (intOf i).toNat)
  case atStart => exact ⟨0, some a0, 1, _, _, rfl, Nat.zero_le _, rfl, rfl, rfl, H0.out⟩
  case round =>
    obtain ⟨k, A', c', cs, g, rfl, hk, rfl, rfl, rfl, hR⟩ := hrel
    have HR := Lib.hid hR
    have HB := Lib.hid (B.out.trans (hR.bel.mono B.out.size))
    by_cases hgo : k < m
    · obtain ⟨ad, rfl, d0, d1⟩ := HI.out.at_ HB.out hgo
      have hdk := HD.out k
      have hx := rX_in HD.out k
      have HX := Lib.hid (show rX D (k + 1) = rX D k + (D k).1 ∧ rY D (k + 1) = rY D k + (D k).2 from ⟨rfl, rfl⟩)
      have HDk := Lib.hid (show ∀ p, p = D k → p = D k from fun _ h => h)
      obtain ⟨dx, hdx⟩ : ∃ z, z = (D k).1 := ⟨_, rfl⟩
      obtain ⟨dy, hdy⟩ : ∃ z, z = (D k).2 := ⟨_, rfl⟩
      have HDx := Lib.hid hdx
      have HDy := Lib.hid hdy
      obtain ⟨x, hx1⟩ : ∃ z, z = rX D k := ⟨_, rfl⟩
      obtain ⟨y, hy1⟩ : ∃ z, z = rY D k := ⟨_, rfl⟩
      rw [← hdx] at d0
      rw [← hdy] at d1
      rw [← hdx, ← hdy] at hdk HX
      rw [← hx1, ← hy1] at hx HX ⊢
      have w1x : IntKind.i64.wrap dx = dx := i64_in _ (by omega)
      have w1y : IntKind.i64.wrap dy = dy := i64_in _ (by omega)
      have w2x : IntKind.i64.wrap (x + dx) = x + dx := i64_in _ (by omega)
      have w2y : IntKind.i64.wrap (y + dy) = y + dy := i64_in _ (by omega)
      obtain ⟨W1, hW1⟩ : ∃ W, W = wr.alloc (.cells #[.int .i8 dx, .int .i8 dy] 52) := ⟨_, rfl⟩
      obtain ⟨b, hbx⟩ : ∃ b, b = wr.heap.size := ⟨_, rfl⟩
      have hX1 : W1.heap[b]? = some (.cells #[.int .i8 dx, .int .i8 dy] 52 (0, 0)) := by rw [hW1, hbx]; exact heap_alloc_new _ _
      have hR1 := hR.next (show Below wr.heap.size wr W1 from by rw [hW1]; exact (Below.refl _ _).alloc (Nat.le_refl _) _)
      have HR1 := Lib.hid hR1
      have HX1 := Lib.hid hX1
      have x0 : W1.cell? ⟨b, 0, none⟩ = some (.int .i8 dx) := cell_of_row _ _ 0 _ _ _ hX1
      have x1 : W1.cell? ⟨b, 1, none⟩ = some (.int .i8 dy) := cell_of_row _ _ 1 _ _ _ hX1
      clear hR hR1 hX1 hdx hdy
      go_upto_region 10 with fail
      rw [← hW1, ← hbx]
      clear d0 d1 hW1 hbx
      have HP2 := Lib.hid (show (W1.alloc (.cells #[.int .i64 (k : Int), .int .i64 dx, .int .i64 dy, .int .i64 16384, .int .i64 0, .int .i64 0, .int .i64 16384] 54)).heap[W1.heap.size]? = some (.cells #[.int .i64 (k : Int), .int .i64 dx, .int .i64 dy, .int .i64 16384, .int .i64 0, .int .i64 0, .int .i64 16384] 54 (0, 0)) from heap_alloc_new _ _)
      have HB3 := Lib.hid (show Below (W1.alloc (.cells #[.int .i64 (k : Int), .int .i64 dx, .int .i64 dy, .int .i64 16384, .int .i64 0, .int .i64 0, .int .i64 16384] 54)).heap.size (W1.alloc (.cells #[.int .i64 (k : Int), .int .i64 dx, .int .i64 dy, .int .i64 16384, .int .i64 0, .int .i64 0, .int .i64 16384] 54)) ((W1.alloc (.cells #[.int .i64 (k : Int), .int .i64 dx, .int .i64 dy, .int .i64 16384, .int .i64 0, .int .i64 0, .int .i64 16384] 54)).alloc (.cells #[.slice none 0 0, .slice (some ⟨W1.heap.size, 0, none⟩) 1 1] 50)) from (Below.refl _ _).alloc (Nat.le_refl _) _)
      have HB2 := Lib.hid (show Below W1.heap.size W1 ((W1.alloc (.cells #[.int .i64 (k : Int), .int .i64 dx, .int .i64 dy, .int .i64 16384, .int .i64 0, .int .i64 0, .int .i64 16384] 54)).alloc (.cells #[.slice none 0 0, .slice (some ⟨W1.heap.size, 0, none⟩) 1 1] 50)) from ((Below.refl _ _).alloc (Nat.le_refl _) _).alloc (by simp) _)
      have HC3 := Lib.hid (cells_new (W1.alloc (.cells #[.int .i64 (k : Int), .int .i64 dx, .int .i64 dy, .int .i64 16384, .int .i64 0, .int .i64 0, .int .i64 16384] 54)) [.slice none 0 0, .slice (some ⟨W1.heap.size, 0, none⟩) 1 1] 50)
      have HR3 := Lib.hid (HR1.out.next HB2.out)
      have HPk := Lib.hid ((HB3.out.block _ (heap_lt HP2.out)).trans HP2.out)
      have HX3 := Lib.hid ((HB2.out.block _ (heap_lt HX1.out)).trans HX1.out)
      have HGl := Lib.hid (show ∀ i, i < k → g i < W1.heap.size from fun i hi => heap_lt (HR1.out.get i hi).2.2)
      have HGb := Lib.hid (show w1.heap.size ≤ W1.heap.size from HR1.out.bel.size)
      clear HP2
      go_upto_region 11 with (at_builtin; go_must (refine wpList_append_own _ rfl (.tmp 34) (.tmp 45) 22 rfl w1.heap.size 50 i50 _ 2 48 Try.underlying22 H50.out.1 H50.out.2.1 H50.out.2.2.1 H50.out.2.2.2 rfl (by decide) (.slice A' (k + 1) c') (k + 1) cs rfl HR3.out.own ⟨W1.heap.size + 1, 0, none⟩ 1 1 [.slice none 0 0, .slice (some ⟨W1.heap.size, 0, none⟩) 1 1] rfl rfl (by simpa using HC3.out) (by intro u hu; simp at hu; rcases hu with rfl | rfl <;> rfl) (by unfold maxLen; omega) (by omega) HR3.out.bel.size ?_); intro v' w7 hown' hg' _; obtain ⟨A7, c7, rfl⟩ := own_form hown'; have H7 := Lib.hid (HR3.out.push (by rw [← HDx.out, ← HDy.out]; exact HPk.out) HGl.out HGb.out hown' hg'); have HX7 := Lib.hid ((K26.grown HR3.out.own hg').keep _ _ _ _ HX3.out (by decide)); clear hown' hg')
      clear x0 x1
      have x0 : w7.cell? ⟨b, 0, none⟩ = some (.int .i8 dx) := cell_of_row _ _ 0 _ _ _ HX7.out
      have x1 : w7.cell? ⟨b, 1, none⟩ = some (.int .i8 dy) := cell_of_row _ _ 1 _ _ _ HX7.out
      go_wp2_with fail
      go_quiet (fail)
      all_goals
        go_wp2_with fail
        exact ⟨⟨k + 1, A7, c7, _, _, by simp, by omega, rfl, by first | rw [HX.out.1, hx1] | rw [HX.out.1], by first | rw [HX.out.2, hy1] | rw [HX.out.2], H7.out.next (below_drewN (Below.refl _ _) _)⟩, by simp [intOf]; omega⟩
    · obtain rfl : m = k := by omega
      have hrow : RowS (rowL (fun i => (i : Int)) D m) m D 0 := rowL_row (fun _ => rfl) (fun _ _ => rfl) HD.out
      have hmay := hrow.may (by omega) ⟨Int.le_refl _, by omega⟩
      have hlim := may_lim hmay
      have hok : okG15 (rowL (fun i => (i : Int)) D m) (m : Int) := ⟨hmay, by omega, by rw [rowL_len]; omega⟩
      have CO := Lib.hid (fun W (hb : Below wr.heap.size wr W) => outline_any A' (m + 1) c' _ (m : Int) W (hR.shl.bel hb) hlim (by omega))
      have CD := Lib.hid (fun W (hb : Below wr.heap.size wr W) => depth_any A' (m + 1) c' _ (m : Int) W (hR.shl.bel hb) hlim (by omega))
      have Br := Lib.hid (Below.refl wr.heap.size wr)
      by_cases h8 : 8 < m
      · have ho : outA (rowL (fun i => (i : Int)) D m) (m : Int) = (8, []) := by
          have e := row_deep hrow false 8 m [] 0 rfl h8 (Nat.le_refl _) (fun x hx => by cases hx) (by omega)
          have e2 := (goP_nil _ false 8 (m : Int) [] 0 (by rw [e]; decide)).1
          unfold outA
          rw [if_pos hok, e, e2]
        have hd : depA (rowL (fun i => (i : Int)) D m) (m : Int) = (8, 0) := by
          have e := row_deep hrow true 8 m [] 0 rfl h8 (Nat.le_refl _) (fun x hx => by cases hx) (by omega)
          have e2 := (goP_nil _ true 8 (m : Int) [] 0 (by rw [e]; decide)).2
          unfold depA
          rw [if_pos hok, e, e2]
        rw [ho] at CO
        rw [hd] at CD
        clear hR hrow hmay hlim hok ho hd
        go_wp2_with (first
          | (go_at_call 8; (with_reducible refine (CO.out _ Br.out).mono ?_); rintro e w5 ⟨A1, k1, c1, rfl, hC, hb⟩; have Br := Lib.hid (Br.out.trans (hb.mono Br.out.size)); have hk1 : k1 = 0 := hC.len.symm; subst hk1; clear hb hC)
          | (go_at_call 10; (with_reducible refine (CD.out _ Br.out).mono ?_); rintro e w5 ⟨rfl, hb⟩; have Br := Lib.hid (Br.out.trans (hb.mono Br.out.size)); clear hb))
        go_ret
        exact ⟨rfl, HB.out.trans (Br.out.mono HB.out.size)⟩
      · obtain ⟨e1, e2, _, e4⟩ := row_ok hrow false (by omega) m 8 [] 0 (by omega) (Nat.le_refl _) (fun x hx => by cases hx) (by show 0 + m ≤ 8; omega) (by omega)
        have ho : outA (rowL (fun i => (i : Int)) D m) (m : Int) = (0, [[(rX D m, rY D m, true)]]) := by
          unfold outA
          rw [if_pos hok, e1, e4 rfl]
        obtain ⟨e1, e2, _, _⟩ := row_ok hrow true (by omega) m 8 [] 0 (by omega) (Nat.le_refl _) (fun x hx => by cases hx) (by show 0 + m ≤ 8; omega) (by omega)
        have hd : depA (rowL (fun i => (i : Int)) D m) (m : Int) = (0, (m : Int)) := by
          unfold depA
          rw [if_pos hok, e1, e2]
        rw [ho] at CO
        rw [hd] at CD
        clear hR hrow hmay hlim hok ho hd e1 e2 e4
        go_upto_region 15 with (first
          | (go_at_call 8; (with_reducible refine (CO.out _ Br.out).mono ?_); rintro e w5 ⟨A1, k1, c1, rfl, hC, hb⟩; have Br := Lib.hid (Br.out.trans (hb.mono Br.out.size)); have hk1 : k1 = 1 := hC.len.symm; subst hk1; have HC1 := Lib.hid hC; clear hb hC)
          | (go_at_call 10; (with_reducible refine (CD.out _ Br.out).mono ?_); rintro e w5 ⟨rfl, hb⟩; have Br := Lib.hid (Br.out.trans (hb.mono Br.out.size)); have HC1 := Lib.hid (HC1.out.bel hb); clear hb))
        obtain ⟨ad1, bd1, c3, rfl, x0, x1, x2, x3⟩ := Ctl.zero HC1.out
        by_cases h00 : m = 0
        · subst h00
          go_wp2_with fail
          go_ret
          exact ⟨rfl, HB.out.trans (Br.out.mono HB.out.size)⟩
        · have e0 : ((m : Int) == 0) = false := by simp [h00]
          have HR5 := HR.out.next Br.out
          obtain ⟨ad5, hA5, _, hA3⟩ := own_cell HR5.own (by omega)
          subst hA5
          obtain ⟨q1, q2, q3⟩ := HR5.get 0 (by omega)
          have y1 := hA3 _ _ q2
          have y2 := cell_of_row _ _ 0 _ _ _ q3
          have fr : ∀ {W : World} {b : Nat} {cs : Array Value} {T : TypeId}, W.heap[b]? = some (.cells cs T (0, 0)) → W.frozen? ⟨b, 0, none⟩ = false := fun h => by simp [World.frozen?, h]
          have y3 := fr q3
          obtain ⟨r, hr⟩ : ∃ r, r = bk % m := ⟨_, rfl⟩
          have hrm : r < m := by rw [hr]; exact Nat.mod_lt _ (by omega)
          have e5 : (bk : Int).tmod (m : Int) = (r : Int) := by rw [Int.tmod_eq_emod_of_nonneg (by omega), hr]; rfl
          have e6 : IntKind.i64.wrap (bk : Int) = (bk : Int) := i64_in _ (by omega)
          have e7 : IntKind.i64.wrap (r : Int) = (r : Int) := i64_in _ (by omega)
          have e8 : IntKind.i64.wrap (1 + (r : Int)) = 1 + (r : Int) := i64_in _ (by omega)
          have hset := HR5.set (by omega) (1 + (r : Int))
          have hrow2 : RowS (rowL (fun i => if i = 0 then 1 + (r : Int) else (i : Int)) D m) m D (1 + (r : Int)) := rowL_row (fun _ => rfl) (fun i hi => if_neg (by omega)) HD.out
          have hmay2 := hrow2.may (by omega) ⟨by omega, by omega⟩
          have hring := row_ring hrow2 false ⟨by omega, by omega⟩ m 8 [] 0 rfl (by omega) (Nat.le_refl _) (by show 0 + m ≤ 8; omega) (fun x hx => by cases hx) (fun x h1 h2 => by omega) (by omega)
          have hout : outA (rowL (fun i => if i = 0 then 1 + (r : Int) else (i : Int)) D m) (m : Int) = (9, []) := by
            have e2 := (goP_nil _ false 8 (m : Int) [] 0 (by rw [hring]; decide)).1
            unfold outA
            rw [if_pos ⟨hmay2, by omega, by rw [rowL_len]; omega⟩, hring, e2]
          have CZ := Lib.hid (outline_any (some ad5) (m + 1) c' _ (m : Int) _ hset.shl (may_lim hmay2) (by omega))
          rw [hout] at CZ
          have HZ := Lib.hid hset.bel
          rw [show ad5.add ((0 + 1) * 2 + 1) = ⟨ad5.block, ad5.off + 2 + 1, none⟩ from by simp [Addr.add]] at y1
          obtain ⟨g0, hg0⟩ : ∃ b, b = g 0 := ⟨_, rfl⟩
          rw [← hg0] at y1 y2 y3 CZ HZ
          clear hset hrow2 hmay2 hring hout HR5 hA3 q1 q2 q3 hg0 hr fr
          go_wp2_with (go_at_call 8; (with_reducible refine CZ.out.mono ?_); rintro e w6 ⟨A9, k9, c9, rfl, _, hb⟩; have HW := Lib.hid (HZ.out.trans (hb.mono HZ.out.size)); clear hb)
          go_ret
          exact ⟨rfl, B.out.trans (HW.out.mono B.out.size)⟩
end Go.Proofs.Ytlfnagfcggmeaaa
