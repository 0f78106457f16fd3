/- Proved here: what Widths answers, in the program and in the document. Condition: a text of at most a billion bytes. -/
import Derived.Test.YtibbgmahdiphpaaMb
namespace Go.Proofs.Ytibbgmahdiphpaa
open Go.RowKit

/-- The width of glyph i. -/
def wdN (me : Nat) (l : List UInt8) (i : Nat) : Nat := n2 l (4 * min i (me - 1))
def WE (h : Hd) (l : List UInt8) : Int := if MayP h then (if (l.length : Int) < 4 * h.me + 2 * (h.gl - h.me) then 3 else 0) else 1
def WL (h : Hd) (l : List UInt8) : List Int := if WE h l = 0 then gen h.gl.toNat (fun i => (wdN h.me.toNat l i : Int)) else []
/-- A list of numbers, and an error, are answered. -/
def LsE (x : Int) (xs : List Int) (w : World) (e : Ending) (w' : World) : Prop := ∃ A n c, e = .returned (.tuple #[.slice A n c, .int .i64 x]) ∧ Il w' A n xs ∧ Below w.heap.size w w'
theorem lsE_err {x y : Int} {xs : List Int} {w w' : World} (h : x = y) (hx : xs = []) (hb : Below w.heap.size w w') : LsE x xs w (.returned (.tuple #[.slice none 0 0, .int .i64 y])) w' := by
  subst h hx
  exact ⟨none, 0, 0, rfl, Il.nil _, hb⟩
/-- While a row is filled: the box of what is said, and the row. -/
structure Fw (w W : World) (b g : Nat) (h : Hd) (xs : List Int) : Prop where
  ms : MS w W b h
  row : Oi W g xs
  far : w.heap.size ≤ g
  ne : b ≠ g
section
variable {w W W' : World} {b g : Nat} {h : Hd} {xs : List Int}
theorem Fw.next (s : Fw w W b g h xs) (hb : Below W.heap.size W W') : Fw w W' b g h xs := ⟨s.ms.next hb, s.row.bel hb, s.far, s.ne⟩
theorem Fw.set (s : Fw w W b g h xs) (j : Nat) (z : Int) : Fw w (W.setCell ⟨g, j, none⟩ (.int .i64 z)) b g h (xs.set j z) := ⟨s.ms.set s.far s.ne _ _, s.row.set j z, s.far, s.ne⟩
theorem Fw.start (s : MS w W b h) (n : Nat) : Fw w (W.alloc (.cells (ci (List.replicate n 0)).toArray 3)) b W.heap.size h (List.replicate n 0) := ⟨s.box1 _, Oi.new W n, s.bel.size, Nat.ne_of_lt s.box.lt⟩
theorem Fw.fin (s : Fw w W b g h xs) {x : Int} {ys : List Int} {n : Nat} (hn : xs.length = n) (hx : x = 0) (hy : ys = xs) : LsE x ys w (.returned (.tuple #[.slice (some ⟨g, 0, none⟩) n n, .int .i64 0])) W := by
  subst hn hx hy
  exact ⟨_, _, _, rfl, s.row.il, s.ms.bel⟩
end
theorem GS.fin {w W : World} {b n : Nat} {h : Hd} {v : Value} {xs : List Int} (s : GS w W b h v n xs) {x : Int} {ys : List Int} (hn : xs.length = n) (hx : x = 0) (hy : ys = xs) : LsE x ys w (.returned (.tuple #[v, .int .i64 0])) W := by
  subst hx hy
  obtain ⟨A, c, rfl⟩ := own_form s.own
  exact ⟨_, _, _, rfl, s.il hn, s.ms.bel⟩
theorem MayP.nat {h : Hd} (hm : MayP h) : ∃ G M : Nat, h.gl = (G : Int) ∧ h.me = (M : Int) ∧ 1 ≤ G ∧ G ≤ 1024 ∧ 1 ≤ M ∧ M ≤ G := by
  obtain ⟨_, h1, h2, _⟩ := hm
  exact ⟨h.gl.toNat, h.me.toNat, by omega, by omega, by omega, by omega, by omega, by omega⟩
theorem widths_no (h : Hd) (s : ByteArray) (w : World) (hm : ¬ MayP h) : Calls Try.prog 8 #[.agg #[.int .i64 h.em, .bool h.lg, .int .i64 h.gl, .int .i64 h.me, .int .i64 h.a1, .int .i64 h.a2, .int .i64 h.a3], .string s] w (LsE (WE h s.data.toList) (WL h s.data.toList) w) := by
  have hE : WE h s.data.toList = 1 := by unfold WE; rw [if_neg hm]
  have cm := fun W => may_any h W
  rw [decide_eq_false hm] at cm
  have CM := Lib.hid cm
  have S := Lib.hid (MS.start w h)
  have HP := Lib.hid (fun w' (hb : Below w.heap.size w w') => lsE_err hE (show WL h s.data.toList = [] by unfold WL; rw [hE]; rfl) hb)
  obtain ⟨f0, f1, f2, f3, f4, f5, f6⟩ := S.out.cells
  clear cm hm hE
  go_enter Try.func8, Try.ntmps8
  go_wp2_with (go_at_call 17; (with_reducible refine (CM.out _).mono ?_); rintro e w1 ⟨rfl, hb⟩; have S := Lib.hid (S.out.next hb); clear hb)
  go_ret2
  exact HP.out _ S.out.bel
theorem rwidths_no (h : Hd) (s : ByteArray) (w : World) (hm : ¬ MayP h) : Calls Try.prog 9 #[.agg #[.int .i64 h.em, .bool h.lg, .int .i64 h.gl, .int .i64 h.me, .int .i64 h.a1, .int .i64 h.a2, .int .i64 h.a3], .string s] w (LsE (WE h s.data.toList) (WL h s.data.toList) w) := by
  have hE : WE h s.data.toList = 1 := by unfold WE; rw [if_neg hm]
  have cm := fun W => rmay_any h W
  rw [decide_eq_false hm] at cm
  have CM := Lib.hid cm
  have S := Lib.hid (MS.start w h)
  have HP := Lib.hid (fun w' (hb : Below w.heap.size w w') => lsE_err hE (show WL h s.data.toList = [] by unfold WL; rw [hE]; rfl) hb)
  obtain ⟨f0, f1, f2, f3, f4, f5, f6⟩ := S.out.cells
  clear cm hm hE
  go_enter Try.func9, Try.ntmps9
  go_wp2_with (go_at_call 19; (with_reducible refine (CM.out _).mono ?_); rintro e w1 ⟨rfl, hb⟩; have S := Lib.hid (S.out.next hb); clear hb)
  go_ret2
  exact HP.out _ S.out.bel
set_option maxHeartbeats 1000000 in
theorem widths_short (em : Int) (lg : Bool) (G M : Nat) (a1 a2 a3 : Int) (s : ByteArray) (w : World) (hm : MayP ⟨em, lg, G, M, a1, a2, a3⟩) (hs : s.size ≤ 1000000000) (hl : s.size < 4 * M + 2 * (G - M)) :
    Calls Try.prog 8 #[.agg #[.int .i64 em, .bool lg, .int .i64 (G : Int), .int .i64 (M : Int), .int .i64 a1, .int .i64 a2, .int .i64 a3], .string s] w (LsE (WE ⟨em, lg, G, M, a1, a2, a3⟩ s.data.toList) (WL ⟨em, lg, G, M, a1, a2, a3⟩ s.data.toList) w) := by
  obtain ⟨_, ⟨b1, b2⟩, ⟨b3, b4⟩, _⟩ := id hm
  simp only at b1 b2 b3 b4
  have hE : WE ⟨em, lg, G, M, a1, a2, a3⟩ s.data.toList = 3 := by unfold WE; rw [if_pos hm, size_list, if_pos (by simp only; omega)]
  have cm := fun W => may_any ⟨em, lg, G, M, a1, a2, a3⟩ W
  rw [decide_eq_true hm] at cm
  have CM := Lib.hid cm
  have S := Lib.hid (MS.start w ⟨em, lg, G, M, a1, a2, a3⟩)
  have HP := Lib.hid (fun w' (hb : Below w.heap.size w w') => lsE_err hE (show WL ⟨em, lg, G, M, a1, a2, a3⟩ s.data.toList = [] by unfold WL; rw [hE]; rfl) hb)
  obtain ⟨f0, f1, f2, f3, f4, f5, f6⟩ := S.out.cells
  have e1 : IntKind.i64.wrap (4 * (M : Int)) = ((4 * M : Nat) : Int) := by rw [i64_in _ (by omega)]; omega
  obtain ⟨M4, hM4⟩ : ∃ j, j = 4 * M := ⟨_, rfl⟩
  have e2 : IntKind.i64.wrap ((G : Int) - (M : Int)) = ((G - M : Nat) : Int) := by rw [i64_in _ (by omega)]; omega
  obtain ⟨D, hD⟩ : ∃ j, j = G - M := ⟨_, rfl⟩
  have e3 : IntKind.i64.wrap (2 * (D : Int)) = ((2 * D : Nat) : Int) := by rw [i64_in _ (by omega)]; omega
  obtain ⟨D2, hD2⟩ : ∃ j, j = 2 * D := ⟨_, rfl⟩
  have e4 : IntKind.i64.wrap ((M4 : Int) + (D2 : Int)) = ((M4 + D2 : Nat) : Int) := by rw [i64_in _ (by omega)]; omega
  obtain ⟨N, hN⟩ : ∃ j, j = M4 + D2 := ⟨_, rfl⟩
  have hlt : s.size < N := by omega
  rw [← hM4] at e1
  rw [← hD] at e2
  rw [← hD2] at e3
  rw [← hN] at e4
  clear cm hm hE hM4 hD hD2 hN hl hs b1 b2 b3 b4
  go_enter Try.func8, Try.ntmps8
  go_wp2_with (go_at_call 17; (with_reducible refine (CM.out _).mono ?_); rintro e w1 ⟨rfl, hb⟩; have S := Lib.hid (S.out.next hb); clear hb f0 f1 f2 f3 f4 f5 f6; obtain ⟨f0, f1, f2, f3, f4, f5, f6⟩ := S.out.cells)
  go_ret2
  exact HP.out _ S.out.bel
set_option maxHeartbeats 1000000 in
theorem rwidths_short (em : Int) (lg : Bool) (G M : Nat) (a1 a2 a3 : Int) (s : ByteArray) (w : World) (hm : MayP ⟨em, lg, G, M, a1, a2, a3⟩) (hs : s.size ≤ 1000000000) (hl : s.size < 4 * M + 2 * (G - M)) :
    Calls Try.prog 9 #[.agg #[.int .i64 em, .bool lg, .int .i64 (G : Int), .int .i64 (M : Int), .int .i64 a1, .int .i64 a2, .int .i64 a3], .string s] w (LsE (WE ⟨em, lg, G, M, a1, a2, a3⟩ s.data.toList) (WL ⟨em, lg, G, M, a1, a2, a3⟩ s.data.toList) w) := by
  obtain ⟨_, ⟨b1, b2⟩, ⟨b3, b4⟩, _⟩ := id hm
  simp only at b1 b2 b3 b4
  have hE : WE ⟨em, lg, G, M, a1, a2, a3⟩ s.data.toList = 3 := by unfold WE; rw [if_pos hm, size_list, if_pos (by simp only; omega)]
  have cm := fun W => rmay_any ⟨em, lg, G, M, a1, a2, a3⟩ W
  rw [decide_eq_true hm] at cm
  have CM := Lib.hid cm
  have S := Lib.hid (MS.start w ⟨em, lg, G, M, a1, a2, a3⟩)
  have HP := Lib.hid (fun w' (hb : Below w.heap.size w w') => lsE_err hE (show WL ⟨em, lg, G, M, a1, a2, a3⟩ s.data.toList = [] by unfold WL; rw [hE]; rfl) hb)
  obtain ⟨f0, f1, f2, f3, f4, f5, f6⟩ := S.out.cells
  have e1 : IntKind.i64.wrap (4 * (M : Int)) = ((4 * M : Nat) : Int) := by rw [i64_in _ (by omega)]; omega
  obtain ⟨M4, hM4⟩ : ∃ j, j = 4 * M := ⟨_, rfl⟩
  have e2 : IntKind.i64.wrap ((G : Int) - (M : Int)) = ((G - M : Nat) : Int) := by rw [i64_in _ (by omega)]; omega
  obtain ⟨D, hD⟩ : ∃ j, j = G - M := ⟨_, rfl⟩
  have e3 : IntKind.i64.wrap (2 * (D : Int)) = ((2 * D : Nat) : Int) := by rw [i64_in _ (by omega)]; omega
  obtain ⟨D2, hD2⟩ : ∃ j, j = 2 * D := ⟨_, rfl⟩
  have e4 : IntKind.i64.wrap ((M4 : Int) + (D2 : Int)) = ((M4 + D2 : Nat) : Int) := by rw [i64_in _ (by omega)]; omega
  obtain ⟨N, hN⟩ : ∃ j, j = M4 + D2 := ⟨_, rfl⟩
  have hlt : s.size < N := by omega
  rw [← hM4] at e1
  rw [← hD] at e2
  rw [← hD2] at e3
  rw [← hN] at e4
  clear cm hm hE hM4 hD hD2 hN hl hs b1 b2 b3 b4
  go_enter Try.func9, Try.ntmps9
  go_wp2_with (go_at_call 19; (with_reducible refine (CM.out _).mono ?_); rintro e w1 ⟨rfl, hb⟩; have S := Lib.hid (S.out.next hb); clear hb f0 f1 f2 f3 f4 f5 f6; obtain ⟨f0, f1, f2, f3, f4, f5, f6⟩ := S.out.cells)
  go_ret2
  exact HP.out _ S.out.bel
set_option maxHeartbeats 2000000 in
theorem widths_ok (em : Int) (lg : Bool) (G M : Nat) (a1 a2 a3 : Int) (s : ByteArray) (w : World) (hm : MayP ⟨em, lg, G, M, a1, a2, a3⟩) (hs : s.size ≤ 1000000000) (hl : 4 * M + 2 * (G - M) ≤ s.size) :
    Calls Try.prog 8 #[.agg #[.int .i64 em, .bool lg, .int .i64 (G : Int), .int .i64 (M : Int), .int .i64 a1, .int .i64 a2, .int .i64 a3], .string s] w (LsE (WE ⟨em, lg, G, M, a1, a2, a3⟩ s.data.toList) (WL ⟨em, lg, G, M, a1, a2, a3⟩ s.data.toList) w) := by
  obtain ⟨_, ⟨b1, b2⟩, ⟨b3, b4⟩, _⟩ := id hm
  simp only at b1 b2 b3 b4
  have hE : WE ⟨em, lg, G, M, a1, a2, a3⟩ s.data.toList = 0 := by unfold WE; rw [if_pos hm, size_list, if_neg (by simp only; omega)]
  obtain ⟨f, hf⟩ : ∃ f : Nat → Int, f = fun i => (wdN M s.data.toList i : Int) := ⟨_, rfl⟩
  have hL : WL ⟨em, lg, G, M, a1, a2, a3⟩ s.data.toList = gen G f := by unfold WL; rw [hE, hf]; rfl
  have cm := fun W => may_any ⟨em, lg, G, M, a1, a2, a3⟩ W
  rw [decide_eq_true hm] at cm
  have CM := Lib.hid cm
  have S := Lib.hid (MS.start w ⟨em, lg, G, M, a1, a2, a3⟩)
  have HE := Lib.hid (And.intro hE hL)
  have hG : G ≤ 1024 := by omega
  have e1 : IntKind.i64.wrap (4 * (M : Int)) = ((4 * M : Nat) : Int) := by rw [i64_in _ (by omega)]; omega
  obtain ⟨M4, hM4⟩ : ∃ j, j = 4 * M := ⟨_, rfl⟩
  have e2 : IntKind.i64.wrap ((G : Int) - (M : Int)) = ((G - M : Nat) : Int) := by rw [i64_in _ (by omega)]; omega
  obtain ⟨D, hD⟩ : ∃ j, j = G - M := ⟨_, rfl⟩
  have e3 : IntKind.i64.wrap (2 * (D : Int)) = ((2 * D : Nat) : Int) := by rw [i64_in _ (by omega)]; omega
  obtain ⟨D2, hD2⟩ : ∃ j, j = 2 * D := ⟨_, rfl⟩
  have e4 : IntKind.i64.wrap ((M4 : Int) + (D2 : Int)) = ((M4 + D2 : Nat) : Int) := by rw [i64_in _ (by omega)]; omega
  obtain ⟨N, hN⟩ : ∃ j, j = M4 + D2 := ⟨_, rfl⟩
  have hlt : ¬ s.size < N := by omega
  have e5 : IntKind.i64.wrap ((M : Int) - 1) = ((M - 1 : Nat) : Int) := by rw [i64_in _ (by omega)]; omega
  obtain ⟨M1, hM1⟩ : ∃ j, j = M - 1 := ⟨_, rfl⟩
  rw [← hM4] at e1
  rw [← hD] at e2
  rw [← hD2] at e3
  rw [← hN] at e4
  rw [← hM1] at e5
  have hmk := fun W => mkInt G (by omega) W (G : Int) rfl
  have HI := Lib.hid (show ∀ k, k < G → ∃ j4 n : Nat, ((M1 < k ∧ IntKind.i64.wrap (4 * (M1 : Int)) = (j4 : Int)) ∨ (¬ M1 < k ∧ IntKind.i64.wrap (4 * (k : Int)) = (j4 : Int))) ∧ IntKind.i64.wrap (n : Int) = (n : Int) ∧ f k = (n : Int) ∧ ∀ W, Calls Try.prog 18 #[.string s, .int .i64 (j4 : Int)] W fun e w' => e = .returned (.tuple #[.int .u16 (n : Int), .int .i64 0]) ∧ W = w' by
    intro k hk
    have := n2_lt s.data.toList (4 * min k (M - 1))
    refine ⟨4 * min k M1, n2 s.data.toList (4 * min k M1), ?_, by rw [hM1]; exact i64_in _ (by omega), by rw [hf, hM1]; rfl, fun W => u16_in s _ _ rfl W hs (by omega)⟩
    rcases Nat.lt_or_ge M1 k with h | h
    · exact .inl ⟨h, by rw [i64_in _ (by omega)]; omega⟩
    · exact .inr ⟨by omega, by rw [i64_in _ (by omega)]; omega⟩)
  clear cm hm hE hL hf hM4 hD hD2 hN hM1 hl hs b1 b2 b3 b4
  go_enter Try.func8, Try.ntmps8
  go_upto_region 1 with fail
  obtain ⟨b, hb⟩ : ∃ b, b = w.heap.size := ⟨_, rfl⟩
  obtain ⟨W0, hW0⟩ : ∃ W, W = w.alloc (.cells #[.int .i64 em, .bool lg, .int .i64 (G : Int), .int .i64 (M : Int), .int .i64 a1, .int .i64 a2, .int .i64 a3] 23) := ⟨_, rfl⟩
  rw [← hW0] at S ⊢
  rw [← hb] at S ⊢
  obtain ⟨f0, f1, f2, f3, f4, f5, f6⟩ := S.out.cells
  clear hb hW0
  go_upto_region 5 with (go_at_call 17; (with_reducible refine (CM.out _).mono ?_); rintro e w1 ⟨rfl, hbl⟩; have S := Lib.hid (S.out.next hbl); clear hbl f0 f1 f2 f3 f4 f5 f6; obtain ⟨f0, f1, f2, f3, f4, f5, f6⟩ := S.out.cells)
  go_upto_region 6 with fail
  have HF := Lib.hid (Fw.start S.out G)
  obtain ⟨g, hg⟩ : ∃ g, g = w1.heap.size := ⟨_, rfl⟩
  obtain ⟨W2, hW2⟩ : ∃ W, W = w1.alloc (.cells (ci (List.replicate G 0)).toArray 3) := ⟨_, rfl⟩
  rw [← hW2] at HF ⊢
  rw [← hg] at HF ⊢
  rw [← fill_start G f] at HF
  clear hg hW2 f0 f1 f2 f3 f4 f5 f6 S hmk hlt e1 e2 e3 e4 CM
  go_wp2_with fail
  go_loopw [31] (fun i wr => ∃ k : Nat, i = .int .i64 (k : Int) ∧ k ≤ G ∧ Fw w wr b g ⟨em, lg, G, M, a1, a2, a3⟩ (fillN G f k)) (fun i _ => G - (intOf i).toNat)
  case atStart => exact ⟨0, rfl, Nat.zero_le _, HF.out⟩
  case round =>
    obtain ⟨k, rfl, hk, hF⟩ := hrel
    have HF := Lib.hid hF
    by_cases hgo : k < G
    · obtain ⟨j4, n, m1, m3, hfk, hc⟩ := HI.out k hgo
      have HC := Lib.hid hc
      obtain ⟨f0, f1, f2, f3, f4, f5, f6⟩ := hF.ms.cells
      have g0 := hF.row.get k (by rw [fill_len _ hk]; exact hgo)
      have g1 := hF.row.fr k
      have HK := Lib.hid hfk
      clear hF hc hfk
      rcases m1 with ⟨m1, m2⟩ | ⟨m1, m2⟩
      all_goals
        go_wp2_with (go_at_call 18; (with_reducible refine (HC.out _).mono ?_); rintro e w' ⟨rfl, rfl⟩)
        exact ⟨⟨k + 1, by simp, by omega, by rw [← fill_set f hgo, HK.out]; exact HF.out.set k _⟩, by simp [intOf]; omega⟩
    · obtain rfl : k = G := by omega
      rw [fill_end] at HF
      clear hF
      go_wp2_with fail
      go_ret2
      exact HF.out.fin (by rw [gen_len]) HE.out.1 HE.out.2
set_option maxHeartbeats 2000000 in
theorem rwidths_ok (em : Int) (lg : Bool) (G M : Nat) (a1 a2 a3 : Int) (s : ByteArray) (w : World) (hm : MayP ⟨em, lg, G, M, a1, a2, a3⟩) (hs : s.size ≤ 1000000000) (hl : 4 * M + 2 * (G - M) ≤ s.size) :
    Calls Try.prog 9 #[.agg #[.int .i64 em, .bool lg, .int .i64 (G : Int), .int .i64 (M : Int), .int .i64 a1, .int .i64 a2, .int .i64 a3], .string s] w (LsE (WE ⟨em, lg, G, M, a1, a2, a3⟩ s.data.toList) (WL ⟨em, lg, G, M, a1, a2, a3⟩ s.data.toList) w) := by
  obtain ⟨_, ⟨b1, b2⟩, ⟨b3, b4⟩, _⟩ := id hm
  simp only at b1 b2 b3 b4
  have hE : WE ⟨em, lg, G, M, a1, a2, a3⟩ s.data.toList = 0 := by unfold WE; rw [if_pos hm, size_list, if_neg (by simp only; omega)]
  obtain ⟨f, hf⟩ : ∃ f : Nat → Int, f = fun i => (wdN M s.data.toList i : Int) := ⟨_, rfl⟩
  have hL : WL ⟨em, lg, G, M, a1, a2, a3⟩ s.data.toList = gen G f := by unfold WL; rw [hE, hf]; rfl
  have cm := fun W => rmay_any ⟨em, lg, G, M, a1, a2, a3⟩ W
  rw [decide_eq_true hm] at cm
  have CM := Lib.hid cm
  have S := Lib.hid (MS.start w ⟨em, lg, G, M, a1, a2, a3⟩)
  have HE := Lib.hid (And.intro hE hL)
  have hG : G ≤ 1024 := by omega
  have e1 : IntKind.i64.wrap (4 * (M : Int)) = ((4 * M : Nat) : Int) := by rw [i64_in _ (by omega)]; omega
  obtain ⟨M4, hM4⟩ : ∃ j, j = 4 * M := ⟨_, rfl⟩
  have e2 : IntKind.i64.wrap ((G : Int) - (M : Int)) = ((G - M : Nat) : Int) := by rw [i64_in _ (by omega)]; omega
  obtain ⟨D, hD⟩ : ∃ j, j = G - M := ⟨_, rfl⟩
  have e3 : IntKind.i64.wrap (2 * (D : Int)) = ((2 * D : Nat) : Int) := by rw [i64_in _ (by omega)]; omega
  obtain ⟨D2, hD2⟩ : ∃ j, j = 2 * D := ⟨_, rfl⟩
  have e4 : IntKind.i64.wrap ((M4 : Int) + (D2 : Int)) = ((M4 + D2 : Nat) : Int) := by rw [i64_in _ (by omega)]; omega
  obtain ⟨N, hN⟩ : ∃ j, j = M4 + D2 := ⟨_, rfl⟩
  have hlt : ¬ s.size < N := by omega
  have e5 : IntKind.i64.wrap ((M : Int) - 1) = ((M - 1 : Nat) : Int) := by rw [i64_in _ (by omega)]; omega
  obtain ⟨M1, hM1⟩ : ∃ j, j = M - 1 := ⟨_, rfl⟩
  rw [← hM4] at e1
  rw [← hD] at e2
  rw [← hD2] at e3
  rw [← hN] at e4
  rw [← hM1] at e5
  obtain ⟨i3, hi0, hz0, hz1, hz2⟩ := info_parts Try.info3
  have H3 := Lib.hid (show Try.prog.info? 3 = some i3 ∧ i3.zero = some (.int .i64 0) ∧ i3.size = 1 ∧ i3.bytes = 8 from ⟨hi0, hz0, hz1, hz2⟩)
  have HI := Lib.hid (show ∀ k, k < G → ∃ j4 n : Nat, ((M ≤ k ∧ IntKind.i64.wrap (4 * (M1 : Int)) = (j4 : Int)) ∨ (¬ M ≤ k ∧ IntKind.i64.wrap (4 * (k : Int)) = (j4 : Int))) ∧ IntKind.i64.wrap (n : Int) = (n : Int) ∧ f k = (n : Int) ∧ ∀ W, Calls Try.prog 20 #[.string s, .int .i64 (j4 : Int)] W fun e w' => e = .returned (.tuple #[.int .u16 (n : Int), .int .i64 0]) ∧ W = w' by
    intro k hk
    have := n2_lt s.data.toList (4 * min k (M - 1))
    refine ⟨4 * min k M1, n2 s.data.toList (4 * min k M1), ?_, by rw [hM1]; exact i64_in _ (by omega), by rw [hf, hM1]; rfl, fun W => ru16_in s _ _ rfl W hs (by omega)⟩
    rcases Nat.lt_or_ge k M with h | h
    · exact .inr ⟨by omega, by rw [i64_in _ (by omega)]; omega⟩
    · exact .inl ⟨h, by rw [i64_in _ (by omega)]; omega⟩)
  clear cm hm hE hL hf hM4 hD hD2 hN hM1 hl hs b1 b2 b3 b4 hi0 hz0 hz1 hz2
  go_enter Try.func9, Try.ntmps9
  go_upto_region 1 with fail
  obtain ⟨b, hb⟩ : ∃ b, b = w.heap.size := ⟨_, rfl⟩
  obtain ⟨W0, hW0⟩ : ∃ W, W = w.alloc (.cells #[.int .i64 em, .bool lg, .int .i64 (G : Int), .int .i64 (M : Int), .int .i64 a1, .int .i64 a2, .int .i64 a3] 23) := ⟨_, rfl⟩
  rw [← hW0] at S ⊢
  rw [← hb] at S ⊢
  obtain ⟨f0, f1, f2, f3, f4, f5, f6⟩ := S.out.cells
  clear hb hW0
  go_upto_region 5 with (go_at_call 19; (with_reducible refine (CM.out _).mono ?_); rintro e w1 ⟨rfl, hbl⟩; have S := Lib.hid (S.out.next hbl); clear hbl f0 f1 f2 f3 f4 f5 f6; obtain ⟨f0, f1, f2, f3, f4, f5, f6⟩ := S.out.cells)
  have HF := Lib.hid (GS.start S.out)
  clear f0 f1 f2 f3 f4 f5 f6 S hlt e1 e2 e3 e4 CM
  go_wp2_with fail
  go_loopw [6, 7] (fun v i wr => ∃ k : Nat, ∃ A c, v = .slice A k c ∧ i = .int .i64 (k : Int) ∧ k ≤ G ∧ GS w wr b ⟨em, lg, G, M, a1, a2, a3⟩ (.slice A k c) k (gen k f)) (fun _ i _ => G - (intOf i).toNat)
  case atStart => exact ⟨0, none, 0, rfl, rfl, Nat.zero_le _, HF.out⟩
  case round =>
    obtain ⟨k, A, c, rfl, rfl, hk, hF⟩ := hrel
    have HF := Lib.hid hF
    by_cases hgo : k < G
    · obtain ⟨j4, n, m1, m3, hfk, hc⟩ := HI.out k hgo
      have HC := Lib.hid hc
      obtain ⟨f0, f1, f2, f3, f4, f5, f6⟩ := hF.ms.cells
      have HK := Lib.hid hfk
      clear hF hc hfk
      rcases m1 with ⟨m1, m2⟩ | ⟨m1, m2⟩
      all_goals
        go_upto_region 13 with (go_at_call 20; (with_reducible refine (HC.out _).mono ?_); rintro e w' ⟨rfl, rfl⟩)
        have H6 := Lib.hid (HF.out.next ((Below.refl _ wr).alloc (Nat.le_refl _) (.cells #[.int .i64 (n : Int)] 3)))
        go_wp2_with (at_builtin; go_must (refine wpList_append_own _ rfl (.tmp 48) (.tmp 51) 26 rfl w.heap.size 3 i3 _ 1 8 Try.underlying26 H3.out.1 H3.out.2.1 H3.out.2.2.1 H3.out.2.2.2 rfl (by decide) (.slice A k c) k (ci (gen k f)) rfl H6.out.own ⟨wr.heap.size, 0, none⟩ 1 1 [.int .i64 (n : Int)] rfl rfl (cells_new _ _ _) (by intro u hu; simp at hu; subst hu; rfl) (by unfold maxLen; omega) (by omega) (by have := HF.out.ms.bel.size; simp; omega) ?_); intro v' w7 hown' hg' _; have H7 := Lib.hid (H6.out.push hg' hown'); clear hown' hg')
        obtain ⟨A7, c7, rfl⟩ := own_form H7.out.own
        exact ⟨⟨k + 1, A7, c7, rfl, by simp, by omega, by rw [gen_snoc, HK.out]; exact H7.out⟩, by simp [intOf]; omega⟩
    · obtain rfl : k = G := by omega
      obtain ⟨f0, f1, f2, f3, f4, f5, f6⟩ := hF.ms.cells
      clear hF
      go_wp2_with fail
      go_ret2
      exact HF.out.fin (by rw [gen_len]) HE.out.1 HE.out.2
end Go.Proofs.Ytibbgmahdiphpaa
