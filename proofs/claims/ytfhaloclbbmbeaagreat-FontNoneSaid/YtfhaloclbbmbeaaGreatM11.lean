/- Proved here: lists of whole numbers as they lie in memory, rows that are being filled, a box with what a font says. No condition · numbers at a place; what few, each, place and mayPlace answer; lists of the same numbers are the same. Condition: the bytes are there; a text of at most a billion bytes · what Widths answers, in the program and in the document. Condition: a text of at most a billion bytes. -/
import Derived.Test.YtfhaloclbbmbeaaGreatM10
import Derived.Laws.AppendOwn
import Derived.Laws.Append
namespace Go.Proofs.YtfhaloclbbmbeaaGreat
open Go.RowKit
def co (L : List Int) (i : Nat) : Int := L.getD i 0
def gen (n : Nat) (f : Nat → Int) : List Int := (List.range n).map f
theorem gen_len (n : Nat) (f : Nat → Int) : (gen n f).length = n := by simp [gen]
theorem gen_snoc (n : Nat) (f : Nat → Int) : gen (n + 1) f = gen n f ++ [f n] := by simp [gen, List.range_succ]
def fillN (N : Nat) (f : Nat → Int) (k : Nat) : List Int := gen k f ++ List.replicate (N - k) 0
theorem fill_len {N k : Nat} (f : Nat → Int) (h : k ≤ N) : (fillN N f k).length = N := by simp [fillN, gen_len]; omega
theorem fill_start (N : Nat) (f : Nat → Int) : fillN N f 0 = List.replicate N 0 := by simp [fillN, gen]
theorem fill_end (N : Nat) (f : Nat → Int) : fillN N f N = gen N f := by simp [fillN]
theorem fill_set {N k : Nat} (f : Nat → Int) (h : k < N) : (fillN N f k).set k (f k) = fillN N f (k + 1) := by
  unfold fillN
  rw [gen_snoc, List.set_append_right _ _ (by rw [gen_len]; omega), gen_len, Nat.sub_self, show N - k = (N - (k + 1)) + 1 by omega, List.replicate_succ]
  simp
def ci (xs : List Int) : List Value := xs.map fun x => .int .i64 x
theorem ci_get {xs : List Int} {i : Nat} (h : i < xs.length) : (ci xs)[i]? = some (.int .i64 (co xs i)) := by simp [ci, co, h]
theorem add_at (g j : Nat) : (⟨g, 0, none⟩ : Addr).add j = ⟨g, j, none⟩ := by unfold Addr.add; split <;> simp_all
structure Il (w : World) (A : Option Addr) (m : Nat) (xs : List Int) : Prop where
  len : xs.length = m
  get : ∀ i, i < m → ∃ ad, A = some ad ∧ ad.block < w.heap.size ∧ w.cell? (ad.add i) = some (.int .i64 (co xs i))
theorem Il.nil (w : World) : Il w none 0 [] := ⟨rfl, fun i hi => by omega⟩
theorem Il.bel {w w' : World} {A : Option Addr} {m : Nat} {xs : List Int} (h : Il w A m xs) (hb : Below w.heap.size w w') : Il w' A m xs :=
  ⟨h.len, fun i hi => by
    obtain ⟨ad, h1, h2, h3⟩ := h.get i hi
    exact ⟨ad, h1, Nat.lt_of_lt_of_le h2 hb.size, (hb.cell (by rw [block_of_add]; exact h2)).trans h3⟩⟩
theorem Il.at_ {w : World} {A : Option Addr} {m : Nat} {xs : List Int} (h : Il w A m xs) {W : World} (hb : Below w.heap.size w W) {i : Nat} (hi : i < m) : ∃ ad, A = some ad ∧ W.cell? (ad.add i) = some (.int .i64 (co xs i)) := by
  obtain ⟨ad, h1, h2, h3⟩ := h.get i hi
  exact ⟨ad, h1, (hb.cell (by rw [block_of_add]; exact h2)).trans h3⟩
def Oi (w : World) (g : Nat) (xs : List Int) : Prop := w.heap[g]? = some (.cells (ci xs).toArray 3 (0, 0))
section
variable {w w' : World} {g : Nat} {xs : List Int}
theorem Oi.lt (h : Oi w g xs) : g < w.heap.size := heap_lt h
theorem Oi.bel (h : Oi w g xs) (hb : Below w.heap.size w w') : Oi w' g xs := (hb.block g h.lt).trans h
theorem Oi.fr (h : Oi w g xs) (j : Nat) : w.frozen? ⟨g, j, none⟩ = false := by unfold Oi at h; simp [World.frozen?, h]
theorem Oi.get (h : Oi w g xs) (i : Nat) (hi : i < xs.length) : w.cell? ⟨g, i, none⟩ = some (.int .i64 (co xs i)) := by
  rw [cell_of_row w g i _ 3 (0, 0) h]
  simpa using ci_get hi
theorem Oi.set (h : Oi w g xs) (i : Nat) (z : Int) : Oi (w.setCell ⟨g, i, none⟩ (.int .i64 z)) g (xs.set i z) := by
  unfold Oi at h ⊢
  have : (w.setCell ⟨g, i, none⟩ (.int .i64 z)).heap[g]? = some (.cells ((ci xs).set i (.int .i64 z)).toArray 3 (0, 0)) := by
    simp [World.setCell, Array.getElem?_modify, h]
  unfold ci at this ⊢
  rw [List.map_set]
  exact this
theorem Oi.il (h : Oi w g xs) : Il w (some ⟨g, 0, none⟩) xs.length xs := ⟨rfl, fun i hi => ⟨_, rfl, h.lt, by rw [add_at]; exact h.get i hi⟩⟩
end
theorem Oi.new (w : World) (n : Nat) : Oi (w.alloc (.cells (ci (List.replicate n 0)).toArray 3)) w.heap.size (List.replicate n 0) := heap_alloc_new w _
theorem Tryz.info3 : (Tryz.prog.info? 3).map (fun i => (i.zero, i.size, i.bytes)) = some (some (.int .i64 0), 1, 8) := by kernel_rfl
theorem made_one (n : Nat) : madeCells (Value.int .i64 0).cells (n * 1) = (ci (List.replicate n 0)).toArray := by
  have e : (Value.int .i64 0).cells = #[.int .i64 0] := rfl
  rw [e]
  apply Array.ext'
  simp only [madeCells, ci, Nat.mul_one]
  induction n with
  | zero => simp
  | succ n ih =>
    rw [Array.range_succ, List.replicate_succ']
    simp at ih ⊢
    rw [ih, Nat.mod_one]
    exact ⟨rfl, rfl⟩
theorem mkInt (n : Nat) (hn : n ≤ 1000000) (w : World) (D : Int) (hD : D = (n : Int)) :
    (Instr.makeSlice 40 (.int .i64 D) (.int .i64 D)).run Tryz.prog w = .ok (.slice (some ⟨w.heap.size, 0, none⟩) n n) (w.alloc (.cells (ci (List.replicate n 0)).toArray 3)) := by
  subst hD
  obtain ⟨i0, hi0, hz0, hz1, hz2⟩ := info_parts Tryz.info3
  have := run_makeSlice (P := Tryz.prog) w 40 3 i0 (.int .i64 0) Tryz.underlying40 hi0 hz0 .i64 .i64 (n : Int) (n : Int) (by omega) (Int.le_refl _) (by rw [hz1]; omega) (by rw [hz2]; omega) (by omega)
  rw [this, hz1, Int.toNat_natCast, made_one]
namespace N11
structure MS (w W : World) (b : Nat) (h : Hd) : Prop where
  bel : Below w.heap.size w W
  box : HB W b h
  far : w.heap.size ≤ b
section
variable {w W W' : World} {b : Nat} {h : Hd}
theorem MS.next (s : MS w W b h) (hb : Below W.heap.size W W') : MS w W' b h := ⟨s.bel.trans (hb.mono s.bel.size), s.box.bel hb, s.far⟩
theorem MS.drew (s : MS w W b h) : MS w W.drew b h := ⟨below_drewN s.bel 1, s.box, s.far⟩
theorem MS.box1 (s : MS w W b h) (o : Obj) : MS w (W.alloc o) b h := s.next ((Below.refl _ _).alloc (Nat.le_refl _) _)
theorem MS.set (s : MS w W b h) {g : Nat} (hg : w.heap.size ≤ g) (hne : b ≠ g) (j : Nat) (u : Value) : MS w (W.setCell ⟨g, j, none⟩ u) b h := ⟨s.bel.setCell hg u, s.box.far hne, s.far⟩
theorem MS.cells (s : MS w W b h) : W.cell? ⟨b, 0, none⟩ = some (.int .i64 h.em) ∧ W.cell? ⟨b, 1, none⟩ = some (.bool h.lg) ∧ W.cell? ⟨b, 2, none⟩ = some (.int .i64 h.gl) ∧ W.cell? ⟨b, 3, none⟩ = some (.int .i64 h.me) ∧ W.cell? ⟨b, 4, none⟩ = some (.int .i64 h.a1) ∧ W.cell? ⟨b, 5, none⟩ = some (.int .i64 h.a2) ∧ W.cell? ⟨b, 6, none⟩ = some (.int .i64 h.a3) := s.box.cells
end
theorem MS.start (w : World) (h : Hd) : MS w (w.alloc (.cells #[.int .i64 h.em, .bool h.lg, .int .i64 h.gl, .int .i64 h.me, .int .i64 h.a1, .int .i64 h.a2, .int .i64 h.a3] 39)) w.heap.size h := ⟨(Below.refl _ _).alloc (Nat.le_refl _) _, heap_alloc_new w _, Nat.le_refl _⟩
end N11
end Go.Proofs.YtfhaloclbbmbeaaGreat
namespace Go.Proofs.YtfhaloclbbmbeaaGreat
open Go.RowKit
theorem u16_in (s : ByteArray) (i : Int) (k : Nat) (hi : i = (k : Int)) (w : World) (hs : s.size ≤ 1000000000) (hk : k + 2 ≤ s.size) :
    Calls Tryz.prog 131 #[.string s, .int .i64 i] w fun e w' => e = .returned (.tuple #[.int .u16 (n2 s.data.toList k : Int), .int .i64 0]) ∧ w = w' := by
  have h16 := u16_any s i w hs (by omega)
  have hc := cutL_in (l := s.data.toList) (a := k) (n := 2) (by rw [size_list]; omega)
  rw [show ((2 : Nat) : Int) = 2 from rfl, ← hi] at hc
  rw [hc.1, hc.2] at h16
  exact h16
theorem u32_in (s : ByteArray) (i : Int) (k : Nat) (hi : i = (k : Int)) (w : World) (hs : s.size ≤ 1000000000) (hk : k + 4 ≤ s.size) :
    Calls Tryz.prog 204 #[.string s, .int .i64 i] w fun e w' => e = .returned (.tuple #[.int .u32 (n4 s.data.toList k : Int), .int .i64 0]) ∧ w = w' := by
  have h16 := u32_any s i w hs (by omega)
  have hc := cutL_in (l := s.data.toList) (a := k) (n := 4) (by rw [size_list]; omega)
  rw [show ((4 : Nat) : Int) = 4 from rfl, ← hi] at hc
  rw [hc.1, hc.2] at h16
  exact h16
def plN (lg : Bool) (l : List UInt8) (k : Nat) : Nat := if lg then n4 l (4 * k) else 2 * n2 l (2 * k)
def eaN (lg : Bool) : Nat := if lg then 4 else 2
namespace N11
theorem each_any (h : Hd) (w : World) : Calls Tryz.prog 146 #[.agg #[.int .i64 h.em, .bool h.lg, .int .i64 h.gl, .int .i64 h.me, .int .i64 h.a1, .int .i64 h.a2, .int .i64 h.a3]] w fun e w' => e = .returned (.int .i64 (eaN h.lg : Int)) ∧ Below w.heap.size w w' := by
  have S := Lib.hid (MS.start w h)
  obtain ⟨em, lg, gl, me, a1, a2, a3⟩ := h
  cases lg
  all_goals
    go_enter Tryz.func146, Tryz.ntmps146
    go_wp2_with fail
    go_ret
    exact ⟨rfl, S.out.bel⟩
theorem place_any (h : Hd) (s : ByteArray) (k : Nat) (w : World) (hs : s.size ≤ 1000000000) (hk : (k + 1) * eaN h.lg ≤ s.size) :
    Calls Tryz.prog 147 #[.agg #[.int .i64 h.em, .bool h.lg, .int .i64 h.gl, .int .i64 h.me, .int .i64 h.a1, .int .i64 h.a2, .int .i64 h.a3], .string s, .int .i64 (k : Int)] w fun e w' => e = .returned (.int .i64 (plN h.lg s.data.toList k : Int)) ∧ Below w.heap.size w w' := by
  have S := Lib.hid (MS.start w h)
  obtain ⟨em, lg, gl, me, a1, a2, a3⟩ := h
  cases lg
  · simp only [eaN, Bool.false_eq_true, if_false] at hk
    have e1 : IntKind.i64.wrap (2 * (k : Int)) = ((2 * k : Nat) : Int) := by rw [i64_in _ (by omega)]; omega
    obtain ⟨j, hj⟩ : ∃ j, j = 2 * k := ⟨_, rfl⟩
    have HC := Lib.hid (fun W => u16_in s (j : Int) j rfl W hs (by omega))
    have hp : plN false s.data.toList k = 2 * n2 s.data.toList j := by unfold plN; rw [hj]; rfl
    have hlt := n2_lt s.data.toList j
    rw [← hj] at e1
    show Calls _ _ _ _ fun e w' => e = .returned (.int .i64 (plN false s.data.toList k : Int)) ∧ Below w.heap.size w w'
    rw [hp]
    obtain ⟨n, hn⟩ : ∃ n, n = n2 s.data.toList j := ⟨_, rfl⟩
    rw [← hn] at HC hlt ⊢
    have e2 : IntKind.i64.wrap (n : Int) = (n : Int) := i64_in _ (by omega)
    have e3 : IntKind.i64.wrap (2 * (n : Int)) = ((2 * n : Nat) : Int) := by rw [i64_in _ (by omega)]; omega
    clear hn hlt hp hj hs hk
    go_enter Tryz.func147, Tryz.ntmps147
    go_wp2_with (go_at_call 131; (with_reducible refine (HC.out _).mono ?_); rintro e w' ⟨rfl, rfl⟩)
    go_ret
    exact ⟨rfl, S.out.bel⟩
  · simp only [eaN, if_true] at hk
    have e1 : IntKind.i64.wrap (4 * (k : Int)) = ((4 * k : Nat) : Int) := by rw [i64_in _ (by omega)]; omega
    obtain ⟨j, hj⟩ : ∃ j, j = 4 * k := ⟨_, rfl⟩
    have HC := Lib.hid (fun W => u32_in s (j : Int) j rfl W hs (by omega))
    have hp : plN true s.data.toList k = n4 s.data.toList j := by unfold plN; rw [hj]; rfl
    have hlt := n4_lt s.data.toList j
    rw [← hj] at e1
    show Calls _ _ _ _ fun e w' => e = .returned (.int .i64 (plN true s.data.toList k : Int)) ∧ Below w.heap.size w w'
    rw [hp]
    obtain ⟨n, hn⟩ : ∃ n, n = n4 s.data.toList j := ⟨_, rfl⟩
    rw [← hn] at HC hlt ⊢
    have e2 : IntKind.i64.wrap (n : Int) = (n : Int) := i64_in _ (by omega)
    clear hn hlt hp hj hs hk
    go_enter Tryz.func147, Tryz.ntmps147
    go_wp2_with (go_at_call 204; (with_reducible refine (HC.out _).mono ?_); rintro e w' ⟨rfl, rfl⟩)
    go_ret
    exact ⟨rfl, S.out.bel⟩
end N11
def mayPl (lg : Bool) (p : Int) : Prop := if lg then p ≤ 1048576 else p % 2 = 0 ∧ p ≤ 131070
instance (lg : Bool) (p : Int) : Decidable (mayPl lg p) := by unfold mayPl; split <;> infer_instance
namespace N11
theorem mayPlace_any (h : Hd) (p : Int) (w : World) (hp : 0 ≤ p) :
    Calls Tryz.prog 175 #[.agg #[.int .i64 h.em, .bool h.lg, .int .i64 h.gl, .int .i64 h.me, .int .i64 h.a1, .int .i64 h.a2, .int .i64 h.a3], .int .i64 p] w fun e w' => e = .returned (.bool (decide (mayPl h.lg p))) ∧ Below w.heap.size w w' := by
  have S := Lib.hid (MS.start w h)
  obtain ⟨em, lg, gl, me, a1, a2, a3⟩ := h
  cases lg
  · have hd : decide (mayPl false p) = decide (p % 2 = 0 ∧ p ≤ 131070) := by unfold mayPl; simp
    show Calls _ _ _ _ fun e w' => e = .returned (.bool (decide (mayPl false p))) ∧ Below w.heap.size w w'
    rw [hd]
    have ht : p.tmod 2 = p % 2 := Int.tmod_eq_emod_of_nonneg hp
    obtain ⟨r, hr⟩ : ∃ r, r = p % 2 := ⟨_, rfl⟩
    have hr2 : r = 0 ∨ r = 1 := by omega
    rw [← hr] at ht ⊢
    rcases hr2 with rfl | rfl
    · have hd2 : decide ((0 : Int) = 0 ∧ p ≤ 131070) = decide (p ≤ 131070) := by simp
      rw [hd2]
      clear hr hd hd2 hp
      go_enter Tryz.func175, Tryz.ntmps175
      go_wp2_with fail
      go_ret
      exact ⟨rfl, S.out.bel⟩
    · have hd2 : decide ((1 : Int) = 0 ∧ p ≤ 131070) = false := by simp
      rw [hd2]
      clear hr hd hd2 hp
      go_enter Tryz.func175, Tryz.ntmps175
      go_wp2_with fail
      go_ret
      exact ⟨rfl, S.out.bel⟩
  · have hd : decide (mayPl true p) = decide (p ≤ 1048576) := by unfold mayPl; simp
    show Calls _ _ _ _ fun e w' => e = .returned (.bool (decide (mayPl true p))) ∧ Below w.heap.size w w'
    rw [hd]
    clear hd hp
    go_enter Tryz.func175, Tryz.ntmps175
    go_wp2_with fail
    go_ret
    exact ⟨rfl, S.out.bel⟩
end N11
end Go.Proofs.YtfhaloclbbmbeaaGreat
namespace Go.Proofs.YtfhaloclbbmbeaaGreat
open Go.RowKit
def wdN (me : Nat) (l : List UInt8) (i : Nat) : Nat := n2 l (4 * min i (me - 1))
def WE (h : Hd) (l : List UInt8) : Int := if MayP h then (if (l.length : Int) < 4 * h.me + 2 * (h.gl - h.me) then 3 else 0) else 1
def WL (h : Hd) (l : List UInt8) : List Int := if WE h l = 0 then gen h.gl.toNat (fun i => (wdN h.me.toNat l i : Int)) else []
def LsE (x : Int) (xs : List Int) (w : World) (e : Ending) (w' : World) : Prop := ∃ A n c, e = .returned (.tuple #[.slice A n c, .int .i64 x]) ∧ Il w' A n xs ∧ Below w.heap.size w w'
theorem lsE_err {x y : Int} {xs : List Int} {w w' : World} (h : x = y) (hx : xs = []) (hb : Below w.heap.size w w') : LsE x xs w (.returned (.tuple #[.slice none 0 0, .int .i64 y])) w' := by
  subst h hx
  exact ⟨none, 0, 0, rfl, Il.nil _, hb⟩
namespace N11
structure Fw (w W : World) (b g : Nat) (h : Hd) (xs : List Int) : Prop where
  ms : MS w W b h
  row : Oi W g xs
  far : w.heap.size ≤ g
  ne : b ≠ g
section
variable {w W W' : World} {b g : Nat} {h : Hd} {xs : List Int}
theorem Fw.next (s : Fw w W b g h xs) (hb : Below W.heap.size W W') : Fw w W' b g h xs := ⟨s.ms.next hb, s.row.bel hb, s.far, s.ne⟩
theorem Fw.set (s : Fw w W b g h xs) (j : Nat) (z : Int) : Fw w (W.setCell ⟨g, j, none⟩ (.int .i64 z)) b g h (xs.set j z) := ⟨s.ms.set s.far s.ne _ _, s.row.set j z, s.far, s.ne⟩
theorem Fw.start (s : MS w W b h) (n : Nat) : Fw w (W.alloc (.cells (ci (List.replicate n 0)).toArray 3)) b W.heap.size h (List.replicate n 0) := ⟨s.box1 _, Oi.new W n, s.bel.size, Nat.ne_of_lt s.box.lt⟩
theorem Fw.fin (s : Fw w W b g h xs) {x : Int} {ys : List Int} {n : Nat} (hn : xs.length = n) (hx : x = 0) (hy : ys = xs) : LsE x ys w (.returned (.tuple #[.slice (some ⟨g, 0, none⟩) n n, .int .i64 0])) W := by
  subst hn hx hy
  exact ⟨_, _, _, rfl, s.row.il, s.ms.bel⟩
end
end N11
theorem MayP.nat {h : Hd} (hm : MayP h) : ∃ G M : Nat, h.gl = (G : Int) ∧ h.me = (M : Int) ∧ 1 ≤ G ∧ G ≤ 1024 ∧ 1 ≤ M ∧ M ≤ G := by
  obtain ⟨_, h1, h2, _⟩ := hm
  exact ⟨h.gl.toNat, h.me.toNat, by omega, by omega, by omega, by omega, by omega, by omega⟩
namespace N11
theorem widths_no (h : Hd) (s : ByteArray) (w : World) (hm : ¬ MayP h) : Calls Tryz.prog 73 #[.agg #[.int .i64 h.em, .bool h.lg, .int .i64 h.gl, .int .i64 h.me, .int .i64 h.a1, .int .i64 h.a2, .int .i64 h.a3], .string s] w (LsE (WE h s.data.toList) (WL h s.data.toList) w) := by
  have hE : WE h s.data.toList = 1 := by unfold WE; rw [if_neg hm]
  have cm := fun W => may_any h W
  rw [decide_eq_false hm] at cm
  have CM := Lib.hid cm
  have S := Lib.hid (MS.start w h)
  have HP := Lib.hid (fun w' (hb : Below w.heap.size w w') => lsE_err hE (show WL h s.data.toList = [] by unfold WL; rw [hE]; rfl) hb)
  obtain ⟨f0, f1, f2, f3, f4, f5, f6⟩ := S.out.cells
  clear cm hm hE
  go_enter Tryz.func73, Tryz.ntmps73
  go_wp2_with (go_at_call 90; (with_reducible refine (CM.out _).mono ?_); rintro e w1 ⟨rfl, hb⟩; have S := Lib.hid (S.out.next hb); clear hb)
  go_ret2
  exact HP.out _ S.out.bel
set_option maxHeartbeats 1000000 in
theorem widths_short (em : Int) (lg : Bool) (G M : Nat) (a1 a2 a3 : Int) (s : ByteArray) (w : World) (hm : MayP ⟨em, lg, G, M, a1, a2, a3⟩) (hs : s.size ≤ 1000000000) (hl : s.size < 4 * M + 2 * (G - M)) :
    Calls Tryz.prog 73 #[.agg #[.int .i64 em, .bool lg, .int .i64 (G : Int), .int .i64 (M : Int), .int .i64 a1, .int .i64 a2, .int .i64 a3], .string s] w (LsE (WE ⟨em, lg, G, M, a1, a2, a3⟩ s.data.toList) (WL ⟨em, lg, G, M, a1, a2, a3⟩ s.data.toList) w) := by
  obtain ⟨_, ⟨b1, b2⟩, ⟨b3, b4⟩, _⟩ := id hm
  simp only at b1 b2 b3 b4
  have hE : WE ⟨em, lg, G, M, a1, a2, a3⟩ s.data.toList = 3 := by unfold WE; rw [if_pos hm, size_list, if_pos (by simp only; omega)]
  have cm := fun W => may_any ⟨em, lg, G, M, a1, a2, a3⟩ W
  rw [decide_eq_true hm] at cm
  have CM := Lib.hid cm
  have S := Lib.hid (MS.start w ⟨em, lg, G, M, a1, a2, a3⟩)
  have HP := Lib.hid (fun w' (hb : Below w.heap.size w w') => lsE_err hE (show WL ⟨em, lg, G, M, a1, a2, a3⟩ s.data.toList = [] by unfold WL; rw [hE]; rfl) hb)
  obtain ⟨f0, f1, f2, f3, f4, f5, f6⟩ := S.out.cells
  have e1 : IntKind.i64.wrap (4 * (M : Int)) = ((4 * M : Nat) : Int) := by rw [i64_in _ (by omega)]; omega
  obtain ⟨M4, hM4⟩ : ∃ j, j = 4 * M := ⟨_, rfl⟩
  have e2 : IntKind.i64.wrap ((G : Int) - (M : Int)) = ((G - M : Nat) : Int) := by rw [i64_in _ (by omega)]; omega
  obtain ⟨D, hD⟩ : ∃ j, j = G - M := ⟨_, rfl⟩
  have e3 : IntKind.i64.wrap (2 * (D : Int)) = ((2 * D : Nat) : Int) := by rw [i64_in _ (by omega)]; omega
  obtain ⟨D2, hD2⟩ : ∃ j, j = 2 * D := ⟨_, rfl⟩
  have e4 : IntKind.i64.wrap ((M4 : Int) + (D2 : Int)) = ((M4 + D2 : Nat) : Int) := by rw [i64_in _ (by omega)]; omega
  obtain ⟨N, hN⟩ : ∃ j, j = M4 + D2 := ⟨_, rfl⟩
  have hlt : s.size < N := by omega
  rw [← hM4] at e1
  rw [← hD] at e2
  rw [← hD2] at e3
  rw [← hN] at e4
  clear cm hm hE hM4 hD hD2 hN hl hs b1 b2 b3 b4
  go_enter Tryz.func73, Tryz.ntmps73
  go_wp2_with (go_at_call 90; (with_reducible refine (CM.out _).mono ?_); rintro e w1 ⟨rfl, hb⟩; have S := Lib.hid (S.out.next hb); clear hb f0 f1 f2 f3 f4 f5 f6; obtain ⟨f0, f1, f2, f3, f4, f5, f6⟩ := S.out.cells)
  go_ret2
  exact HP.out _ S.out.bel
set_option maxHeartbeats 2000000 in
theorem widths_ok (em : Int) (lg : Bool) (G M : Nat) (a1 a2 a3 : Int) (s : ByteArray) (w : World) (hm : MayP ⟨em, lg, G, M, a1, a2, a3⟩) (hs : s.size ≤ 1000000000) (hl : 4 * M + 2 * (G - M) ≤ s.size) :
    Calls Tryz.prog 73 #[.agg #[.int .i64 em, .bool lg, .int .i64 (G : Int), .int .i64 (M : Int), .int .i64 a1, .int .i64 a2, .int .i64 a3], .string s] w (LsE (WE ⟨em, lg, G, M, a1, a2, a3⟩ s.data.toList) (WL ⟨em, lg, G, M, a1, a2, a3⟩ s.data.toList) w) := by
  obtain ⟨_, ⟨b1, b2⟩, ⟨b3, b4⟩, _⟩ := id hm
  simp only at b1 b2 b3 b4
  have hE : WE ⟨em, lg, G, M, a1, a2, a3⟩ s.data.toList = 0 := by unfold WE; rw [if_pos hm, size_list, if_neg (by simp only; omega)]
  obtain ⟨f, hf⟩ : ∃ f : Nat → Int, f = fun i => (wdN M s.data.toList i : Int) := ⟨_, rfl⟩
  have hL : WL ⟨em, lg, G, M, a1, a2, a3⟩ s.data.toList = gen G f := by unfold WL; rw [hE, hf]; rfl
  have cm := fun W => may_any ⟨em, lg, G, M, a1, a2, a3⟩ W
  rw [decide_eq_true hm] at cm
  have CM := Lib.hid cm
  have S := Lib.hid (MS.start w ⟨em, lg, G, M, a1, a2, a3⟩)
  have HE := Lib.hid (And.intro hE hL)
  have hG : G ≤ 1024 := by omega
  have e1 : IntKind.i64.wrap (4 * (M : Int)) = ((4 * M : Nat) : Int) := by rw [i64_in _ (by omega)]; omega
  obtain ⟨M4, hM4⟩ : ∃ j, j = 4 * M := ⟨_, rfl⟩
  have e2 : IntKind.i64.wrap ((G : Int) - (M : Int)) = ((G - M : Nat) : Int) := by rw [i64_in _ (by omega)]; omega
  obtain ⟨D, hD⟩ : ∃ j, j = G - M := ⟨_, rfl⟩
  have e3 : IntKind.i64.wrap (2 * (D : Int)) = ((2 * D : Nat) : Int) := by rw [i64_in _ (by omega)]; omega
  obtain ⟨D2, hD2⟩ : ∃ j, j = 2 * D := ⟨_, rfl⟩
  have e4 : IntKind.i64.wrap ((M4 : Int) + (D2 : Int)) = ((M4 + D2 : Nat) : Int) := by rw [i64_in _ (by omega)]; omega
  obtain ⟨N, hN⟩ : ∃ j, j = M4 + D2 := ⟨_, rfl⟩
  have hlt : ¬ s.size < N := by omega
  have e5 : IntKind.i64.wrap ((M : Int) - 1) = ((M - 1 : Nat) : Int) := by rw [i64_in _ (by omega)]; omega
  obtain ⟨M1, hM1⟩ : ∃ j, j = M - 1 := ⟨_, rfl⟩
  rw [← hM4] at e1
  rw [← hD] at e2
  rw [← hD2] at e3
  rw [← hN] at e4
  rw [← hM1] at e5
  have hmk := fun W => mkInt G (by omega) W (G : Int) rfl
  have HI := Lib.hid (show ∀ k, k < G → ∃ j4 n : Nat, ((M1 < k ∧ IntKind.i64.wrap (4 * (M1 : Int)) = (j4 : Int)) ∨ (¬ M1 < k ∧ IntKind.i64.wrap (4 * (k : Int)) = (j4 : Int))) ∧ IntKind.i64.wrap (n : Int) = (n : Int) ∧ f k = (n : Int) ∧ ∀ W, Calls Tryz.prog 131 #[.string s, .int .i64 (j4 : Int)] W fun e w' => e = .returned (.tuple #[.int .u16 (n : Int), .int .i64 0]) ∧ W = w' by
    intro k hk
    have := n2_lt s.data.toList (4 * min k (M - 1))
    refine ⟨4 * min k M1, n2 s.data.toList (4 * min k M1), ?_, by rw [hM1]; exact i64_in _ (by omega), by rw [hf, hM1]; rfl, fun W => u16_in s _ _ rfl W hs (by omega)⟩
    rcases Nat.lt_or_ge M1 k with h | h
    · exact .inl ⟨h, by rw [i64_in _ (by omega)]; omega⟩
    · exact .inr ⟨by omega, by rw [i64_in _ (by omega)]; omega⟩)
  clear cm hm hE hL hf hM4 hD hD2 hN hM1 hl hs b1 b2 b3 b4
  go_enter Tryz.func73, Tryz.ntmps73
  go_upto_region 1 with fail
  obtain ⟨b, hb⟩ : ∃ b, b = w.heap.size := ⟨_, rfl⟩
  obtain ⟨W0, hW0⟩ : ∃ W, W = w.alloc (.cells #[.int .i64 em, .bool lg, .int .i64 (G : Int), .int .i64 (M : Int), .int .i64 a1, .int .i64 a2, .int .i64 a3] 39) := ⟨_, rfl⟩
  rw [← hW0] at S ⊢
  rw [← hb] at S ⊢
  obtain ⟨f0, f1, f2, f3, f4, f5, f6⟩ := S.out.cells
  clear hb hW0
  go_upto_region 5 with (go_at_call 90; (with_reducible refine (CM.out _).mono ?_); rintro e w1 ⟨rfl, hbl⟩; have S := Lib.hid (S.out.next hbl); clear hbl f0 f1 f2 f3 f4 f5 f6; obtain ⟨f0, f1, f2, f3, f4, f5, f6⟩ := S.out.cells)
  go_upto_region 6 with fail
  have HF := Lib.hid (Fw.start S.out G)
  obtain ⟨g, hg⟩ : ∃ g, g = w1.heap.size := ⟨_, rfl⟩
  obtain ⟨W2, hW2⟩ : ∃ W, W = w1.alloc (.cells (ci (List.replicate G 0)).toArray 3) := ⟨_, rfl⟩
  rw [← hW2] at HF ⊢
  rw [← hg] at HF ⊢
  rw [← fill_start G f] at HF
  clear hg hW2 f0 f1 f2 f3 f4 f5 f6 S hmk hlt e1 e2 e3 e4 CM
  go_wp2_with fail
  go_loopw [31] (fun i wr => ∃ k : Nat, i = .int .i64 (k : Int) ∧ k ≤ G ∧ Fw w wr b g ⟨em, lg, G, M, a1, a2, a3⟩ (fillN G f k)) (fun i _ => G - (intOf i).toNat)
  case atStart => exact ⟨0, rfl, Nat.zero_le _, HF.out⟩
  case round =>
    obtain ⟨k, rfl, hk, hF⟩ := hrel
    have HF := Lib.hid hF
    by_cases hgo : k < G
    · obtain ⟨j4, n, m1, m3, hfk, hc⟩ := HI.out k hgo
      have HC := Lib.hid hc
      obtain ⟨f0, f1, f2, f3, f4, f5, f6⟩ := hF.ms.cells
      have g0 := hF.row.get k (by rw [fill_len _ hk]; exact hgo)
      have g1 := hF.row.fr k
      have HK := Lib.hid hfk
      clear hF hc hfk
      rcases m1 with ⟨m1, m2⟩ | ⟨m1, m2⟩
      all_goals
        (try have hmin : min (k : Int) (M1 : Int) = (M1 : Int) := by omega)
        (try have hmin : min (k : Int) (M1 : Int) = (k : Int) := by omega)
        go_wp2_with (go_at_call 131; (with_reducible refine (HC.out _).mono ?_); rintro e w' ⟨rfl, rfl⟩)
        exact ⟨⟨k + 1, by simp, by omega, by rw [← fill_set f hgo, HK.out]; exact HF.out.set k _⟩, by simp [intOf]; omega⟩
    · obtain rfl : k = G := by omega
      rw [fill_end] at HF
      clear hF
      go_wp2_with fail
      go_ret2
      exact HF.out.fin (by rw [gen_len]) HE.out.1 HE.out.2
end N11
end Go.Proofs.YtfhaloclbbmbeaaGreat
