/- Proved here: what the document's numbers of any size answer and leave in memory (ported). Conditions stand at each. -/
import Derived.Test.YtpobhegllhhdgaaGreatGC
import Derived.Maps.AppendAt
import Derived.Deep.AppendLies
import Derived.OwnWalk
import Derived.Lib.BufferMore
import Derived.Lib.SliceRun
import Derived.Deep.CutBlock
import Derived.Deep.DeepCutAuto
import Derived.Deep.CutRange
namespace Go.Proofs.YtpobhegllhhdgaaGreat
open Go.RowKit

theorem abs_any (n : Int) (w : World) (h1 : -9223372036854775808 ≤ n) (h2 : n ≤ 9223372036854775807) : Calls Tryz.prog 90 #[.int .i64 n] w fun e w' => e = .returned (.int .u64 (n.natAbs : Int)) ∧ w = w' := by
  by_cases h : n < 0
  · go_enter Tryz.func90, Tryz.ntmps90
    go_wp2
    go_ret
    exact ⟨ret_int (by rw [wrap_u64m, wrap_u64m]; omega), rfl⟩
  · have h0 : 0 ≤ n := by omega
    go_enter Tryz.func90, Tryz.ntmps90
    go_wp2
    go_ret
    exact ⟨ret_int (by omega), rfl⟩
theorem own_empty (w : World) (e : TypeId) : (w.alloc (.cells #[] e)).ownsRow w.heap.size e 1 (.slice (some ⟨w.heap.size, 0, none⟩) 0 0) 0 [] :=
  ⟨rfl, .inr ⟨w.heap.size, 0, #[], rfl, Nat.le_refl _, heap_alloc_new w _, Nat.le_refl _, Nat.zero_le _, rfl, rfl⟩⟩
theorem cs_one (k : IntKind) (xs : List Nat) : ∀ u ∈ cs k xs, u.oneCell' = true := by
  intro u hu
  simp only [cs, List.mem_map] at hu
  obtain ⟨d, _, rfl⟩ := hu
  rfl
theorem arr_cells {w : World} {k : IntKind} {ad : Addr} {m c : Nat} {xs : List Nat} (h : Arr w k (.slice (some ad) m c) xs) : (cs k xs).length = m * 1 ∧ ∀ j u, (cs k xs)[j]? = some u → w.cell? (ad.add j) = some u := by
  obtain ⟨A', c', h1, h2, h3, h4, h5⟩ := h
  injection h1 with e1 e2 e3
  subst e1 e2 e3
  refine ⟨by rw [cs_len, Nat.mul_one], fun j u hu => ?_⟩
  have hj : j < xs.length := by
    rcases Nat.lt_or_ge j xs.length with h | h
    · exact h
    · rw [List.getElem?_eq_none (by rw [cs_len]; exact h)] at hu; cases hu
  rw [cs_get k xs j hj] at hu
  injection hu with hu
  subst hu
  exact (h5 ad rfl).2 j hj
set_option maxHeartbeats 1000000 in
set_option maxRecDepth 100000 in
theorem clone_any (v : Value) (xs : List Nat) (w : World) (hv : Arr w .u32 v xs) (hxl : xs.length ≤ 1000000) : Calls Tryz.prog 119 #[v] w fun e w' => ∃ z, e = .returned z ∧ Arr w' .u32 z xs ∧ Below w.heap.size w w' := by
  obtain ⟨A, c, rfl⟩ := hv.slice
  obtain ⟨p, hp⟩ : ∃ p, p = xs.length := ⟨_, rfl⟩
  rw [← hp] at hv hxl ⊢
  have HV := Lib.hid hv
  have HP := Lib.hid hp
  clear hv hp
  obtain ⟨i0, hi0, hz0, hz1, hz2⟩ := info_parts Tryz.info105
  have HI : Hid (Tryz.prog.info? 105 = some i0 ∧ i0.zero = some (.int .u32 0) ∧ i0.size = 1 ∧ i0.bytes = 4) := ⟨hi0, hz0, hz1, hz2⟩
  clear hi0 hz0 hz1 hz2
  rcases A with _ | ad
  · have hnil : ∀ W, (binOp .eql 58 (.slice none p c) (.slice none 0 0)).run Tryz.prog W = .ok (.bool true) W := fun W => Lib.run_eql_slice_nil_nil W p c Tryz.underlying58
    have hxs : xs = [] := by
      obtain ⟨A', c', e1, e2, _, e4, _⟩ := HV.out
      injection e1 with e1 e5 e6
      have := e4 e1.symm
      exact List.eq_nil_of_length_eq_zero (by omega)
    have HXS := Lib.hid hxs
    clear hxs
    go_enter Tryz.func119, Tryz.ntmps119
    go_wp2_with fail
    go_ret
    exact ⟨_, rfl, by rw [HXS.out]; exact Arr.nil w .u32, Below.refl _ _⟩
  · have hnil : ∀ W, (binOp .eql 58 (.slice (some ad) p c) (.slice none 0 0)).run Tryz.prog W = .ok (.bool false) W := fun W => Lib.run_eql_slice_nil W 58 105 (some ad) p c 0 0 Tryz.underlying58
    have HO := Lib.hid (own_empty w 105)
    have HN := Lib.hid (arr_cells (HV.out.alloc (.cells #[] 105)))
    go_enter Tryz.func119, Tryz.ntmps119
    go_wp2_with (at_builtin; go_must (refine wpList_append_own _ rfl (.tmp 5) (.tmp 6) 58 rfl w.heap.size 105 i0 _ 1 4 Tryz.underlying58 HI.out.1 HI.out.2.1 HI.out.2.2.1 HI.out.2.2.2 rfl (by decide) (.slice (some ⟨w.heap.size, 0, none⟩) 0 0) 0 [] rfl HO.out ad p c (cs .u32 xs) rfl HN.out.1 HN.out.2 (cs_one .u32 xs) (by unfold maxLen; omega) (by omega) (by simp) ?_); intro z' w' hown' hg' _)
    go_ret
    exact ⟨_, rfl, Arr.of_own (k := .u32) hown', ((bel_a w (.cells #[] 105)).grown hg' (by simp) (by simp [Value.ownBlock]))⟩
end Go.Proofs.YtpobhegllhhdgaaGreat

namespace Go.Proofs.YtpobhegllhhdgaaGreat
open Go.RowKit

/-- One number in a box, and one for the answer. -/
structure B2' (T U : TypeId) (w W : World) (n : Bool) (v : Value) : Prop where
  a : Bx T W w.heap.size n v
  c : Bx U W (w.heap.size + 1) false (.slice none 0 0)
  bel : Below w.heap.size w W
section
variable {T U : TypeId} {w W W' : World} {n m : Bool} {v u : Value}
theorem B2'.start (T U : TypeId) (w : World) (n : Bool) (v : Value) : B2' T U w ((w.alloc (.cells #[.bool n, v] T)).alloc (.cells #[.bool false, .slice none 0 0] U)) n v := by
  refine ⟨(Bx.new T w n v).alloc _, ?_, ((Below.refl _ w).alloc (Nat.le_refl _) _).alloc (by simp) _⟩
  have := Bx.new U (w.alloc (.cells #[.bool n, v] T)) false (.slice none 0 0)
  simpa using this
theorem B2'.drew (h : B2' T U w W n v) : B2' T U w W.drew n v := ⟨h.a, h.c, h.bel.drew⟩
theorem B2'.drewN (h : B2' T U w W n v) (k : Nat) : B2' T U w (W.drewN k) n v := ⟨h.a, h.c, below_drewN h.bel k⟩
theorem B2'.next (h : B2' T U w W n v) (hb : Below W.heap.size W W') : B2' T U w W' n v := ⟨h.a.bel hb, h.c.bel hb, bel_tr h.bel hb⟩
theorem B2'.facts (h : B2' T U w W n v) : W.cell? ⟨w.heap.size, 0, none⟩ = some (.bool n) ∧ W.cell? ⟨w.heap.size, 1, none⟩ = some v ∧
    W.cell? ⟨w.heap.size + 1, 0, none⟩ = some (.bool false) ∧ W.cell? ⟨w.heap.size + 1, 1, none⟩ = some (.slice none 0 0) ∧ W.frozen? ⟨w.heap.size + 1, 0, none⟩ = false ∧ W.frozen? ⟨w.heap.size + 1, 1, none⟩ = false :=
  ⟨h.a.c0, h.a.c1, h.c.c0, h.c.c1, h.c.fr 0, h.c.fr 1⟩
theorem B2'.fin (h : B2' T U w W n v) (k : Bool) (x : Value) : Bx U ((W.setCell ⟨w.heap.size + 1, 0, none⟩ (.bool k)).setCell ⟨w.heap.size + 1, 1, none⟩ x) (w.heap.size + 1) k x := (h.c.set0 k).set1 x
theorem B2'.end_ (h : B2' T U w W n v) (x y : Value) : Below w.heap.size w ((W.setCell ⟨w.heap.size + 1, 0, none⟩ x).setCell ⟨w.heap.size + 1, 1, none⟩ y) := bel_set (bel_set h.bel (by omega) _ _) (by omega) _ _
theorem big_fin2 {b : Bool} {x : Value} {ss : List Nat} {l l' : Nat} {z z' : Int} (hX : B2' T U w W n v) (hS : Arr W .u32 x ss ∧ Eg ss ∧ Can b ss ∧ ss.length ≤ l ∧ sv b (dw ss) = z) (hz : z = z') (hl : l ≤ l') :
    BigE z' l' w (.returned (.agg #[.bool b, x])) ((W.setCell ⟨w.heap.size + 1, 0, none⟩ (.bool b)).setCell ⟨w.heap.size + 1, 1, none⟩ x) := by
  obtain ⟨h1, h2, h3, h4, h5⟩ := hS
  subst hz
  exact ⟨_, rfl, ⟨b, x, ss, rfl, (h1.box hX.c 0 _).box (hX.c.set0 b) 1 _, h2, h3, Nat.le_trans h4 hl, h5⟩, hX.end_ _ _⟩
theorem num_fin2 {b : Bool} {x : Value} {ss : List Nat} {l l' : Nat} {z z' : Int} (hX : B2' T U w W n v) (hS : Arr W .u64 x ss ∧ Dg ss ∧ Can b ss ∧ ss.length ≤ l ∧ sv b (dv ss) = z) (hz : z = z') (hl : l ≤ l') :
    NumE z' l' w (.returned (.agg #[.bool b, x])) ((W.setCell ⟨w.heap.size + 1, 0, none⟩ (.bool b)).setCell ⟨w.heap.size + 1, 1, none⟩ x) := by
  obtain ⟨h1, h2, h3, h4, h5⟩ := hS
  subst hz
  exact ⟨_, rfl, ⟨b, x, ss, rfl, (h1.box hX.c 0 _).box (hX.c.set0 b) 1 _, h2, h3, Nat.le_trans h4 hl, h5⟩, hX.end_ _ _⟩
end
/-- One for the answer alone. -/
structure B0 (U : TypeId) (w W : World) : Prop where
  c : Bx U W w.heap.size false (.slice none 0 0)
  bel : Below w.heap.size w W
theorem B0.start (U : TypeId) (w : World) : B0 U w (w.alloc (.cells #[.bool false, .slice none 0 0] U)) := ⟨Bx.new U w _ _, bel_a w _⟩
theorem B0.next {U : TypeId} {w W W' : World} (h : B0 U w W) (hb : Below W.heap.size W W') : B0 U w W' := ⟨h.c.bel hb, bel_tr h.bel hb⟩
theorem B0.facts {U : TypeId} {w W : World} (h : B0 U w W) : W.cell? ⟨w.heap.size, 0, none⟩ = some (.bool false) ∧ W.cell? ⟨w.heap.size, 1, none⟩ = some (.slice none 0 0) ∧ W.frozen? ⟨w.heap.size, 0, none⟩ = false ∧ W.frozen? ⟨w.heap.size, 1, none⟩ = false :=
  ⟨h.c.c0, h.c.c1, h.c.fr 0, h.c.fr 1⟩
theorem B0.fin {U : TypeId} {w W : World} (h : B0 U w W) (k : Bool) (x : Value) : Bx U ((W.setCell ⟨w.heap.size, 0, none⟩ (.bool k)).setCell ⟨w.heap.size, 1, none⟩ x) w.heap.size k x := (h.c.set0 k).set1 x
theorem big_fin0 {U : TypeId} {w W : World} {b : Bool} {x : Value} {ss : List Nat} {l l' : Nat} {z z' : Int} (hX : B0 U w W) (hS : Arr W .u32 x ss ∧ Eg ss ∧ Can b ss ∧ ss.length ≤ l ∧ sv b (dw ss) = z) (hz : z = z') (hl : l ≤ l') :
    BigE z' l' w (.returned (.agg #[.bool b, x])) ((W.setCell ⟨w.heap.size, 0, none⟩ (.bool b)).setCell ⟨w.heap.size, 1, none⟩ x) := by
  obtain ⟨h1, h2, h3, h4, h5⟩ := hS
  subst hz
  exact ⟨_, rfl, ⟨b, x, ss, rfl, (h1.box hX.c 0 _).box (hX.c.set0 b) 1 _, h2, h3, Nat.le_trans h4 hl, h5⟩, bel_set (bel_set hX.bel (Nat.le_refl _) _ _) (Nat.le_refl _) _ _⟩
theorem num_fin0 {U : TypeId} {w W : World} {b : Bool} {x : Value} {ss : List Nat} {l l' : Nat} {z z' : Int} (hX : B0 U w W) (hS : Arr W .u64 x ss ∧ Dg ss ∧ Can b ss ∧ ss.length ≤ l ∧ sv b (dv ss) = z) (hz : z = z') (hl : l ≤ l') :
    NumE z' l' w (.returned (.agg #[.bool b, x])) ((W.setCell ⟨w.heap.size, 0, none⟩ (.bool b)).setCell ⟨w.heap.size, 1, none⟩ x) := by
  obtain ⟨h1, h2, h3, h4, h5⟩ := hS
  subst hz
  exact ⟨_, rfl, ⟨b, x, ss, rfl, (h1.box hX.c 0 _).box (hX.c.set0 b) 1 _, h2, h3, Nat.le_trans h4 hl, h5⟩, bel_set (bel_set hX.bel (Nat.le_refl _) _ _) (Nat.le_refl _) _ _⟩
set_option maxHeartbeats 2000000 in
set_option maxRecDepth 100000 in
theorem neg_any (X : Value) (x : Int) (l : Nat) (w : World) (hX : BigA w X x l) (hl : l ≤ 100000) : Calls Tryz.prog 100 #[X] w (BigE (-x) l w) := by
  obtain ⟨n, v, xs, rfl, hv, hx, hxl, rfl⟩ := hX
  obtain ⟨A, c, rfl⟩ := hv.slice
  have HX := Lib.hid (And.intro hx (show (tr xs).length ≤ l by rw [tr_len]; have := tr_le xs; omega))
  obtain ⟨p, hp⟩ : ∃ p, p = xs.length := ⟨_, rfl⟩
  rw [← hp] at hv ⊢
  have HV := Lib.hid hv
  have HL := Lib.hid hl
  clear hv hx hxl hp hl
  go_enter Tryz.func100, Tryz.ntmps100
  go_wp2_with fail
  obtain ⟨W0, hW0⟩ : ∃ W0, W0 = ((w.alloc (.cells #[.bool n, .slice A p c] 60)).alloc (.cells #[.bool false, .slice none 0 0] 60)) := ⟨_, rfl⟩
  rw [← hW0]
  have HX0 := Lib.hid (hW0 ▸ B2'.start 60 60 w n (.slice A p c))
  clear hW0
  obtain ⟨f1, f2, f3, f4, f5, f6⟩ := HX0.out.facts
  have HV0 := Lib.hid (HV.out.bel HX0.out.bel)
  have l1 := HX0.out.c.lt
  have ne1 : ¬ w.heap.size + 1 = w.heap.size := by omega
  have ne2 : ¬ w.heap.size = w.heap.size + 1 := by omega
  clear f3 f4 f5 f6
  go_region_held3 (fun w' => w'.cell? ⟨w.heap.size, 0, none⟩ = some (.bool n) ∧ w'.cell? ⟨w.heap.size, 1, none⟩ = some (.slice A p c))
    (first | (go_split_ands; refine ⟨?_, ?_⟩ <;> first | (rw [hb3.cell (by have := hb2.size; simp at this ⊢; omega)]; assumption) | (rw [hb2.cell (by simp; omega)]; assumption)) | go_keep)
    (first
      | (go_at_call 92; (with_reducible refine (trim32_w A p c xs _ HV0.out.drew).mono ?_); rintro e w1 ⟨rfl, rfl⟩)
      | (go_at_call 119; (with_reducible refine (clone_any (.slice A (tl xs) c) (tr xs) _ HV0.out.drew.tr (Nat.le_trans HX.out.2 (Nat.le_trans HL.out (by decide)))).mono ?_); rintro e w2 ⟨z, rfl, hz, hb2⟩; have HX2 := Lib.hid (HX0.out.drew.next hb2); have HZ := Lib.hid hz; clear hz)
      | (go_at_call 91; (with_reducible refine (form_parts _ z (tr xs) w2 HZ.out (tr_eg HX.out.1)).mono ?_); rintro e w3 ⟨b, C, p', q', ss, rfl, hs, hb3⟩; have HX3 := Lib.hid (HX2.out.next hb3); have HS := Lib.hid hs; clear hs; obtain ⟨_, _, f3, f4, f5, f6⟩ := HX3.out.facts))
  all_goals
    go_wp2_with fail
    exact bodyPost_ret (ret_bx24 rfl rfl (HX3.out.fin b _)) rfl (big_fin2 HX3.out HS.out (by rw [tr_dw, sv_not]) HX.out.2)
theorem two_val (s : Nat) : dw [s % 4294967296, s / 4294967296] = s := by simp [dw]; omega
theorem two_eg {s : Nat} (h : s < 18446744073709551616) : Eg [s % 4294967296, s / 4294967296] := fun j => by
  rcases j with _ | _ | j <;> simp <;> omega
theorem two_arr (W : World) (s g : Nat) (hg : g = W.heap.size) : Arr (W.alloc (.cells #[.int .u32 ((s : Int) % 4294967296), .int .u32 ((s : Int) / 4294967296)] 105)) .u32 (.slice (some ⟨g, 0, none⟩) 2 2) [s % 4294967296, s / 4294967296] := by
  subst hg
  have h := DB.new .u32 105 W [s % 4294967296, s / 4294967296]
  have e : (cs .u32 [s % 4294967296, s / 4294967296]).toArray = #[.int .u32 ((s : Int) % 4294967296), .int .u32 ((s : Int) / 4294967296)] := by simp [cs]
  rw [e] at h
  exact h.arr (by simp)
theorem sv_abs (n : Int) : sv (decide (n < 0)) n.natAbs = n := by
  by_cases h : n < 0 <;> simp [h, sv] <;> omega
set_option maxHeartbeats 2000000 in
set_option maxRecDepth 100000 in
theorem of_any (n : Int) (w : World) (h1 : -9223372036854775808 ≤ n) (h2 : n ≤ 9223372036854775807) : Calls Tryz.prog 53 #[.int .i64 n] w (BigE n 2 w) := by
  obtain ⟨s, hs⟩ : ∃ s, s = n.natAbs := ⟨_, rfl⟩
  have hsl : s < 18446744073709551616 := by omega
  have HA := Lib.hid (fun W => abs_any n W h1 h2)
  rw [← hs] at HA
  have HV := Lib.hid (show sv (decide (n < 0)) s = n by rw [hs]; exact sv_abs n)
  have HE := Lib.hid (two_eg hsl)
  have H0 := Lib.hid ((B0.start 60 w).next (bel_a (w.alloc (.cells #[.bool false, .slice none 0 0] 60)) (.cells #[.int .u32 ((s : Int) % 4294967296), .int .u32 ((s : Int) / 4294967296)] 105)))
  have HR := Lib.hid (two_arr (w.alloc (.cells #[.bool false, .slice none 0 0] 60)) s (w.heap.size + 1) (by simp))
  clear hs h1 h2
  go_enter Tryz.func53, Tryz.ntmps53
  go_wp2_with (first | (go_at_call 90; (with_reducible refine (HA.out _).mono ?_); rintro e w1 ⟨rfl, rfl⟩) | (go_at_call 91; (with_reducible refine (form_parts (decide (n < 0)) (.slice (some ⟨w.heap.size + 1, 0, none⟩) 2 2) [s % 4294967296, s / 4294967296] _ HR.out HE.out).mono ?_); rintro e w3 ⟨b, C, p', q', ss, rfl, hs, hb3⟩; have HX3 := Lib.hid (H0.out.next hb3); have HS := Lib.hid hs; clear hs hb3; obtain ⟨f3, f4, f5, f6⟩ := HX3.out.facts))
  exact bodyPost_ret (ret_bx24 rfl rfl (HX3.out.fin b _)) rfl (big_fin0 HX3.out HS.out (by rw [two_val]; exact HV.out) (by simp))
end Go.Proofs.YtpobhegllhhdgaaGreat

namespace Go.Proofs.YtpobhegllhhdgaaGreat
open Go.RowKit

/-- n is how many digits m has in base 2. -/
def IsBits (m n : Nat) : Prop := m < 2 ^ n ∧ (n = 0 ∨ 2 ^ (n - 1) ≤ m)
theorem IsBits.one {m a b : Nat} (h : IsBits m a) (h' : IsBits m b) : a = b := by
  rcases Nat.lt_trichotomy a b with h1 | h1 | h1
  · have h2 := h'.2.resolve_left (by omega)
    have h3 : 2 ^ a ≤ 2 ^ (b - 1) := Nat.pow_le_pow_right (by decide) (by omega)
    have := h.1
    omega
  · exact h1
  · have h2 := h.2.resolve_left (by omega)
    have h3 : 2 ^ b ≤ 2 ^ (a - 1) := Nat.pow_le_pow_right (by decide) (by omega)
    have := h'.1
    omega
theorem natAbs_sv (n : Bool) (x : Nat) : (sv n x).natAbs = x := by cases n <;> simp [sv]
end Go.Proofs.YtpobhegllhhdgaaGreat

namespace Go.Proofs.YtpobhegllhhdgaaGreat
open Go.RowKit

/-- What Small answers of x: x and true, or 0 and false where x doesn't fit. -/
def SmallE (x : Int) (w : World) (e : Ending) (w' : World) : Prop := ∃ (m : Int) (b : Bool), e = .returned (.tuple #[.int .i64 m, .bool b]) ∧ ((b = true ∧ m = x ∧ -9223372036854775808 ≤ x ∧ x ≤ 9223372036854775807) ∨ (b = false ∧ m = 0 ∧ ¬ (-9223372036854775808 ≤ x ∧ x ≤ 9223372036854775807))) ∧ Below w.heap.size w w'
theorem SmallE.no {x : Int} {w w' : World} (h : ¬ (-9223372036854775808 ≤ x ∧ x ≤ 9223372036854775807)) (hb : Below w.heap.size w w') : SmallE x w (.returned (.tuple #[.int .i64 0, .bool false])) w' := ⟨0, false, rfl, .inr ⟨rfl, rfl, h⟩, hb⟩
theorem neg_back {m : Nat} (h : m ≤ 9223372036854775808) : wrap64 (IntKind.u64.wrap (-(m : Int))) = -(m : Int) := by
  rw [wrap_u64m]
  unfold wrap64
  omega
end Go.Proofs.YtpobhegllhhdgaaGreat

namespace Go.Proofs.YtpobhegllhhdgaaGreat
open Go.RowKit

theorem ret_bx24_3 {fn : Func} {p u t : Tmp} {tmps : Array Value} {W : World} {g : Nat} {n : Bool} {v x y : Value} (h : fn.results = #[.cell p 60, .tmp u, .tmp t]) (hp : tmps.getD p undef = .pointer (some ⟨g, 0, none⟩)) (hx : tmps.getD u undef = x) (hy : tmps.getD t undef = y) (hb : Bx 60 W g n v) :
    (results fn tmps).run Tryz.prog W = .ok (.tuple #[.agg #[.bool n, v], x, y]) W := by
  have hc0 := hb.c0
  have hc1 := hb.c1
  rw [Array.getD_eq_getD_getElem?] at hp hx hy
  simp [results, h, hp, hx, hy, go_sem, hc0, hc1]
theorem sv_tdiv (b : Bool) (m : Nat) (n : Int) : sv (!(b == decide (n < 0))) (m / n.natAbs) = (sv b m).tdiv n := by
  obtain ⟨k, rfl | rfl⟩ := Int.eq_nat_or_neg n
  · have h : ¬ (k : Int) < 0 := by omega
    cases b <;> simp [sv, h, Int.neg_tdiv]
  · rcases Nat.eq_zero_or_pos k with h0 | h0
    · subst h0
      cases b <;> simp [sv]
    · have h : k ≠ 0 := by omega
      cases b <;> simp [sv, Int.tdiv_neg, Int.neg_tdiv] <;> exact fun e => absurd e h
theorem tmod_nat (m k : Nat) : (m : Int).tmod (k : Int) = (m : Int) % (k : Int) := Int.tmod_eq_emod_of_nonneg (Int.natCast_nonneg _)
theorem sv_tmod (b : Bool) (m : Nat) (n : Int) : sv b (m % n.natAbs) = (sv b m).tmod n := by
  obtain ⟨k, rfl | rfl⟩ := Int.eq_nat_or_neg n
  · cases b <;> simp [sv, Int.neg_tmod, tmod_nat]
  · cases b <;> simp [sv, Int.tmod_neg, Int.neg_tmod, tmod_nat]
/-- What Div answers. -/
def DivBE (x n : Int) (l : Nat) (w : World) (e : Ending) (w' : World) : Prop := ∃ Z, e = .returned (.tuple #[Z, .int .i64 (x.tmod n), .int .i64 0]) ∧ BigC w' Z (x.tdiv n) l ∧ Below w.heap.size w w'
theorem divbe_of {x n r : Int} {l l' : Nat} {w w' : World} {v : Value} (hE : BigE (x.tdiv n) l w (.returned v) w') (hr : r = x.tmod n) (hl : l ≤ l') : DivBE x n l' w (.returned (.tuple #[v, .int .i64 r, .int .i64 0])) w' := by
  obtain ⟨Z, h1, h2, h3⟩ := hE
  injection h1 with h1
  subst h1 hr
  exact ⟨_, rfl, h2.le hl, h3⟩
set_option maxHeartbeats 2000000 in
set_option maxRecDepth 100000 in
theorem bdiv_any (X : Value) (x n : Int) (l : Nat) (w : World) (hX : BigA w X x l) (hl : l ≤ 100000) (hn : n ≠ 0) (h1 : -9223372036854775808 ≤ n) (h2 : n ≤ 9223372036854775807) : Calls Tryz.prog 122 #[X, .int .i64 n] w (DivBE x n l w) := by
  obtain ⟨b, v, xs, rfl, hv, hx, hxl, rfl⟩ := hX
  obtain ⟨A, c, rfl⟩ := hv.slice
  have HX := Lib.hid (And.intro hx (show (tr xs).length ≤ l by rw [tr_len]; have := tr_le xs; omega))
  obtain ⟨p, hp⟩ : ∃ p, p = xs.length := ⟨_, rfl⟩
  rw [← hp] at hv ⊢
  have HV := Lib.hid hv
  have HL := Lib.hid hl
  have hb0 : (n == 0) = false := by simp [hn]
  obtain ⟨s, hs⟩ : ∃ s, s = n.natAbs := ⟨_, rfl⟩
  have hs0 : 0 < s := by omega
  have hsl : s < 18446744073709551616 := by omega
  have hs2 : s ≤ 9223372036854775808 := by omega
  have HA := Lib.hid (fun W => abs_any n W h1 h2)
  rw [← hs] at HA
  have HD := Lib.hid (sv_tdiv b (dw xs) n)
  have HM := Lib.hid (sv_tmod b (dw xs) n)
  rw [← hs] at HD HM
  have hrl : dw xs % s < s := Nat.mod_lt _ hs0
  obtain ⟨r, hr⟩ : ∃ r, r = dw xs % s := ⟨_, rfl⟩
  rw [← hr] at HM hrl
  have HR := Lib.hid (show dw (tr xs) % s = r by rw [tr_dw, hr])
  have HS0 := Lib.hid (And.intro hs0 hsl)
  clear hv hx hxl hp hl hs hr hn h1 h2 hs0
  have hrl2 : r ≤ 9223372036854775807 := by omega
  have F := neg_back (show r ≤ 9223372036854775808 by omega)
  cases b
  · have H0 := Lib.hid (B2'.start 60 60 w false (.slice A p c))
    have HV0 := Lib.hid (HV.out.bel H0.out.bel)
    go_enter Tryz.func122, Tryz.ntmps122
    go_wp2_with (first
      | (go_at_call 92; (with_reducible refine (trim32_w A p c xs _ HV0.out).mono ?_); rintro e w1 ⟨rfl, rfl⟩)
      | (go_at_call 90; (with_reducible refine (HA.out _).mono ?_); rintro e w1 ⟨rfl, rfl⟩)
      | (go_at_call 129; (with_reducible refine (divide_any (.slice A (tl xs) c) (tr xs) s _ HV0.out.tr (tr_eg HX.out.1) (Nat.le_trans HX.out.2 HL.out) HS0.out.1 HS0.out.2).mono ?_); rintro e w2 ⟨B, zs, he, hz1, hz2, hz3, hz4, hb⟩; rw [HR.out] at he; subst he; have HX2 := Lib.hid (H0.out.next hb); have HZ := Lib.hid (And.intro hz1 (And.intro hz2 (And.intro hz3 hz4))); clear hz1 hz2 hz3 hz4 hb; obtain ⟨f1, f2, f3, f4, f5, f6⟩ := HX2.out.facts)
      | (go_at_call 91; (with_reducible refine (form_parts _ (.slice B zs.length zs.length) zs w2 HZ.out.1 HZ.out.2.1).mono ?_); rintro e w3 ⟨k, C, p', q', ss, rfl, hs, hb⟩; have HX3 := Lib.hid (HX2.out.next hb); have HS := Lib.hid hs; clear hs hb f1 f2 f3 f4 f5 f6; obtain ⟨f1, f2, f3, f4, f5, f6⟩ := HX3.out.facts))
    refine bodyPost_ret (ret_bx24_3 rfl rfl rfl rfl (HX3.out.fin k _)) rfl (divbe_of (big_fin2 HX3.out HS.out (by rw [HZ.out.2.2.1, tr_dw]; have h := HD.out; simpa using h) (Nat.le_refl _)) (by have h := HM.out; rw [sv_false] at h; exact h) (by rw [HZ.out.2.2.2]; exact HX.out.2))
  · have H0 := Lib.hid (B2'.start 60 60 w true (.slice A p c))
    have HV0 := Lib.hid (HV.out.bel H0.out.bel)
    go_enter Tryz.func122, Tryz.ntmps122
    go_wp2_with (first
      | (go_at_call 92; (with_reducible refine (trim32_w A p c xs _ HV0.out).mono ?_); rintro e w1 ⟨rfl, rfl⟩)
      | (go_at_call 90; (with_reducible refine (HA.out _).mono ?_); rintro e w1 ⟨rfl, rfl⟩)
      | (go_at_call 129; (with_reducible refine (divide_any (.slice A (tl xs) c) (tr xs) s _ HV0.out.tr (tr_eg HX.out.1) (Nat.le_trans HX.out.2 HL.out) HS0.out.1 HS0.out.2).mono ?_); rintro e w2 ⟨B, zs, he, hz1, hz2, hz3, hz4, hb⟩; rw [HR.out] at he; subst he; have HX2 := Lib.hid (H0.out.next hb); have HZ := Lib.hid (And.intro hz1 (And.intro hz2 (And.intro hz3 hz4))); clear hz1 hz2 hz3 hz4 hb; obtain ⟨f1, f2, f3, f4, f5, f6⟩ := HX2.out.facts)
      | (go_at_call 91; (with_reducible refine (form_parts _ (.slice B zs.length zs.length) zs w2 HZ.out.1 HZ.out.2.1).mono ?_); rintro e w3 ⟨k, C, p', q', ss, rfl, hs, hb⟩; have HX3 := Lib.hid (HX2.out.next hb); have HS := Lib.hid hs; clear hs hb f1 f2 f3 f4 f5 f6; obtain ⟨f1, f2, f3, f4, f5, f6⟩ := HX3.out.facts))
    refine bodyPost_ret (ret_bx24_3 rfl rfl rfl rfl (HX3.out.fin k _)) rfl (divbe_of (big_fin2 HX3.out HS.out (by rw [HZ.out.2.2.1, tr_dw]; have h := HD.out; simpa using h) (Nat.le_refl _)) (by have h := HM.out; rw [sv_true] at h; rw [F]; exact h) (by rw [HZ.out.2.2.2]; exact HX.out.2))
end Go.Proofs.YtpobhegllhhdgaaGreat

namespace Go.Proofs.YtpobhegllhhdgaaGreat
open Go.RowKit

/-- What holds at each round's head of Shift. -/
structure ShW (w wr : World) (g : Nat) (xs os : List Nat) (L k r j : Nat) : Prop where
  db : DB .u32 105 wr g os
  eg : Eg os
  len : os.length = L
  zero : ∀ i, k + j + 1 ≤ i → dat os i = 0
  low : dat os (k + j) < 2 ^ r
  val : dw os = dw (xs.take j) * 2 ^ r * 4294967296 ^ k
  bel : Below w.heap.size w wr
theorem ShW.start (w W : World) (xs : List Nat) (L k r : Nat) (hb : Below w.heap.size w W) : ShW w (W.alloc (.cells (cs .u32 (List.replicate L 0)).toArray 105)) W.heap.size xs (List.replicate L 0) L k r 0 :=
  ⟨DB.new _ _ W _, eg_zeros L, by simp, fun j _ => dw_zeros_ L j, by rw [dw_zeros_]; exact Nat.two_pow_pos r, by rw [dw_zeros]; simp [dw], bel_tr hb (bel_a W _)⟩
theorem low_mul {d r : Nat} (hr : r < 32) : d * 2 ^ r % 4294967296 = 2 ^ r * (d % 2 ^ (32 - r)) := by
  have e : (4294967296 : Nat) = 2 ^ r * 2 ^ (32 - r) := by rw [← Nat.pow_add, show r + (32 - r) = 32 by omega]
  rw [e, Nat.mul_comm d, Nat.mul_mod_mul_left]
theorem ShW.step {w wr : World} {g : Nat} {xs os : List Nat} {L k r j : Nat} (h : ShW w wr g xs os L k r j) (hg : w.heap.size ≤ g) (hx : Eg xs) (hr : r < 32) (hL : L = k + xs.length + 1) (hj : j < xs.length) :
    dat xs j * 2 ^ r < 18446744073709551616 ∧ bits .or .u32 (dat os (k + j) : Int) ((dat xs j * 2 ^ r % 4294967296 : Nat) : Int) = ((dat os (k + j) + dat xs j * 2 ^ r % 4294967296 : Nat) : Int) ∧
    ShW w ((wr.setCell ⟨g, k + j, none⟩ (.int .u32 ((dat os (k + j) + dat xs j * 2 ^ r % 4294967296 : Nat) : Int))).setCell ⟨g, k + j + 1, none⟩ (.int .u32 ((dat xs j * 2 ^ r / 4294967296 : Nat) : Int))) g xs
      ((os.set (k + j) (dat os (k + j) + dat xs j * 2 ^ r % 4294967296)).set (k + j + 1) (dat xs j * 2 ^ r / 4294967296)) L k r (j + 1) := by
  have hd : dat xs j < 4294967296 := hx j
  have hp : 2 ^ r ≤ 2 ^ 31 := Nat.pow_le_pow_right (by decide) (by omega)
  have hp0 : 0 < 2 ^ r := Nat.two_pow_pos r
  have e31 : (2 : Nat) ^ 31 = 2147483648 := by decide
  have hm := low_mul (d := dat xs j) hr
  have hlow := h.low
  have hpr : dat xs j * 2 ^ r ≤ 4294967295 * 2 ^ r := Nat.mul_le_mul_right _ (by omega)
  have hmod : dat xs j * 2 ^ r % 4294967296 < 4294967296 := Nat.mod_lt _ (by decide)
  have hsum : dat os (k + j) + dat xs j * 2 ^ r % 4294967296 < 4294967296 := by
    have h1 : dat xs j % 2 ^ (32 - r) < 2 ^ (32 - r) := Nat.mod_lt _ (Nat.two_pow_pos _)
    have e : (4294967296 : Nat) = 2 ^ r * 2 ^ (32 - r) := by rw [← Nat.pow_add, show r + (32 - r) = 32 by omega]
    have h2 := Nat.mul_le_mul_left (2 ^ r) (show dat xs j % 2 ^ (32 - r) + 1 ≤ 2 ^ (32 - r) by omega)
    rw [← e, Nat.mul_add, ← hm] at h2
    omega
  have hor : dat os (k + j) ||| dat xs j * 2 ^ r % 4294967296 = dat os (k + j) + dat xs j * 2 ^ r % 4294967296 := by
    rw [hm, Nat.or_comm, ← Nat.two_pow_add_eq_or_of_lt hlow, Nat.add_comm]
  have hhi : dat xs j * 2 ^ r / 4294967296 < 2 ^ r := by
    rw [Nat.div_lt_iff_lt_mul (by decide)]
    omega
  refine ⟨by omega, by rw [u32_or_nat (dat os (k + j)) _ (h.eg (k + j)) hmod, hor], (h.db.set_ (k + j) _).set_ (k + j + 1) _, eg_set (eg_set h.eg _ hsum) _ (by omega), by simp [h.len], fun i hi => ?_, ?_, ?_, bel_set (bel_set h.bel hg _ _) hg _ _⟩
  · have := h.zero i (by omega)
    simp only [dat, List.getD_eq_getElem?_getD] at this ⊢
    rw [List.getElem?_set_ne (by omega), List.getElem?_set_ne (by omega)]
    exact this
  · have hl : k + (j + 1) < os.length := by rw [h.len]; omega
    have e : dat ((os.set (k + j) (dat os (k + j) + dat xs j * 2 ^ r % 4294967296)).set (k + j + 1) (dat xs j * 2 ^ r / 4294967296)) (k + (j + 1)) = dat xs j * 2 ^ r / 4294967296 := by
      show List.getD _ _ _ = _
      rw [List.getD_eq_getElem?_getD, show k + (j + 1) = k + j + 1 by omega, List.getElem?_set_self (by simp; omega)]
      rfl
    rw [e]
    exact hhi
  · have h1 := dw_set (l := os) (dat os (k + j) + dat xs j * 2 ^ r % 4294967296) (show k + j < os.length by rw [h.len]; omega)
    have hz : dat (os.set (k + j) (dat os (k + j) + dat xs j * 2 ^ r % 4294967296)) (k + j + 1) = 0 := by
      have := h.zero (k + j + 1) (Nat.le_refl _)
      simp only [dat, List.getD_eq_getElem?_getD] at this ⊢
      rw [List.getElem?_set_ne (by omega)]
      exact this
    have h2 := dw_set (l := os.set (k + j) (dat os (k + j) + dat xs j * 2 ^ r % 4294967296)) (dat xs j * 2 ^ r / 4294967296) (show k + j + 1 < _ by simp [h.len]; omega)
    have hz' : (os.set (k + j) (dat os (k + j) + dat xs j * 2 ^ r % 4294967296)).getD (k + j + 1) 0 = 0 := hz
    rw [hz'] at h2
    have e0 : os.getD (k + j) 0 = dat os (k + j) := rfl
    rw [e0] at h1
    have hdm := Nat.div_add_mod (dat xs j * 2 ^ r) 4294967296
    rw [dw_take_succ]
    have hv := h.val
    change _ = (_ + 4294967296 ^ j * dat xs j) * 2 ^ r * 4294967296 ^ k
    rw [Nat.pow_succ] at h2
    rw [Nat.pow_add] at h1 h2
    generalize dat xs j * 2 ^ r / 4294967296 = a at *
    generalize dat xs j * 2 ^ r % 4294967296 = b at *
    generalize dw ((os.set (k + j) (dat os (k + j) + b)).set (k + j + 1) a) = z2 at *
    generalize dw (os.set (k + j) (dat os (k + j) + b)) = z1 at *
    generalize dat os (k + j) = o at *
    generalize dat xs j = d at *
    generalize 4294967296 ^ k = P at *
    generalize 4294967296 ^ j = Q at *
    generalize 2 ^ r = R at *
    grind
theorem ShW.fin {w wr : World} {g : Nat} {xs os : List Nat} {L k r : Nat} (h : ShW w wr g xs os L k r xs.length) (hl : L ≤ 1000000) : Arr wr .u32 (.slice (some ⟨g, 0, none⟩) L L) os ∧ Eg os ∧ os.length = L ∧ dw os = dw xs * 2 ^ (32 * k + r) := by
  have ha := h.db.arr (by rw [h.len]; exact hl)
  rw [h.len] at ha
  refine ⟨ha, h.eg, h.len, ?_⟩
  rw [h.val, dw_take_all (Nat.le_refl _), show (4294967296 : Nat) = 2 ^ 32 by decide, ← Nat.pow_mul, Nat.mul_assoc, ← Nat.pow_add]
  congr 2
  omega
end Go.Proofs.YtpobhegllhhdgaaGreat
