/- Proved here: what the reference package's fit, Add and Sub answer and leave in memory. Condition: numbers of 64 bits as halves. -/
import Derived.Test.YtmhpfmhpilmfdaaDoorRh
import Derived.Deep.RegionHeld3
import Derived.ChangeAlike
import Derived.RegionTactic
namespace Go.Proofs.YtmhpfmhpilmfdaaDoor
open Go.RowKit

/-- The number of two halves. -/
def numW (hi lo : Nat) : Nat := hi * 18446744073709551616 + lo
/-- The slice z reads as l digits of the value n. -/
def Num (w : World) (z : Value) (n l : Nat) : Prop := ∃ xs, Row w z xs ∧ Dg xs ∧ dv xs = n ∧ xs.length = l
theorem Num.below {w w' : World} {z : Value} {n l B : Nat} (h : Num w z n l) (hb : Below B w w') (hB : w.heap.size ≤ B) : Num w' z n l := by
  obtain ⟨xs, h1, h2, h3, h4⟩ := h
  exact ⟨xs, h1.below hb hB, h2, h3, h4⟩
theorem Num.drew {w : World} {z : Value} {n l : Nat} (h : Num w z n l) : Num w.drew z n l := h
theorem dv_digs4 {x : Nat} (h : x < 18446744073709551616) : dv (digs x 4) = x := by
  simp only [digs, List.range_succ, List.range_zero, List.nil_append, List.map_cons, List.map_nil, List.cons_append, dv]
  simp
  omega
theorem dg_digs (x k : Nat) : Dg (digs x k) := by
  induction k with
  | zero => exact dg_nil
  | succ k ih => rw [digs_succ]; exact dg_snoc ih (Nat.mod_lt _ (by decide))
theorem dg_append {l m : List Nat} (h : Dg l) (h' : Dg m) : Dg (l ++ m) := fun j => by
  simp only [List.getD_eq_getElem?_getD, List.getElem?_append]
  split
  · exact h j
  · exact h' _
theorem dv_append (l m : List Nat) : dv (l ++ m) = dv l + 65536 ^ l.length * dv m := by
  have := dv_split (l ++ m) l.length
  simpa using this
theorem digits_num (hi lo : Nat) (w : World) (hh : hi < 18446744073709551616) (hl : lo < 18446744073709551616) :
    Calls Tryd.prog 24 #[.agg #[.int .u64 (hi : Int), .int .u64 (lo : Int)]] w fun e w' => ∃ z, e = .returned z ∧ Num w' z (numW hi lo) 8 ∧ Below w.heap.size w w' :=
  (digits_any hi lo w hh hl).mono fun _ _ ⟨z, he, hr, hb⟩ => ⟨z, he, ⟨_, hr, dg_append (dg_digs _ _) (dg_digs _ _), by rw [dv_append, dv_digs4 hh, dv_digs4 hl, digs_len, p4, numW]; omega, by simp [digs_len]⟩, hb⟩
theorem plus_num (v u : Value) (x y lx ly : Nat) (w : World) (hv : Num w v x lx) (hu : Num w u y ly) (hxl : lx ≤ 1000) (hyl : ly ≤ 1000) :
    Calls Tryd.prog 29 #[v, u] w fun e w' => ∃ z l, e = .returned z ∧ Num w' z (x + y) l ∧ l ≤ max lx ly + 1 ∧ Below w.heap.size w w' := by
  obtain ⟨xs, h1, h2, rfl, rfl⟩ := hv
  obtain ⟨ys, h5, h6, rfl, rfl⟩ := hu
  exact (plus_any v u xs ys w h1 h5 h2 h6 hxl hyl).mono fun _ _ ⟨z, zs, he, hr, hz, hval, hl, hb⟩ => ⟨z, _, he, ⟨zs, hr, hz, hval, rfl⟩, hl, hb⟩
theorem less_num (v u : Value) (x y lx ly : Nat) (w : World) (hv : Num w v x lx) (hu : Num w u y ly) (hxl : lx ≤ 1000) (hyl : ly ≤ 1000) :
    Calls Tryd.prog 23 #[v, u] w fun e w' => e = .returned (.int .i64 (cmpI x y)) ∧ w = w' := by
  obtain ⟨xs, h1, h2, rfl, rfl⟩ := hv
  obtain ⟨ys, h5, h6, rfl, rfl⟩ := hu
  exact less_any v u xs ys w h1 h5 h2 h6 hxl hyl
theorem minus_num (v u : Value) (x y lx ly : Nat) (w : World) (hv : Num w v x lx) (hu : Num w u y ly) (hxl : lx ≤ 1000) (hle : y ≤ x) :
    Calls Tryd.prog 31 #[v, u] w fun e w' => ∃ z, e = .returned z ∧ Num w' z (x - y) lx ∧ Below w.heap.size w w' := by
  obtain ⟨xs, h1, h2, rfl, rfl⟩ := hv
  obtain ⟨ys, h5, h6, rfl, rfl⟩ := hu
  exact (minus_any v u xs ys w h1 h5 h2 h6 hxl hle).mono fun _ _ ⟨z, zs, he, hr, hz, hval, hl, hb⟩ => ⟨z, he, ⟨zs, hr, hz, hval, hl⟩, hb⟩

theorem ret_box1 {fn : Func} {p : Tmp} {tmps : Array Value} {W : World} {g a b : Nat} (h : fn.results = #[.cell p 24]) (hp : tmps.getD p undef = .pointer (some ⟨g, 0, none⟩)) (hb : Box W g a b) :
    (results fn tmps).run Tryd.prog W = .ok (.agg #[.int .u64 (a : Int), .int .u64 (b : Int)]) W := by
  have hc0 := hb.c0
  have hc1 := hb.c1
  rw [Array.getD_eq_getD_getElem?] at hp
  simp [results, h, hp, go_sem, hc0, hc1]
theorem ret_box2 {fn : Func} {p u : Tmp} {tmps : Array Value} {W : World} {g a b : Nat} {v : Value} (h : fn.results = #[.cell p 24, .tmp u]) (hp : tmps.getD p undef = .pointer (some ⟨g, 0, none⟩)) (hv : tmps.getD u undef = v) (hb : Box W g a b) :
    (results fn tmps).run Tryd.prog W = .ok (.tuple #[.agg #[.int .u64 (a : Int), .int .u64 (b : Int)], v]) W := by
  have hc0 := hb.c0
  have hc1 := hb.c1
  rw [Array.getD_eq_getD_getElem?] at hp hv
  simp [results, h, hp, hv, go_sem, hc0, hc1]
theorem ret_box3 {fn : Func} {p u t : Tmp} {tmps : Array Value} {W : World} {g a b : Nat} {v x : Value} (h : fn.results = #[.cell p 24, .tmp u, .tmp t]) (hp : tmps.getD p undef = .pointer (some ⟨g, 0, none⟩)) (hv : tmps.getD u undef = v) (hx : tmps.getD t undef = x) (hb : Box W g a b) :
    (results fn tmps).run Tryd.prog W = .ok (.tuple #[.agg #[.int .u64 (a : Int), .int .u64 (b : Int)], v, x]) W := by
  have hc0 := hb.c0
  have hc1 := hb.c1
  rw [Array.getD_eq_getD_getElem?] at hp hv hx
  simp [results, h, hp, hv, hx, go_sem, hc0, hc1]
/-- What is answered of a number: its halves and 0, or 0 and 2 where it is too great. -/
def FitR (n : Nat) (h l : Nat) (c : Int) : Prop := (n < 65536 ^ 8 ∧ h = hiW n ∧ l = loW n ∧ c = 0) ∨ (¬ n < 65536 ^ 8 ∧ h = 0 ∧ l = 0 ∧ c = 2)
theorem FitR.same {n h l h' l' : Nat} {c c' : Int} (a : FitR n h l c) (b : FitR n h' l' c') : h = h' ∧ l = l' ∧ c = c' := by
  rcases a with ⟨a1, a2, a3, a4⟩ | ⟨a1, a2, a3, a4⟩ <;> rcases b with ⟨b1, b2, b3, b4⟩ | ⟨b1, b2, b3, b4⟩
  · exact ⟨by rw [a2, b2], by rw [a3, b3], by rw [a4, b4]⟩
  · exact absurd a1 b1
  · exact absurd b1 a1
  · exact ⟨by rw [a2, b2], by rw [a3, b3], by rw [a4, b4]⟩
def FitE (n : Nat) (w : World) (e : Ending) (w' : World) : Prop := ∃ (h l : Nat) (c : Int), e = .returned (.tuple #[.agg #[.int .u64 (h : Int), .int .u64 (l : Int)], .int .i64 c]) ∧ FitR n h l c ∧ Below w.heap.size w w'
theorem bel1 {w w1 : World} {o : Obj} (hb : Below (w.alloc o).heap.size (w.alloc o) w1) : Below w.heap.size w w1 := ((Below.refl _ w).alloc (Nat.le_refl _) o).trans (hb.mono (by simp))
theorem Box.alloc {w : World} {g a b : Nat} (h : Box w g a b) (o : Obj) : Box (w.alloc o) g a b := h.below ((Below.refl _ _).alloc (Nat.le_refl _) o) h.lt
theorem bel_set2 {w w1 : World} (h : Below w.heap.size w w1) (x y : Value) : Below w.heap.size w ((w1.setCell ⟨w.heap.size, 0, none⟩ x).setCell ⟨w.heap.size, 1, none⟩ y) := (h.setCell (Nat.le_refl _) x).setCell (Nat.le_refl _) y
theorem bel_fin {w w1 : World} (h : Below w.heap.size w w1) (x y : Value) (o : Obj) : Below w.heap.size w (((w1.setCell ⟨w.heap.size, 0, none⟩ x).setCell ⟨w.heap.size, 1, none⟩ y).alloc o) := (bel_set2 h x y).alloc (bel_set2 h x y).size o
set_option maxHeartbeats 1000000 in
theorem fit_num (v : Value) (x lx : Nat) (w : World) (hv : Num w v x lx) (hxl : lx ≤ 1000) : Calls Tryd.prog 28 #[v] w (FitE x w) := by
  obtain ⟨xs, h1, h2, rfl, h4⟩ := hv
  have H1 := Lib.hid h1
  have H2 := Lib.hid h2
  have hl : xs.length ≤ 1000 := by omega
  have HL := Lib.hid hl
  clear h1 h2 h4 hl hxl
  by_cases hx : dv xs < 65536 ^ 8
  · have HX := Lib.hid hx
    clear hx
    go_enter Tryd.func28, Tryd.ntmps28
    go_wp2_with (go_at_call 36; (with_reducible refine (value_any v xs _ (H1.out.below ((Below.refl w.heap.size _).alloc (Nat.le_refl _) _) (Nat.le_refl _)) H2.out HL.out HX.out).mono ?_); rintro e w1 ⟨rfl, hb⟩; have hbx := (Box.new w 0 0).below hb (by simp); have hc0 := hbx.c0; have hc1 := hbx.c1; have hf0 := hbx.fr 0; have hf1 := hbx.fr 1; have hlt := hbx.lt; have HB := Lib.hid hb; have HBX := Lib.hid hbx; clear hb hbx)
    exact bodyPost_ret (ret_box2 rfl rfl rfl (((HBX.out.set0 _).set1 _).alloc _)) rfl ⟨_, _, 0, rfl, .inl ⟨HX.out, rfl, rfl, rfl⟩, bel_fin (bel1 HB.out) _ _ _⟩
  · have HX := Lib.hid hx
    clear hx
    go_enter Tryd.func28, Tryd.ntmps28
    go_wp2_with (go_at_call 36; (with_reducible refine (value_over v xs _ (H1.out.below ((Below.refl w.heap.size _).alloc (Nat.le_refl _) _) (Nat.le_refl _)) H2.out HL.out HX.out).mono ?_); rintro e w1 ⟨rfl, hb⟩; have hbx := (Box.new w 0 0).below hb (by simp); have hc0 := hbx.c0; have hc1 := hbx.c1; have hf0 := hbx.fr 0; have hf1 := hbx.fr 1; have hlt := hbx.lt; have HB := Lib.hid hb; have HBX := Lib.hid hbx; clear hb hbx)
    exact bodyPost_ret (ret_box2 (a := 0) (b := 0) rfl rfl rfl (((HBX.out.set0 0).set1 0).alloc _)) rfl ⟨0, 0, 2, rfl, .inr ⟨HX.out, rfl, rfl, rfl⟩, bel_fin (bel1 HB.out) _ _ _⟩
/-- Two numbers in boxes, and one for the answer. -/
def BX (w W : World) (a b c d : Nat) : Prop := Box W w.heap.size a b ∧ Box W (w.heap.size + 1) c d ∧ Box W (w.heap.size + 2) 0 0 ∧ Below w.heap.size w W
theorem BX.start (w : World) (a b c d : Nat) : BX w (((w.alloc (.cells #[.int .u64 (a : Int), .int .u64 (b : Int)] 24)).alloc (.cells #[.int .u64 (c : Int), .int .u64 (d : Int)] 24)).alloc (.cells #[.int .u64 0, .int .u64 0] 24)) a b c d := by
  refine ⟨((Box.new w a b).alloc _).alloc _, ?_, ?_, (((Below.refl _ w).alloc (Nat.le_refl _) _).alloc (by simp) _).alloc (by simp; omega) _⟩
  · have := (Box.new (w.alloc (.cells #[.int .u64 (a : Int), .int .u64 (b : Int)] 24)) c d).alloc (.cells #[.int .u64 0, .int .u64 0] 24)
    simpa using this
  · have := Box.new ((w.alloc (.cells #[.int .u64 (a : Int), .int .u64 (b : Int)] 24)).alloc (.cells #[.int .u64 (c : Int), .int .u64 (d : Int)] 24)) 0 0
    simpa using this
theorem BX.drew {w W : World} {a b c d : Nat} (h : BX w W a b c d) : BX w W.drew a b c d := ⟨h.1, h.2.1, h.2.2.1, h.2.2.2.drew⟩
theorem BX.next {w W W' : World} {a b c d : Nat} (h : BX w W a b c d) (hb : Below W.heap.size W W') : BX w W' a b c d :=
  ⟨h.1.below hb h.1.lt, h.2.1.below hb h.2.1.lt, h.2.2.1.below hb h.2.2.1.lt, h.2.2.2.trans (hb.mono h.2.2.2.size)⟩
/-- What the walk wants of them. -/
def BXF (w W : World) (a b c d : Nat) : Prop :=
  W.cell? ⟨w.heap.size, 0, none⟩ = some (.int .u64 (a : Int)) ∧ W.cell? ⟨w.heap.size, 1, none⟩ = some (.int .u64 (b : Int)) ∧ W.cell? ⟨w.heap.size + 1, 0, none⟩ = some (.int .u64 (c : Int)) ∧ W.cell? ⟨w.heap.size + 1, 1, none⟩ = some (.int .u64 (d : Int)) ∧
  W.cell? ⟨w.heap.size + 2, 0, none⟩ = some (.int .u64 0) ∧ W.cell? ⟨w.heap.size + 2, 1, none⟩ = some (.int .u64 0) ∧ W.frozen? ⟨w.heap.size + 2, 0, none⟩ = false ∧ W.frozen? ⟨w.heap.size + 2, 1, none⟩ = false
theorem BX.facts {w W : World} {a b c d : Nat} (h : BX w W a b c d) : BXF w W a b c d := ⟨h.1.c0, h.1.c1, h.2.1.c0, h.2.1.c1, h.2.2.1.c0, h.2.2.1.c1, h.2.2.1.fr 0, h.2.2.1.fr 1⟩
theorem bx_fin {w W : World} {a b c d h l : Nat} (hx : BX w W a b c d) : Box ((W.setCell ⟨w.heap.size + 2, 0, none⟩ (.int .u64 (h : Int))).setCell ⟨w.heap.size + 2, 1, none⟩ (.int .u64 (l : Int))) (w.heap.size + 2) h l := (hx.2.2.1.set0 h).set1 l
theorem bx_bel {w W : World} {a b c d : Nat} (hx : BX w W a b c d) (x y : Value) : Below w.heap.size w ((W.setCell ⟨w.heap.size + 2, 0, none⟩ x).setCell ⟨w.heap.size + 2, 1, none⟩ y) := (hx.2.2.2.setCell (by simp) x).setCell (by simp) y
set_option maxHeartbeats 2000000 in
set_option maxRecDepth 100000 in
theorem radd_any (a b c d : Nat) (w : World) (ha : a < 18446744073709551616) (hb : b < 18446744073709551616) (hc : c < 18446744073709551616) (hd : d < 18446744073709551616) :
    Calls Tryd.prog 9 #[.agg #[.int .u64 (a : Int), .int .u64 (b : Int)], .agg #[.int .u64 (c : Int), .int .u64 (d : Int)]] w (FitE (numW a b + numW c d) w) := by
  have HA := Lib.hid (And.intro (And.intro ha hb) (And.intro hc hd))
  clear ha hb hc hd
  go_enter Tryd.func9, Tryd.ntmps9
  go_wp2_with fail
  obtain ⟨W0, hW0⟩ : ∃ W0, W0 = (((w.alloc (.cells #[.int .u64 (a : Int), .int .u64 (b : Int)] 24)).alloc (.cells #[.int .u64 (c : Int), .int .u64 (d : Int)] 24)).alloc (.cells #[.int .u64 0, .int .u64 0] 24)) := ⟨_, rfl⟩
  rw [← hW0]
  have HX0 := Lib.hid (hW0 ▸ BX.start w a b c d)
  clear hW0
  obtain ⟨f1, f2, f3, f4, f5, f6, f7, f8⟩ := HX0.out.facts
  go_region_with (first
    | (go_at_call 24; (with_reducible refine (digits_num a b _ HA.out.1.1 HA.out.1.2).mono ?_); rintro e w1 ⟨z1, rfl, hn1, hb1⟩; have HX1 := Lib.hid (HX0.out.drew.next hb1); have HN1 := Lib.hid hn1; clear hn1 hb1 f1 f2 f3 f4 f5 f6 f7 f8; obtain ⟨f1, f2, f3, f4, f5, f6, f7, f8⟩ := HX1.out.facts)
    | (go_at_call 24; (with_reducible refine (digits_num c d _ HA.out.2.1 HA.out.2.2).mono ?_); rintro e w2 ⟨z2, rfl, hn2, hb2⟩; have HX2 := Lib.hid (HX1.out.next hb2); have HN1' := Lib.hid (HN1.out.below hb2 (Nat.le_refl _)); have HN2 := Lib.hid hn2; clear hn2 hb2 f1 f2 f3 f4 f5 f6 f7 f8; obtain ⟨f1, f2, f3, f4, f5, f6, f7, f8⟩ := HX2.out.facts)
    | (go_at_call 29; (with_reducible refine (plus_num z1 z2 _ _ 8 8 w2 HN1'.out HN2.out (by decide) (by decide)).mono ?_); rintro e w3 ⟨z3, l3, rfl, hn3, hl3, hb3⟩; have HX3 := Lib.hid (HX2.out.next hb3); have HN3 := Lib.hid hn3; have HL3 := Lib.hid hl3; clear hn3 hl3 hb3 f1 f2 f3 f4 f5 f6 f7 f8; obtain ⟨f1, f2, f3, f4, f5, f6, f7, f8⟩ := HX3.out.facts)
    | (go_at_call 28; (with_reducible refine (fit_num z3 _ l3 w3 HN3.out (Nat.le_trans HL3.out (by decide))).mono ?_); rintro e w4 ⟨h4, l4, c4, rfl, hf4, hb4⟩; have HX4 := Lib.hid (HX3.out.next hb4); have HF4 := Lib.hid hf4; clear hf4 hb4 f1 f2 f3 f4 f5 f6 f7 f8; obtain ⟨f1, f2, f3, f4, f5, f6, f7, f8⟩ := HX4.out.facts))
  all_goals
    go_wp2_with fail
    exact bodyPost_ret (ret_box2 rfl rfl rfl (bx_fin HX4.out)) rfl ⟨_, _, _, rfl, HF4.out, bx_bel HX4.out _ _⟩
end Go.Proofs.YtmhpfmhpilmfdaaDoor
