/- Proved here: what package poly's At answers and leaves in memory. Condition: a polynomial of at most 100 numbers of at most 60000 digits, that lies in memory, and a fraction of 64 bits. -/
import Derived.Test.YtpobhegllhhdgaaGreatQe
import Derived.Test.YtpobhegllhhdgaaGreatTl
namespace Go.Proofs.YtpobhegllhhdgaaGreat
open Go.RowKit

theorem size_a1 (w : World) (o : Obj) : (w.alloc o).heap.size = w.heap.size + 1 := by simp
theorem Rt.drew {w : World} {g : Nat} {n d : Int} (h : Rt w g n d) : Rt w.drew g n d := h
theorem Rt.far {w : World} {g : Nat} {n d : Int} (h : Rt w g n d) {p : Addr} (hp : g ≠ p.block) (u : Value) : Rt (w.setCell p u) g n d := (Below.heap_setCell w p u g hp).trans h
theorem rt_facts {W : World} {g : Nat} {c d : Int} (h : Rt W g c d) : W.cell? ⟨g, 0, none⟩ = some (.int .i64 c) ∧ W.cell? ⟨g, 1, none⟩ = some (.int .i64 d) := ⟨h.c0, h.c1⟩
theorem Bx.noint {T : TypeId} {w : World} {g : Nat} {n : Bool} {B : Option Addr} {p q : Nat} (h : Bx T w g n (.slice B p q)) : NoInt w g := by
  intro a k z ha he
  unfold Bx at h
  unfold World.cell? at he
  rw [ha, h] at he
  by_cases hs : a.spot.isSome
  · simp [hs] at he
  · obtain ⟨o, ho⟩ : ∃ o, o = a.off := ⟨_, rfl⟩
    simp [hs, ← ho] at he
    rcases o with _ | _ | j <;> simp at he
theorem El.box {K : Kd} {w : World} {Z : Value} {z : Int} {l : Nat} (h : El K w Z z l) {T : TypeId} {g : Nat} {n : Bool} {B : Option Addr} {p q : Nat} (hg : Bx T w g n (.slice B p q)) (n' : Bool) (B' : Option Addr) (p' q' : Nat) :
    El K ((w.setCell ⟨g, 0, none⟩ (.bool n')).setCell ⟨g, 1, none⟩ (.slice B' p' q')) Z z l :=
  (h.store hg.noint _ _).store (hg.noint.set _ (by intro k z h; cases h)) _ _
theorem Bx.put {T : TypeId} {w : World} {g : Nat} {n : Bool} {v : Value} (h : Bx T w g n v) (m : Bool) (u : Value) : Bx T ((w.setCell ⟨g, 0, none⟩ (.bool m)).setCell ⟨g, 1, none⟩ u) g m u := (h.set0 m).set1 u
/-- A fraction and the answer's place in boxes, other boxes that are yet empty, and numbers. -/
structure AtB (w W : World) (n d : Int) (L : List Nat) (E : List (Value × Int)) : Prop where
  bel : Below w.heap.size w W
  x : Rt W w.heap.size n d
  r : Bx 60 W (w.heap.size + 1) false (.slice none 0 0)
  bx : ∀ g ∈ L, Bx 60 W g false (.slice none 0 0) ∧ w.heap.size + 1 < g
  nd : L.Nodup
  es : ∀ e ∈ E, El .c W e.1 e.2 2
section
variable {w W W' : World} {n d : Int} {L : List Nat} {E : List (Value × Int)}
theorem AtB.next (h : AtB w W n d L E) (hb : Below W.heap.size W W') : AtB w W' n d L E :=
  ⟨bel_tr h.bel hb, h.x.below hb h.x.lt, h.r.bel hb, fun g hg => ⟨(h.bx g hg).1.bel hb, (h.bx g hg).2⟩, h.nd, fun e he => (h.es e he).bel hb⟩
theorem AtB.drew (h : AtB w W n d L E) : AtB w W.drew n d L E := h.next ((Below.refl _ _).drew)
theorem AtB.alloc (h : AtB w W n d L E) : AtB w (W.alloc (.cells #[.bool false, .slice none 0 0] 60)) n d (W.heap.size :: L) E := by
  have h1 := h.next (bel_a W (.cells #[.bool false, .slice none 0 0] 60))
  refine ⟨h1.bel, h1.x, h1.r, fun g hg => ?_, List.nodup_cons.2 ⟨fun hm => Nat.lt_irrefl _ (h.bx _ hm).1.lt, h.nd⟩, h1.es⟩
  rcases List.mem_cons.1 hg with rfl | hg
  · exact ⟨Bx.new 60 W _ _, h.r.lt⟩
  · exact h1.bx g hg
theorem AtB.put (h : AtB w W n d L E) {Z : Value} {z : Int} (hz : El .c W Z z 2) : AtB w W n d L ((Z, z) :: E) :=
  ⟨h.bel, h.x, h.r, h.bx, h.nd, fun e he => by
    rcases List.mem_cons.1 he with rfl | he
    · exact hz
    · exact h.es e he⟩
theorem AtB.bxs (h : AtB w W n d L E) : ∀ g ∈ L, W.cell? ⟨g, 0, none⟩ = some (.bool false) ∧ W.cell? ⟨g, 1, none⟩ = some (.slice none 0 0) ∧ W.frozen? ⟨g, 0, none⟩ = false ∧ W.frozen? ⟨g, 1, none⟩ = false ∧ w.heap.size + 1 < g ∧ g < W.heap.size := fun g hg =>
  ⟨(h.bx g hg).1.c0, (h.bx g hg).1.c1, (h.bx g hg).1.fr 0, (h.bx g hg).1.fr 1, (h.bx g hg).2, (h.bx g hg).1.lt⟩
theorem AtB.sz (h : AtB w W n d L E) : w.heap.size + 1 < W.heap.size := h.r.lt
end
/-- Behind the two numbers: each in its box. -/
structure AtC (w W : World) (n d : Int) (p q : Nat) : Prop where
  bel : Below w.heap.size w W
  r : Bx 60 W (w.heap.size + 1) false (.slice none 0 0)
  N : ∃ b B s t, Bx 60 W p b (.slice B s t) ∧ El .c W (.agg #[.bool b, .slice B s t]) n 2
  D : ∃ b B s t, Bx 60 W q b (.slice B s t) ∧ El .c W (.agg #[.bool b, .slice B s t]) d 2
  ne : p ≠ q
  gp : w.heap.size + 1 < p
  gq : w.heap.size + 1 < q
theorem AtC.next {w W W' : World} {n d : Int} {p q : Nat} (h : AtC w W n d p q) (hb : Below W.heap.size W W') : AtC w W' n d p q := by
  obtain ⟨b1, B1, s1, t1, h1, e1⟩ := h.N
  obtain ⟨b2, B2, s2, t2, h2, e2⟩ := h.D
  exact ⟨bel_tr h.bel hb, h.r.bel hb, ⟨b1, B1, s1, t1, h1.bel hb, e1.bel hb⟩, ⟨b2, B2, s2, t2, h2.bel hb, e2.bel hb⟩, h.ne, h.gp, h.gq⟩
theorem AtB.fin {w W : World} {n d : Int} {L : List Nat} {b1 b2 : Bool} {B1 B2 : Option Addr} {s1 t1 s2 t2 : Nat} {E : List (Value × Int)} (h : AtB w W n d L E) (h1 : (.agg #[.bool b1, .slice B1 s1 t1], n) ∈ E) (h2 : (.agg #[.bool b2, .slice B2 s2 t2], d) ∈ E)
    {p q : Nat} (hp : p ∈ L) (hq : q ∈ L) (hne : p ≠ q) :
    AtC w ((((W.setCell ⟨p, 0, none⟩ (.bool b1)).setCell ⟨p, 1, none⟩ (.slice B1 s1 t1)).setCell ⟨q, 0, none⟩ (.bool b2)).setCell ⟨q, 1, none⟩ (.slice B2 s2 t2)) n d p q := by
  obtain ⟨x1, x2⟩ := h.bx p hp
  obtain ⟨y1, y2⟩ := h.bx q hq
  have hz1 := h.es _ h1
  have hz2 := h.es _ h2
  have y3 : Bx 60 ((W.setCell ⟨p, 0, none⟩ (.bool b1)).setCell ⟨p, 1, none⟩ (.slice B1 s1 t1)) q false (.slice none 0 0) := y1.two (Ne.symm hne) _ _ _ _
  refine ⟨bel_set (bel_set (bel_set (bel_set h.bel (by omega) _ _) (by omega) _ _) (by omega) _ _) (by omega) _ _, (h.r.two (by omega) _ _ _ _).two (by omega) _ _ _ _, ⟨b1, B1, s1, t1, ?_, ?_⟩, ⟨b2, B2, s2, t2, ?_, ?_⟩, hne, x2, y2⟩
  · exact (x1.put b1 _).two hne _ _ _ _
  · exact (hz1.box x1 _ _ _ _).box y3 _ _ _ _
  · exact y3.put b2 _
  · exact (hz2.box x1 _ _ _ _).box y3 _ _ _ _
theorem size_s2 (W : World) (p q : Addr) (x y : Value) : ((W.setCell p x).setCell q y).heap.size = W.heap.size := by simp [World.setCell]
theorem AtB.fin3 {w W : World} {n d : Int} {L : List Nat} {b1 b2 : Bool} {B1 B2 : Option Addr} {s1 t1 s2 t2 : Nat} {E : List (Value × Int)} (h : AtB w W n d L E) (h1 : (.agg #[.bool b1, .slice B1 s1 t1], n) ∈ E) (h2 : (.agg #[.bool b2, .slice B2 s2 t2], d) ∈ E)
    {p : Nat} (hp : p ∈ L) : AtC w (((W.setCell ⟨p, 0, none⟩ (.bool b1)).setCell ⟨p, 1, none⟩ (.slice B1 s1 t1)).alloc (.cells #[.bool b2, .slice B2 s2 t2] 60)) n d p W.heap.size := by
  obtain ⟨x1, x2⟩ := h.bx p hp
  have hz1 := h.es _ h1
  have hz2 := h.es _ h2
  have e := size_s2 W ⟨p, 0, none⟩ ⟨p, 1, none⟩ (.bool b1) (.slice B1 s1 t1)
  have hw := h.r.lt
  refine ⟨bel_tr (bel_set (bel_set h.bel (by omega) _ _) (by omega) _ _) (bel_a _ _), (h.r.two (by omega) _ _ _ _).alloc _, ⟨b1, B1, s1, t1, (x1.put b1 _).alloc _, (hz1.box x1 _ _ _ _).bel (bel_a _ _)⟩, ⟨b2, B2, s2, t2, ?_, (hz2.box x1 _ _ _ _).bel (bel_a _ _)⟩, Nat.ne_of_lt x1.lt, x2, hw⟩
  have hn := Bx.new 60 ((W.setCell ⟨p, 0, none⟩ (.bool b1)).setCell ⟨p, 1, none⟩ (.slice B1 s1 t1)) b2 (.slice B2 s2 t2)
  rw [e] at hn
  exact hn
theorem AtB.fin4 {w W : World} {n d : Int} {L : List Nat} {b1 b2 : Bool} {B1 B2 : Option Addr} {s1 t1 s2 t2 : Nat} {E : List (Value × Int)} (h : AtB w W n d L E) (h1 : (.agg #[.bool b1, .slice B1 s1 t1], n) ∈ E) (h2 : (.agg #[.bool b2, .slice B2 s2 t2], d) ∈ E)
    {q : Nat} (hq : q ∈ L) : AtC w (((W.setCell ⟨q, 0, none⟩ (.bool b2)).setCell ⟨q, 1, none⟩ (.slice B2 s2 t2)).alloc (.cells #[.bool b1, .slice B1 s1 t1] 60)) n d W.heap.size q := by
  obtain ⟨x1, x2⟩ := h.bx q hq
  have hz1 := h.es _ h1
  have hz2 := h.es _ h2
  have e := size_s2 W ⟨q, 0, none⟩ ⟨q, 1, none⟩ (.bool b2) (.slice B2 s2 t2)
  have hw := h.r.lt
  refine ⟨bel_tr (bel_set (bel_set h.bel (by omega) _ _) (by omega) _ _) (bel_a _ _), (h.r.two (by omega) _ _ _ _).alloc _, ⟨b1, B1, s1, t1, ?_, (hz1.box x1 _ _ _ _).bel (bel_a _ _)⟩, ⟨b2, B2, s2, t2, (x1.put b2 _).alloc _, (hz2.box x1 _ _ _ _).bel (bel_a _ _)⟩, Ne.symm (Nat.ne_of_lt x1.lt), hw, x2⟩
  have hn := Bx.new 60 ((W.setCell ⟨q, 0, none⟩ (.bool b2)).setCell ⟨q, 1, none⟩ (.slice B2 s2 t2)) b1 (.slice B1 s1 t1)
  rw [e] at hn
  exact hn
theorem AtB.fin1 {w W : World} {n d : Int} {L : List Nat} {b1 b2 : Bool} {B1 B2 : Option Addr} {s1 t1 s2 t2 : Nat} {E : List (Value × Int)} (h : AtB w W n d L E) (h1 : (.agg #[.bool b1, .slice B1 s1 t1], n) ∈ E) (h2 : (.agg #[.bool b2, .slice B2 s2 t2], d) ∈ E) :
    AtC w ((W.alloc (.cells #[.bool b1, .slice B1 s1 t1] 60)).alloc (.cells #[.bool b2, .slice B2 s2 t2] 60)) n d W.heap.size (W.heap.size + 1) := by
  have hz1 := (h.es _ h1).bel (bel_tr (bel_a W (.cells #[.bool b1, .slice B1 s1 t1] 60)) (bel_a _ (.cells #[.bool b2, .slice B2 s2 t2] 60)))
  have hz2 := (h.es _ h2).bel (bel_tr (bel_a W (.cells #[.bool b1, .slice B1 s1 t1] 60)) (bel_a _ (.cells #[.bool b2, .slice B2 s2 t2] 60)))
  have hw := h.r.lt
  have hn := Bx.new 60 (W.alloc (.cells #[.bool b1, .slice B1 s1 t1] 60)) b2 (.slice B2 s2 t2)
  rw [size_a1] at hn
  exact ⟨bel_tr h.bel (bel_tr (bel_a _ _) (bel_a _ _)), (h.r.alloc _).alloc _, ⟨b1, B1, s1, t1, (Bx.new 60 W _ _).alloc _, hz1⟩, ⟨b2, B2, s2, t2, hn, hz2⟩, by omega, hw, by omega⟩
theorem AtB.fin2 {w W : World} {n d : Int} {L : List Nat} {b1 b2 : Bool} {B1 B2 : Option Addr} {s1 t1 s2 t2 : Nat} {E : List (Value × Int)} (h : AtB w W n d L E) (h1 : (.agg #[.bool b1, .slice B1 s1 t1], n) ∈ E) (h2 : (.agg #[.bool b2, .slice B2 s2 t2], d) ∈ E) :
    AtC w ((W.alloc (.cells #[.bool b2, .slice B2 s2 t2] 60)).alloc (.cells #[.bool b1, .slice B1 s1 t1] 60)) n d (W.heap.size + 1) W.heap.size := by
  have hz1 := (h.es _ h1).bel (bel_tr (bel_a W (.cells #[.bool b2, .slice B2 s2 t2] 60)) (bel_a _ (.cells #[.bool b1, .slice B1 s1 t1] 60)))
  have hz2 := (h.es _ h2).bel (bel_tr (bel_a W (.cells #[.bool b2, .slice B2 s2 t2] 60)) (bel_a _ (.cells #[.bool b1, .slice B1 s1 t1] 60)))
  have hw := h.r.lt
  have hn := Bx.new 60 (W.alloc (.cells #[.bool b2, .slice B2 s2 t2] 60)) b1 (.slice B1 s1 t1)
  rw [size_a1] at hn
  exact ⟨bel_tr h.bel (bel_tr (bel_a _ _) (bel_a _ _)), (h.r.alloc _).alloc _, ⟨b1, B1, s1, t1, hn, hz1⟩, ⟨b2, B2, s2, t2, (Bx.new 60 W _ _).alloc _, hz2⟩, by omega, by omega, hw⟩
/-- A value is answered. -/
def AtE (v : Int) (l : Nat) (w : World) (e : Ending) (w' : World) : Prop := ∃ Z, e = .returned (.tuple #[Z, .int .i64 0]) ∧ El .c w' Z v l ∧ Below w.heap.size w w'
theorem ret_bx2 {fn : Func} {p q : Tmp} {tmps : Array Value} {W : World} {g : Nat} {n : Bool} {v x : Value} (h : fn.results = #[.cell p 60, .tmp q]) (hp : tmps.getD p undef = .pointer (some ⟨g, 0, none⟩)) (hq : tmps.getD q undef = x) (hb : Bx 60 W g n v) :
    (results fn tmps).run Tryz.prog W = .ok (.tuple #[.agg #[.bool n, v], x]) W := by
  have hc0 := hb.c0
  have hc1 := hb.c1
  rw [Array.getD_eq_getD_getElem?] at hp hq
  simp [results, h, hp, hq, go_sem, hc0, hc1]
set_option maxRecDepth 100000 in
theorem pat_no (v : Value) (n d : Int) (w : World) (hn : Fit n) (hd : Fit d) (hm : ¬ Maybe n d) :
    Calls Tryz.prog 25 #[v, .agg #[.int .i64 n, .int .i64 d]] w fun e w' => e = .returned (.tuple #[.agg #[.bool false, .slice none 0 0], .int .i64 1]) ∧ Below w.heap.size w w' := by
  have hmd : decide (Maybe n d) = false := decide_eq_false hm
  have HM := Lib.hid (fun W => p_may n d W hn hd)
  rw [hmd] at HM
  have HB := Lib.hid (show Rt ((w.alloc (.cells #[.int .i64 n, .int .i64 d] 24)).alloc (.cells #[.bool false, .slice none 0 0] 60)) w.heap.size n d ∧ Bx 60 ((w.alloc (.cells #[.int .i64 n, .int .i64 d] 24)).alloc (.cells #[.bool false, .slice none 0 0] 60)) (w.heap.size + 1) false (.slice none 0 0) ∧ Below w.heap.size w ((w.alloc (.cells #[.int .i64 n, .int .i64 d] 24)).alloc (.cells #[.bool false, .slice none 0 0] 60)) from
    ⟨(Rt.new w n d).alloc _, by simpa using Bx.new 60 (w.alloc (.cells #[.int .i64 n, .int .i64 d] 24)) false (.slice none 0 0), bel_tr (bel_a _ _) (bel_a _ _)⟩)
  obtain ⟨f0, f1⟩ := rt_facts HB.out.1
  clear hm hmd hn hd
  go_enter Tryz.func25, Tryz.ntmps25
  go_wp2_with (go_at_call 39; (with_reducible refine (HM.out _).mono ?_); rintro e w1 ⟨rfl, hb⟩; have HB := Lib.hid (And.intro (HB.out.2.1.bel hb) (bel_tr HB.out.2.2 hb)); have g0 := HB.out.1.c0; have g1 := HB.out.1.c1; have g2 := HB.out.1.fr 0; have g3 := HB.out.1.fr 1; clear hb)
  exact bodyPost_ret (ret_bx2 rfl rfl rfl (HB.out.1.put false (.slice none 0 0))) rfl ⟨rfl, bel_set (bel_set HB.out.2 (by omega) _ _) (by omega) _ _⟩
/-- What the loop of At holds: two numbers, a value and a power in boxes. -/
structure AtS (w W : World) (n d v s : Int) (l lp : Nat) (p q gv gp : Nat) (bn : Bool) (vn : Value) (bd : Bool) (vd : Value) (bv : Bool) (vv : Value) (bp : Bool) (vp : Value) : Prop where
  bel : Below w.heap.size w W
  r : Bx 60 W (w.heap.size + 1) false (.slice none 0 0)
  N : Bx 60 W p bn vn
  D : Bx 60 W q bd vd
  V : Bx 60 W gv bv vv
  P : Bx 60 W gp bp vp
  en : El .c W (.agg #[.bool bn, vn]) n 2
  ed : El .c W (.agg #[.bool bd, vd]) d 2
  ev : El .c W (.agg #[.bool bv, vv]) v l
  ep : El .c W (.agg #[.bool bp, vp]) s lp
  ne : w.heap.size + 1 < p ∧ w.heap.size + 1 < q ∧ w.heap.size + 1 < gv ∧ w.heap.size + 1 < gp ∧ p ≠ gv ∧ p ≠ gp ∧ q ≠ gv ∧ q ≠ gp ∧ gv ≠ gp
theorem El.ne_int {K : Kd} {w : World} {b : Bool} {v : Value} {z : Int} {l : Nat} (h : El K w (.agg #[.bool b, v]) z l) : ∃ B p q, v = .slice B p q := by
  obtain ⟨n, B, p, q, h⟩ := h.form
  injection h with h
  simp at h
  exact ⟨B, p, q, h.2⟩
section
variable {w W W' : World} {n d v s : Int} {l lp : Nat} {p q gv gp : Nat} {bn bd bv bp : Bool} {vn vd vv vp : Value}
theorem AtS.next (h : AtS w W n d v s l lp p q gv gp bn vn bd vd bv vv bp vp) (hb : Below W.heap.size W W') : AtS w W' n d v s l lp p q gv gp bn vn bd vd bv vv bp vp :=
  ⟨bel_tr h.bel hb, h.r.bel hb, h.N.bel hb, h.D.bel hb, h.V.bel hb, h.P.bel hb, h.en.bel hb, h.ed.bel hb, h.ev.bel hb, h.ep.bel hb, h.ne⟩
theorem AtS.drew (h : AtS w W n d v s l lp p q gv gp bn vn bd vd bv vv bp vp) : AtS w W.drew n d v s l lp p q gv gp bn vn bd vd bv vv bp vp := h.next ((Below.refl _ _).drew)
theorem AtS.le {l' lp' : Nat} (h : AtS w W n d v s l lp p q gv gp bn vn bd vd bv vv bp vp) (hl : l ≤ l') (hlp : lp ≤ lp') : AtS w W n d v s l' lp' p q gv gp bn vn bd vd bv vv bp vp :=
  ⟨h.bel, h.r, h.N, h.D, h.V, h.P, h.en, h.ed, h.ev.le hl, h.ep.le hlp, h.ne⟩
theorem AtS.putv (h : AtS w W n d v s l lp p q gv gp bn vn bd vd bv vv bp vp) {b : Bool} {B : Option Addr} {i j : Nat} {z : Int} (hz : El .c W (.agg #[.bool b, .slice B i j]) z l) :
    AtS w ((W.setCell ⟨gv, 0, none⟩ (.bool b)).setCell ⟨gv, 1, none⟩ (.slice B i j)) n d z s l lp p q gv gp bn vn bd vd b (.slice B i j) bp vp := by
  obtain ⟨n1, n2, n3, n4, n5, n6, n7, n8, n9⟩ := h.ne
  obtain ⟨Bv, iv, jv, rfl⟩ := h.ev.ne_int
  exact ⟨bel_set (bel_set h.bel (by omega) _ _) (by omega) _ _, h.r.two (by omega) _ _ _ _, h.N.two n5 _ _ _ _, h.D.two n7 _ _ _ _, h.V.put _ _, h.P.two (Ne.symm n9) _ _ _ _, h.en.box h.V _ _ _ _, h.ed.box h.V _ _ _ _, hz.box h.V _ _ _ _, h.ep.box h.V _ _ _ _, h.ne⟩
theorem AtS.putp (h : AtS w W n d v s l lp p q gv gp bn vn bd vd bv vv bp vp) {b : Bool} {B : Option Addr} {i j : Nat} {z : Int} (hz : El .c W (.agg #[.bool b, .slice B i j]) z lp) :
    AtS w ((W.setCell ⟨gp, 0, none⟩ (.bool b)).setCell ⟨gp, 1, none⟩ (.slice B i j)) n d v z l lp p q gv gp bn vn bd vd bv vv b (.slice B i j) := by
  obtain ⟨n1, n2, n3, n4, n5, n6, n7, n8, n9⟩ := h.ne
  obtain ⟨Bv, iv, jv, rfl⟩ := h.ep.ne_int
  exact ⟨bel_set (bel_set h.bel (by omega) _ _) (by omega) _ _, h.r.two (by omega) _ _ _ _, h.N.two n6 _ _ _ _, h.D.two n8 _ _ _ _, h.V.two n9 _ _ _ _, h.P.put _ _, h.en.box h.P _ _ _ _, h.ed.box h.P _ _ _ _, h.ev.box h.P _ _ _ _, hz.box h.P _ _ _ _, h.ne⟩
end
theorem AtS.start {w W : World} {n d : Int} {l lp : Nat} {p q : Nat} {bn bd b3 : Bool} {vn vd : Value} {B3 : Option Addr} {i3 j3 : Nat} (h : AtC w W n d p q) (hN : Bx 60 W p bn vn) (en : El .c W (.agg #[.bool bn, vn]) n 2) (hD : Bx 60 W q bd vd) (ed : El .c W (.agg #[.bool bd, vd]) d 2)
    (hz : El .c W (.agg #[.bool b3, .slice B3 i3 j3]) 1 2) (hl : 2 ≤ lp) :
    AtS w ((W.alloc (.cells #[.bool false, .slice none 0 0] 60)).alloc (.cells #[.bool b3, .slice B3 i3 j3] 60)) n d 0 1 l lp p q W.heap.size (W.heap.size + 1) bn vn bd vd false (.slice none 0 0) b3 (.slice B3 i3 j3) := by
  have hb := bel_tr (bel_a W (.cells #[.bool false, .slice none 0 0] 60)) (bel_a _ (.cells #[.bool b3, .slice B3 i3 j3] 60))
  have hn := Bx.new 60 (W.alloc (.cells #[.bool false, .slice none 0 0] 60)) b3 (.slice B3 i3 j3)
  rw [size_a1] at hn
  have h1 := h.r.lt
  have h2 := hN.lt
  have h3 := hD.lt
  have h4 := h.gp
  have h5 := h.gq
  exact ⟨bel_tr h.bel hb, h.r.bel hb, hN.bel hb, hD.bel hb, (Bx.new 60 W _ _).alloc _, hn, en.bel hb, ed.bel hb, El.zero .c _ _, (hz.le hl).bel hb, by omega⟩
theorem AtS.facts {w W : World} {n d v s : Int} {l lp : Nat} {p q gv gp : Nat} {bn bd bv bp : Bool} {vn vd vv vp : Value} (h : AtS w W n d v s l lp p q gv gp bn vn bd vd bv vv bp vp) :
    W.cell? ⟨p, 0, none⟩ = some (.bool bn) ∧ W.cell? ⟨p, 1, none⟩ = some vn ∧ W.cell? ⟨q, 0, none⟩ = some (.bool bd) ∧ W.cell? ⟨q, 1, none⟩ = some vd ∧ W.cell? ⟨gv, 0, none⟩ = some (.bool bv) ∧ W.cell? ⟨gv, 1, none⟩ = some vv ∧
    W.cell? ⟨gp, 0, none⟩ = some (.bool bp) ∧ W.cell? ⟨gp, 1, none⟩ = some vp ∧ W.frozen? ⟨gv, 0, none⟩ = false ∧ W.frozen? ⟨gv, 1, none⟩ = false ∧ W.frozen? ⟨gp, 0, none⟩ = false ∧ W.frozen? ⟨gp, 1, none⟩ = false :=
  ⟨h.N.c0, h.N.c1, h.D.c0, h.D.c1, h.V.c0, h.V.c1, h.P.c0, h.P.c1, h.V.fr 0, h.V.fr 1, h.P.fr 0, h.P.fr 1⟩
set_option maxRecDepth 100000 in
set_option maxHeartbeats 4000000 in
theorem pat_yes (A : Option Addr) (m c : Nat) (L : List Int) (l : Nat) (n d : Int) (w : World) (h : Pol .a w (.slice A m c) L l) (hm : m ≤ 100) (hl : l ≤ 60000) (hn : Fit n) (hd : Fit d) (hmb : Maybe n d) :
    Calls Tryz.prog 25 #[.slice A m c, .agg #[.int .i64 n, .int .i64 d]] w (AtE (hor n d (trz L)) (l + 6 * m + 20) w) := by
  have hmd : decide (Maybe n d) = true := decide_eq_true hmb
  have HM := Lib.hid (fun W => p_may n d W hn hd)
  rw [hmd] at HM
  have HB := Lib.hid (show AtB w ((w.alloc (.cells #[.int .i64 n, .int .i64 d] 24)).alloc (.cells #[.bool false, .slice none 0 0] 60)) n d [] [] from
    ⟨bel_tr (bel_a _ _) (bel_a _ _), (Rt.new w n d).alloc _, by simpa using Bx.new 60 (w.alloc (.cells #[.int .i64 n, .int .i64 d] 24)) false (.slice none 0 0), (fun g hg => by cases hg), List.nodup_nil, fun e he => by cases he⟩)
  have HN := Lib.hid (fun W => of_any n W hn.1 hn.2)
  have HD := Lib.hid (fun W => of_any d W hd.1 hd.2)
  have H := Lib.hid h
  obtain ⟨f0, f1⟩ := rt_facts HB.out.x
  clear hmb hmd hn hd h
  go_enter Tryz.func25, Tryz.ntmps25
  go_upto_region 3 with (go_at_call 39; (with_reducible refine (HM.out _).mono ?_); rintro e w1 ⟨rfl, hb⟩; have HB := Lib.hid (HB.out.next hb); clear hb f0 f1; obtain ⟨f0, f1⟩ := rt_facts HB.out.x)
  go_cut [6, 7] from 15 to 20 (fun s g wx => ∃ p q, s = .pointer (some ⟨p, 0, none⟩) ∧ g = .pointer (some ⟨q, 0, none⟩) ∧ AtC w wx n d p q)
  case first =>
    go_region_held3 (fun w' => w'.cell? ⟨w.heap.size, 0, none⟩ = some (.int .i64 n) ∧ w'.cell? ⟨w.heap.size, 1, none⟩ = some (.int .i64 d))
      (first
        | (refine rt_facts (g := w.heap.size) ?_; (repeat (first | with_reducible exact HB.out.x | with_reducible refine Rt.drew ?_ | with_reducible refine Rt.alloc ?_ _ | (with_reducible refine Rt.far ?_ (by simp <;> omega) _))); done)
        | go_keep)
      (first
        | (go_at_call 53; (with_reducible refine (HN.out _).mono ?_); rintro e w2 he; obtain ⟨n2, B2, p2, q2, rfl, he1, hb⟩ := he.open1; (first | (with_reducible have H2 := Lib.hid (HB.out.next hb)) | (with_reducible have H2 := Lib.hid (HB.out.drew.next hb)) | (with_reducible have H2 := Lib.hid (HB.out.alloc.next hb)) | (with_reducible have H2 := Lib.hid (HB.out.alloc.drew.next hb)) | (with_reducible have H2 := Lib.hid (HB.out.drew.alloc.next hb)) | (with_reducible have H2 := Lib.hid (HB.out.alloc.alloc.next hb)) | (with_reducible have H2 := Lib.hid (HB.out.alloc.alloc.drew.next hb))); have HB := Lib.hid (H2.out.put he1); obtain ⟨f0, f1⟩ := rt_facts HB.out.x; have k3 := HB.out.sz; have hbx := HB.out.bxs; (try simp only [List.forall_mem_cons, List.not_mem_nil, false_implies, implies_true, and_true, size_a1] at hbx); clear he he1 hb H2)
        | (go_at_call 53; (with_reducible refine (HD.out _).mono ?_); rintro e w3 he; obtain ⟨n3, B3, p3, q3, rfl, he1, hb⟩ := he.open1; (first | (with_reducible have H2 := Lib.hid (HB.out.next hb)) | (with_reducible have H2 := Lib.hid (HB.out.drew.next hb)) | (with_reducible have H2 := Lib.hid (HB.out.alloc.next hb)) | (with_reducible have H2 := Lib.hid (HB.out.alloc.drew.next hb)) | (with_reducible have H2 := Lib.hid (HB.out.drew.alloc.next hb)) | (with_reducible have H2 := Lib.hid (HB.out.alloc.alloc.next hb)) | (with_reducible have H2 := Lib.hid (HB.out.alloc.alloc.drew.next hb))); have HB := Lib.hid (H2.out.put he1); obtain ⟨f0, f1⟩ := rt_facts HB.out.x; have k3 := HB.out.sz; have hbx := HB.out.bxs; (try simp only [List.forall_mem_cons, List.not_mem_nil, false_implies, implies_true, and_true, size_a1] at hbx); clear he he1 hb H2))
    all_goals go_wp2_with fail
    all_goals go_meet
    all_goals refine ⟨_, _, rfl, rfl, ?_⟩
    all_goals first
      | ((with_reducible refine HB.out.fin1 ?_ ?_) <;> simp; done)
      | ((with_reducible refine HB.out.fin2 ?_ ?_) <;> simp; done)
      | ((with_reducible refine HB.out.fin3 ?_ ?_ ?_) <;> simp; done)
      | ((with_reducible refine HB.out.fin4 ?_ ?_ ?_) <;> simp; done)
      | ((with_reducible refine HB.out.fin ?_ ?_ ?_ ?_ ?_) <;> first | (simp; done) | omega)
  case rest =>
    obtain ⟨p, q, rfl, rfl, hC⟩ := hcut
    have HC := Lib.hid hC
    clear hC HB f0 f1 HM HN HD
    obtain ⟨bn, Bn, sn, tn, hN, hen⟩ := HC.out.N
    obtain ⟨bd, Bd, sd, td, hD, hed⟩ := HC.out.D
    have HN := Lib.hid (And.intro hN hen)
    have HD := Lib.hid (And.intro hD hed)
    clear hN hen hD hed
    have H1 := Lib.hid (fun W => of_any 1 W (by omega) (by omega))
    go_upto_region 5 with (go_at_call 53; (with_reducible refine (H1.out _).mono ?_); rintro e w3 he; obtain ⟨n3, B3, p3, q3, rfl, he1, hb⟩ := he.open1; have HC := Lib.hid (HC.out.next hb); have HN := Lib.hid (And.intro (HN.out.1.bel hb) (HN.out.2.bel hb)); have HD := Lib.hid (And.intro (HD.out.1.bel hb) (HD.out.2.bel hb)); have HE3 := Lib.hid he1; clear he he1 hb)
    have HS := Lib.hid (AtS.start (l := l + 10) (lp := 2) HC.out HN.out.1 HN.out.2 HD.out.1 HD.out.2 HE3.out (by omega))
    obtain ⟨gv, hgv⟩ : ∃ gv, gv = w3.heap.size := ⟨_, rfl⟩
    obtain ⟨gp, hgp⟩ : ∃ gp, gp = gv + 1 := ⟨_, rfl⟩
    obtain ⟨W4, hW4⟩ : ∃ W4, W4 = (w3.alloc (.cells #[.bool false, .slice none 0 0] 60)).alloc (.cells #[.bool n3, .slice B3 p3 q3] 60) := ⟨_, rfl⟩
    rw [← hgv, ← hgp, ← hW4] at HS
    rw [← hgv, ← hgp, ← hW4]
    obtain ⟨T, hT⟩ : ∃ T, T = trz L := ⟨_, rfl⟩
    obtain ⟨x, hx⟩ : ∃ x, x = pl L := ⟨_, rfl⟩
    have HX := Lib.hid hx
    have HT := Lib.hid (show trz L = T ∧ T.length = x ∧ (∀ i, co T i = co L i) by rw [hT, hx, trz_len]; exact ⟨rfl, rfl, co_trz L⟩)
    have hxm : x ≤ m := by rw [hx, H.out.cap.1]; exact pl_le L
    rw [HT.out.1]
    clear hgv hgp hW4 hT hx HC HN HD HE3 H1
    go_wp2_with (go_at_call 63; (with_reducible refine (degree_any A m c L l _ (H.out.bel HS.out.bel)).mono ?_); rintro e w5 ⟨rfl, hb⟩; have HS := Lib.hid (HS.out.next hb); rw [← HX.out]; clear hb)
    go_loopw [10] (fun i wr => ∃ (k : Nat) (v s : Int) (bv : Bool) (vv : Value) (bp : Bool) (vp : Value), i = .int .i64 ((k : Int) - 1) ∧ k ≤ x ∧ v = hor n d (T.drop k) ∧ s = d ^ (T.length - k) ∧ AtS w wr n d v s (l + 10 + 3 * (x - k)) (2 + 2 * (x - k)) p q gv gp bn (.slice Bn sn tn) bd (.slice Bd sd td) bv vv bp vp) (fun i _ => (intOf i + 1).toNat)
    case atStart => exact ⟨x, 0, 1, _, _, _, _, rfl, Nat.le_refl _, by rw [List.drop_eq_nil_of_le (by rw [HT.out.2.1]; exact Nat.le_refl _)]; rfl, by rw [HT.out.2.1, Nat.sub_self, Int.pow_zero], HS.out.le (by omega) (by omega)⟩
    case round =>
      obtain ⟨k, v, s, bv, vv, bp, vp, rfl, hk, hv, hs, hS⟩ := hrel
      obtain ⟨Bv, iv, jv, rfl⟩ := hS.ev.ne_int
      obtain ⟨Bp, ip, jp, rfl⟩ := hS.ep.ne_int
      rcases k with _ | k
      · have e0 : ((0 : Nat) : Int) - 1 = -1 := by omega
        rw [e0]
        have HV := Lib.hid (show hor n d T = v by rw [hv, List.drop_zero])
        have HS := Lib.hid (hS.le (show l + 10 + 3 * (x - 0) ≤ l + 6 * m + 20 by omega) (Nat.le_refl _))
        obtain ⟨f0, f1, f2, f3, f4, f5, f6, f7, f8, f9, f10, f11⟩ := HS.out.facts
        have g2 := HS.out.r.fr 0
        have g3 := HS.out.r.fr 1
        have g4 := HS.out.r.c0
        have g5 := HS.out.r.c1
        clear hv hs hS
        go_wp2_with fail
        refine bodyPost_ret (ret_bx2 rfl rfl rfl (HS.out.r.put _ _)) rfl ⟨_, rfl, ?_, bel_set (bel_set HS.out.bel (by omega) _ _) (by omega) _ _⟩
        rw [show hor n d (trz L) = v by rw [HT.out.1]; exact HV.out]
        exact HS.out.ev.box HS.out.r _ _ _ _
      · have e0 : ((k + 1 : Nat) : Int) - 1 = (k : Int) := by omega
        rw [e0]
        obtain ⟨ad, na, Ba, pa, qa, rfl, had, c0, c1, he⟩ := H.out.get k (by rw [← H.out.cap.1]; omega)
        have HG := Lib.hid (fun (W : World) (hW : Below w.heap.size w W) => (show W.cell? (ad.add (k * 2)) = some (.bool na) ∧ W.cell? { block := (ad.add (k * 2)).block, off := (ad.add (k * 2)).off + 1 } = some (.slice Ba pa qa) from
          ⟨by rw [hW.cell (by rw [block_of_add]; exact had)]; exact c0, by rw [add_next, hW.cell (by rw [block_of_add]; exact had)]; exact c1⟩))
        obtain ⟨g0, g1⟩ := HG.out _ hS.bel
        have hki : (k : Int) < (m : Int) := by omega
        have HE := Lib.hid (he.bel hS.bel)
        obtain ⟨lk, hlk⟩ : ∃ lk, lk = l + 10 + 3 * (x - (k + 1)) := ⟨_, rfl⟩
        obtain ⟨sk, hsk⟩ : ∃ sk, sk = 2 + 2 * (x - (k + 1)) := ⟨_, rfl⟩
        rw [← hlk, ← hsk] at hS
        have hlk2 : lk ≤ 61000 ∧ sk ≤ 1000 := by omega
        have HLK := Lib.hid (show max (lk + 2) (l + sk) + 1 ≤ l + 10 + 3 * (x - k) ∧ sk + 2 ≤ 2 + 2 * (x - k) by omega)
        have HQ := Lib.hid (show hor n d (T.drop k) = v * n + co L k * s ∧ d ^ (T.length - k) = s * d by
          rw [hor_drop n d (by rw [HT.out.2.1]; omega), hv, hs, HT.out.2.2]
          refine ⟨rfl, ?_⟩
          rw [show T.length - k = T.length - (k + 1) + 1 by rw [HT.out.2.1]; omega, Int.pow_succ])
        have HS := Lib.hid hS
        obtain ⟨f0, f1, f2, f3, f4, f5, f6, f7, f8, f9, f10, f11⟩ := HS.out.facts
        clear c0 c1 he hS hv hs hlk hsk
        go_wp2_with fail
        refine wt_start (S := (fun w' => w'.cell? ⟨p, 0, none⟩ = some (.bool bn) ∧ w'.cell? ⟨p, 1, none⟩ = some (.slice Bn sn tn) ∧ w'.cell? ⟨gv, 0, none⟩ = some (.bool bv) ∧ w'.cell? ⟨gv, 1, none⟩ = some (.slice Bv iv jv) ∧ w'.cell? ⟨gp, 0, none⟩ = some (.bool bp) ∧ w'.cell? ⟨gp, 1, none⟩ = some (.slice Bp ip jp) ∧ w'.cell? (ad.add (k * 2)) = some (.bool na) ∧ w'.cell? { block := (ad.add (k * 2)).block, off := (ad.add (k * 2)).off + 1 } = some (.slice Ba pa qa))) 10 (by kernel_rfl) ?_ (fun hHeld => ?_)
        · exact ⟨f0, f1, f4, f5, f6, f7, g0, g1⟩
        refine wt_take (i := 0) (oi := { dst := some 29, op := Op.load 60 (Operand.tmp 8), type := 60, pos := "poly.go:75", after := #[], guard := none }) (v := ?_) [] (by kernel_rfl) rfl (by kernel_rfl) (by kernel_rfl) (by kernel_rfl) rfl (fun _ _ _ h => h) (Or.inl ⟨by rfl, ?_⟩) (by assumption) ?_
        rotate_left 1
        · (intro w0 hS0; (try dsimp only at hS0); go_simp; try with_reducible rfl)
        try simp only [Act.put, List.setIfInBounds_toArray, List.set_cons_zero, List.set_cons_succ]
        refine wt_take (i := 1) (oi := { dst := some 30, op := Op.load 60 (Operand.tmp 6), type := 60, pos := "poly.go:75", after := #[], guard := none }) (v := ?_) [] (by kernel_rfl) rfl (by kernel_rfl) (by kernel_rfl) (by kernel_rfl) rfl (fun _ _ _ h => h) (Or.inl ⟨by rfl, ?_⟩) (by assumption) ?_
        rotate_left 1
        · (intro w0 hS0; (try dsimp only at hS0); go_simp; try with_reducible rfl)
        try simp only [Act.put, List.setIfInBounds_toArray, List.set_cons_zero, List.set_cons_succ]
        refine wt_take (i := 3) (oi := { dst := some 32, op := Op.move (Operand.tmp 0), type := 22, pos := "poly.go:75", after := #[], guard := none }) (v := ?_) [] (by kernel_rfl) rfl (by kernel_rfl) (by kernel_rfl) (by kernel_rfl) rfl (fun _ _ _ h => h) (Or.inl ⟨by rfl, ?_⟩) (by assumption) ?_
        rotate_left 1
        · (intro w0 hS0; (try dsimp only at hS0); go_simp; try with_reducible rfl)
        try simp only [Act.put, List.setIfInBounds_toArray, List.set_cons_zero, List.set_cons_succ]
        refine wt_take (i := 4) (oi := { dst := some 33, op := Op.move (Operand.tmp 10), type := 3, pos := "poly.go:75", after := #[], guard := none }) (v := ?_) [] (by kernel_rfl) rfl (by kernel_rfl) (by kernel_rfl) (by kernel_rfl) rfl (fun _ _ _ h => h) (Or.inl ⟨by rfl, ?_⟩) (by assumption) ?_
        rotate_left 1
        · (intro w0 hS0; (try dsimp only at hS0); go_simp; try with_reducible rfl)
        try simp only [Act.put, List.setIfInBounds_toArray, List.set_cons_zero, List.set_cons_succ]
        refine wt_take (i := 5) (oi := { dst := some 34, op := Op.indexAddr 22 (Operand.tmp 32) (Operand.tmp 33), type := 0, pos := "poly.go:75", after := #[{ on := 3, ground := Ground.data }, { on := 4, ground := Ground.data }], guard := none }) (v := ?_) [] (by kernel_rfl) rfl (by kernel_rfl) (by kernel_rfl) (by kernel_rfl) rfl (fun _ _ _ h => h) (Or.inl ⟨by rfl, ?_⟩) (by assumption) ?_
        rotate_left 1
        · (intro w0 hS0; (try dsimp only at hS0); go_simp; try with_reducible rfl)
        try simp only [Act.put, List.setIfInBounds_toArray, List.set_cons_zero, List.set_cons_succ]
        refine wt_take (i := 6) (oi := { dst := some 35, op := Op.load 60 (Operand.tmp 34), type := 60, pos := "poly.go:75", after := #[{ on := 5, ground := Ground.data }], guard := none }) (v := ?_) [] (by kernel_rfl) rfl (by kernel_rfl) (by kernel_rfl) (by kernel_rfl) rfl (fun _ _ _ h => h) (Or.inl ⟨by rfl, ?_⟩) (by assumption) ?_
        rotate_left 1
        · (intro w0 hS0; (try dsimp only at hS0); go_simp; try with_reducible rfl)
        try simp only [Act.put, List.setIfInBounds_toArray, List.set_cons_zero, List.set_cons_succ]
        refine wt_take (i := 7) (oi := { dst := some 36, op := Op.load 60 (Operand.tmp 9), type := 60, pos := "poly.go:75", after := #[], guard := none }) (v := ?_) [] (by kernel_rfl) rfl (by kernel_rfl) (by kernel_rfl) (by kernel_rfl) rfl (fun _ _ _ h => h) (Or.inl ⟨by rfl, ?_⟩) (by assumption) ?_
        rotate_left 1
        · (intro w0 hS0; (try dsimp only at hS0); go_simp; try with_reducible rfl)
        try simp only [Act.put, List.setIfInBounds_toArray, List.set_cons_zero, List.set_cons_succ]
        refine wt_next (i := 2) (o := { dst := some 31, op := Op.call { callee := Callee.value (Operand.func 59), args := #[Operand.tmp 29, Operand.tmp 30], argTypes := #[60, 60] }, type := 60, pos := "poly.go:75", after := #[{ on := 0, ground := Ground.data }, { on := 1, ground := Ground.data }], guard := none }) (by kernel_rfl) rfl (fun K hK => ?_)
        go_simp
        (go_at_call 59; (with_reducible refine (mul_any (.agg #[.bool bv, .slice Bv iv jv]) (.agg #[.bool bn, .slice Bn sn tn]) v n lk 2 _ HS.out.drew.ev.one_ HS.out.drew.en.one_ (by omega) (by omega)).mono ?_); rintro e w6 he; obtain ⟨n6, B6, p6, q6, rfl, he1, hb⟩ := he.open1; have HE := Lib.hid (HE.out.drew.bel hb); have HS := Lib.hid (HS.out.drew.next hb); have HE6 := Lib.hid he1; clear f0 f1 f2 f3 f4 f5 f6 f7 f8 f9 f10 f11 g0 g1 he he1; obtain ⟨f0, f1, f2, f3, f4, f5, f6, f7, f8, f9, f10, f11⟩ := HS.out.facts; obtain ⟨g0, g1⟩ := HG.out _ HS.out.bel; clear hb)
        refine hK.out _ _ ⟨f0, f1, f4, f5, f6, f7, g0, g1⟩ (fun hHeld => ?_)
        clear hK K
        try simp only [Act.put, List.setIfInBounds_toArray, List.set_cons_zero, List.set_cons_succ]
        refine wt_next (i := 8) (o := { dst := some 37, op := Op.call { callee := Callee.value (Operand.func 59), args := #[Operand.tmp 35, Operand.tmp 36], argTypes := #[60, 60] }, type := 60, pos := "poly.go:75", after := #[{ on := 6, ground := Ground.data }, { on := 7, ground := Ground.data }, { on := 2, ground := Ground.chain }], guard := none }) (by kernel_rfl) rfl (fun K hK => ?_)
        go_simp
        (go_at_call 59; (with_reducible refine (mul_any (.agg #[.bool na, .slice Ba pa qa]) (.agg #[.bool bp, .slice Bp ip jp]) (co L k) s l sk _ HE.out.big_ HS.out.ep.one_ (by omega) (by omega)).mono ?_); rintro e w7 he; obtain ⟨n7, B7, p7, q7, rfl, he1, hb⟩ := he.open1; have HS := Lib.hid (HS.out.next hb); have HE6 := Lib.hid (HE6.out.bel hb); have HE7 := Lib.hid he1; clear f0 f1 f2 f3 f4 f5 f6 f7 f8 f9 f10 f11 g0 g1 he he1; obtain ⟨f0, f1, f2, f3, f4, f5, f6, f7, f8, f9, f10, f11⟩ := HS.out.facts; obtain ⟨g0, g1⟩ := HG.out _ HS.out.bel; clear hb)
        refine hK.out _ _ ⟨f0, f1, f4, f5, f6, f7, g0, g1⟩ (fun hHeld => ?_)
        clear hK K
        try simp only [Act.put, List.setIfInBounds_toArray, List.set_cons_zero, List.set_cons_succ]
        refine wt_next (i := 9) (o := { dst := some 38, op := Op.call { callee := Callee.value (Operand.func 58), args := #[Operand.tmp 31, Operand.tmp 37], argTypes := #[60, 60] }, type := 60, pos := "poly.go:75", after := #[{ on := 2, ground := Ground.data }, { on := 8, ground := Ground.data }, { on := 8, ground := Ground.chain }], guard := none }) (by kernel_rfl) rfl (fun K hK => ?_)
        go_simp
        (go_at_call 58; (with_reducible refine (add_any (.agg #[.bool n6, .slice B6 p6 q6]) (.agg #[.bool n7, .slice B7 p7 q7]) (v * n) (co L k * s) (lk + 2) (l + sk) _ HE6.out.one_ HE7.out.one_ (by omega) (by omega)).mono ?_); rintro e w8 he; obtain ⟨n8, B8, p8, q8, rfl, he1, hb⟩ := he.open1; have HS := Lib.hid (HS.out.next hb); have HE8 := Lib.hid he1; clear f0 f1 f2 f3 f4 f5 f6 f7 f8 f9 f10 f11 g0 g1 he he1; obtain ⟨f0, f1, f2, f3, f4, f5, f6, f7, f8, f9, f10, f11⟩ := HS.out.facts; obtain ⟨g0, g1⟩ := HG.out _ HS.out.bel; clear hb)
        refine hK.out _ _ ⟨f0, f1, f4, f5, f6, f7, g0, g1⟩ (fun hHeld => ?_)
        clear hK K
        try simp only [Act.put, List.setIfInBounds_toArray, List.set_cons_zero, List.set_cons_succ]
        refine wt_last (o := { dst := none, op := Op.store 60 (Operand.tmp 8) (Operand.tmp 38), type := 0, pos := "poly.go:75", after := #[{ on := 9, ground := Ground.data }, { on := 9, ground := Ground.chain }, { on := 0, ground := Ground.phase }, { on := 1, ground := Ground.phase }, { on := 2, ground := Ground.phase }, { on := 3, ground := Ground.phase }, { on := 4, ground := Ground.phase }, { on := 5, ground := Ground.phase }, { on := 6, ground := Ground.phase }, { on := 7, ground := Ground.phase }, { on := 8, ground := Ground.phase }, { on := 9, ground := Ground.phase }], guard := none }) (by kernel_rfl) (by kernel_rfl) rfl (fun K hK => ?_)
        go_simp
        refine hK.out _ _ ?_
        clear hK K hHeld
        try simp only [Act.put, List.setIfInBounds_toArray, List.set_cons_zero, List.set_cons_succ]
        have HV := Lib.hid ((HS.out.le (l' := max (lk + 2) (l + sk) + 1) (by omega) (Nat.le_refl _)).putv HE8.out)
        obtain ⟨gq, hgq⟩ : ∃ W, W = (w8.setCell ⟨gv, 0, none⟩ (.bool n8)).setCell ⟨gv, 1, none⟩ (.slice B8 p8 q8) := ⟨_, rfl⟩
        rw [← hgq] at HV ⊢
        clear f0 f1 f2 f3 f4 f5 f6 f7 f8 f9 f10 f11 g0 g1 hgq HS HE6 HE7 HE8 HE
        obtain ⟨f0, f1, f2, f3, f4, f5, f6, f7, f8, f9, f10, f11⟩ := HV.out.facts
        go_wp2_with (go_at_call 59; (with_reducible refine (mul_any (.agg #[.bool bp, .slice Bp ip jp]) (.agg #[.bool bd, .slice Bd sd td]) s d sk 2 _ HV.out.ep.one_ HV.out.ed.one_ (by omega) (by omega)).mono ?_); rintro e w9 he; obtain ⟨n9, B9, p9, q9, rfl, he1, hb⟩ := he.open1; have HV := Lib.hid (HV.out.next hb); have HE9 := Lib.hid he1; clear f0 f1 f2 f3 f4 f5 f6 f7 f8 f9 f10 f11 he he1; obtain ⟨f0, f1, f2, f3, f4, f5, f6, f7, f8, f9, f10, f11⟩ := HV.out.facts; clear hb)
        go_roundw
        case rel => exact ⟨k, _, _, _, _, _, _, rfl, by omega, HQ.out.1.symm, HQ.out.2.symm, ((HV.out.le (Nat.le_refl _) (show sk ≤ sk + 2 by omega)).putp HE9.out).le HLK.out.1 HLK.out.2⟩
        case measure => simp [intOf]
end Go.Proofs.YtpobhegllhhdgaaGreat
