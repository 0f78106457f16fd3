/- Proved here: all points of contours in rows of their own, moved in place (move). Condition: contours in rows of their own, whose points and a part that may be. · what stands in memory while the program walks through parts; what enter answers. Condition: a walk's box and its list of glyphs. · what each answers, a glyph's parts being gone to one by one. Condition: what is done at each part, told by a contract. -/
import Derived.Test.YtlfnagfcggmeaaaLA
import Derived.Test.YtlfnagfcggmeaaaFE
import Derived.Maps.AppendAt
namespace Go.Proofs.Ytlfnagfcggmeaaa
open Go.RowKit

theorem F46.pre {base : Nat} {w W0 W : World} (h : Below w.heap.size w W0) (f : F46 base W0 W) : F46 base w W :=
  ⟨f.os.trans h.os, f.tape.trans h.tape, f.output.trans h.output, Nat.le_trans h.size f.size, fun g hg hc => (f.block g (Nat.lt_of_lt_of_le hg h.size) (by rw [h.block g hg]; exact hc)).trans (h.block g hg)⟩
theorem F46.keep {base g : Nat} {W W' : World} {cs : Array Value} {T : TypeId} {fr : Nat × Nat} (f : F46 base W W') (h : W.heap[g]? = some (.cells cs T fr)) (hT : T ≠ 46) : W'.heap[g]? = some (.cells cs T fr) :=
  (f.block g (heap_lt h) (.inr fun c2 f2 e => by rw [h] at e; injection e with e; injection e with _ e; exact hT e)).trans h
set_option maxHeartbeats 8000000 in
set_option maxRecDepth 100000 in
theorem mvAll_any (g dx dy a b c0 d : Int) (base : Nat) (A : Option Addr) (k c : Nat) (LL : List (List Pt)) (cs : List Value) (bs : Nat → Nat) (w : World) (hD : Dc w base A k c (ct LL) cs bs) (hl : LL.length = k) (hm : k ≤ 1000) (hn : ∀ i, i < k → (ct LL i).length ≤ 5000)
    (hp : C.okP (g, dx, dy, a, b, c0, d) 1024) (hu : OkPt LL) :
    Calls Try.prog 34 #[.slice A k c, .agg #[.int .i64 g, .int .i64 dx, .int .i64 dy, .int .i64 a, .int .i64 b, .int .i64 c0, .int .i64 d]] w fun e w' => e = .returned (.int .i64 (movE (g, dx, dy, a, b, c0, d) LL)) ∧ F46 base w w' ∧ (movE (g, dx, dy, a, b, c0, d) LL = 0 → Dc w' base A k c (ct (movL (g, dx, dy, a, b, c0, d) LL)) cs bs) := by
  have hB0 : Below w.heap.size w (w.alloc (.cells #[.int .i64 g, .int .i64 dx, .int .i64 dy, .int .i64 a, .int .i64 b, .int .i64 c0, .int .i64 d] 54)) := (Below.refl _ _).alloc (Nat.le_refl _) _
  have HD0 := Lib.hid (hD.bel hB0)
  have HBx := Lib.hid (C.Bp.new w g dx dy a b c0 d)
  have CMv := Lib.hid (fun x y W => C.move_any g dx dy a b c0 d x y W)
  obtain ⟨p, hpp⟩ : ∃ p : C.Prt, p = (g, dx, dy, a, b, c0, d) := ⟨_, rfl⟩
  rw [← hpp] at CMv hp ⊢
  have HP := Lib.hid hp
  have HU := Lib.hid hu
  have HN := Lib.hid hn
  have HLen := Lib.hid hl
  have HE0 := Lib.hid (show okMvC p LL → movE p LL = 0 from fun h => if_pos h)
  have HE2 := Lib.hid (show ∀ i, i < k → ¬ okMvL p (ct LL i) → movE p LL = 2 from fun i hi h => if_neg fun h2 => h (h2 i (by rw [hl]; exact hi)))
  clear hD hp hn hu hl hpp
  go_enter Try.func34, Try.ntmps34
  go_upto_region 1 with fail
  obtain ⟨bx, hbx⟩ : ∃ b, b = w.heap.size := ⟨_, rfl⟩
  obtain ⟨W0, hW0⟩ : ∃ W, W = w.alloc (.cells #[.int .i64 g, .int .i64 dx, .int .i64 dy, .int .i64 a, .int .i64 b, .int .i64 c0, .int .i64 d] 54) := ⟨_, rfl⟩
  rw [← hW0] at HD0 HBx hB0 ⊢
  rw [← hbx] at HBx ⊢
  have HW := Lib.hid hB0
  clear hW0 hB0 hbx
  go_wp2_with fail
  go_loopw [14] (fun i wr => ∃ k' : Nat, i = .int .i64 (k' : Int) ∧ k' ≤ k ∧ Dc wr base A k c (mvC p LL k') cs bs ∧ F46 base W0 wr ∧ (∀ i, i < k' → okMvL p (ct LL i))) (fun i _ => k - (intOf i).toNat)
  case atStart => exact ⟨0, rfl, Nat.zero_le _, HD0.out.eqv (fun i hi => mvC_zero p LL i), F46.of (Below.refl _ _), fun i hi => by omega⟩
  case round =>
    obtain ⟨i, rfl, hi, hD, hF, hok⟩ := hrel
    have HD := Lib.hid hD
    have HF := Lib.hid hF
    by_cases hgo : i < k
    · obtain ⟨cap, h1, hr⟩ := hD.row i hgo
      obtain ⟨ad, hA, _, hcell⟩ := own_cell hD.own (by omega)
      subst hA
      have dd := hcell i _ h1
      have n5 := HN.out i hgo
      have hlt := Lib.hid (cell_lt dd)
      have HSU := Lib.hid (show okMvL p (ct LL i) → ∀ j, j < i + 1 → okMvL p (ct LL j) from all_succ hok)
      have HE2i := Lib.hid (HE2.out i hgo)
      have HUi := Lib.hid (HU.out i (by rw [HLen.out]; exact hgo))
      have HT := Lib.hid (fun W (ho : Onl (bs i) wr W) (cx : List Value) (hq : MqS (bs i) wr W (ct LL i).length cap ((ct LL i).map (mvPt p)) cx) (hb : base ≤ bs i) (hc : (ct LL i).length ≤ cap) (hx : cap ≤ maxLen) => show Dc W base (some ad) k c (mvC p LL (i + 1)) cs bs from
        hD.turn hgo ho (fun j hj => mvC_next p LL i j hj) (by rw [mvC_at]) (by rw [mvC_new, List.length_map]) (by rw [mvC_at] at h1; exact h1) (by rw [mvC_new]; exact hq.own hb (by rw [List.length_map]) hc hx))
      rw [mvC_at] at dd h1 hr
      obtain ⟨hbb, hnc, hcm, cx0, hq0⟩ := own_rv hr
      have HBX := Lib.hid (show ∀ W, Onl (bs i) wr W → C.Bp W bx (g, dx, dy, a, b, c0, d) from fun W ho => by
        have h0 := HF.out.keep HBx.out (by decide)
        exact (ho.block bx (heap_lt h0) (fun e => by rw [e] at h0; have h5 := hq0.rv; unfold Rv at h5; rw [h5] at h0; injection h0 with h0; injection h0 with _ h0; exact absurd h0 (by decide))).trans h0)
      have HFs := Lib.hid (show ∀ W, Onl (bs i) wr W → F46 base W0 W from fun W ho => HF.out.step ho hbb hq0.rv)
      obtain ⟨Q, hQ⟩ : ∃ Q, Q = ct LL i := ⟨_, rfl⟩
      rw [← hQ] at dd h1 hr n5 HSU HE2i HUi HT hnc hq0
      obtain ⟨bi, hbi⟩ : ∃ b, b = bs i := ⟨_, rfl⟩
      rw [← hbi] at dd HT HBX HFs hbb hq0
      obtain ⟨n, hn⟩ : ∃ n, n = Q.length := ⟨_, rfl⟩
      rw [← hn] at dd n5 HUi HT hnc hq0
      have HQ0 := Lib.hid hq0
      have HBB := Lib.hid (And.intro hbb (And.intro hnc hcm))
      have HNn := Lib.hid hn
      clear hD hF hok hcell hr h1 hq0 hbb hnc hcm hQ hbi hn
      obtain ⟨wo, hwo⟩ : ∃ W, W = wr := ⟨_, rfl⟩
      subst hwo
      go_wp2_with fail
      go_loopw [20] (fun j wi => ∃ (l : Nat) (cx : List Value), j = .int .i64 (l : Int) ∧ l ≤ n ∧ MqS bi wo wi n cap (mvQ p Q l) cx ∧ (∀ j, j < l → okMv p (pt Q j))) (fun j _ => n - (intOf j).toNat)
      case atStart => exact ⟨0, cx0, rfl, Nat.zero_le _, by rw [mvQ_zero]; exact HQ0.out, fun j hj => by omega⟩
      case round =>
        obtain ⟨l, cx, rfl, hl, hq, hokl⟩ := hrel
        have HQ := Lib.hid hq
        by_cases hgl : l < n
        · have hlQ : l < Q.length := by rw [← HNn.out]; exact hgl
          obtain ⟨z0, z1, z2⟩ := mvQ_get p Q l hlQ
          obtain ⟨y0, y1, y2⟩ := ptC_get (mvQ p Q l) l (by rw [mvQ_len]; exact hlQ)
          rw [z0] at y0
          rw [z1] at y1
          rw [z2] at y2
          have hux := HUi.out l hgl
          have HNX := Lib.hid (mvQ_next p Q l hlQ)
          have HMK := Lib.hid (show okMv p (pt Q l) → ∀ j, j < l + 1 → okMv p (pt Q j) from all_succ hokl)
          have HNK := Lib.hid (show ¬ okMv p (pt Q l) → movE p LL = 2 from fun h => HE2i.out fun h2 => h (h2 l hlQ))
          have hpe := pt_eq Q l
          obtain ⟨x, hx⟩ : ∃ x, x = px Q l := ⟨_, rfl⟩
          obtain ⟨y, hy⟩ : ∃ y, y = py Q l := ⟨_, rfl⟩
          obtain ⟨o, ho⟩ : ∃ o, o = po Q l := ⟨_, rfl⟩
          rw [← hx, ← hy, ← ho] at hpe
          rw [← hx] at y0 hux
          rw [← hy] at y1 hux
          rw [← ho] at y2
          have htwo := mvA_two (p := p) (x := x) (y := y) HP.out hux.1 hux.2
          have CV := Lib.hid (fun W => CMv.out x y W)
          have hmk : okMv p (pt Q l) ↔ (C.mvA p x y).2.2 = 0 := by rw [hpe]; exact Iff.rfl
          have hmp : mvPt p (pt Q l) = ((C.mvA p x y).1, (C.mvA p x y).2.1, o) := by rw [hpe]; rfl
          rw [hmp] at HNX
          obtain ⟨rx, hrx⟩ : ∃ z, z = (C.mvA p x y).1 := ⟨_, rfl⟩
          obtain ⟨ry, hry⟩ : ∃ z, z = (C.mvA p x y).2.1 := ⟨_, rfl⟩
          obtain ⟨E, hE⟩ : ∃ z, z = (C.mvA p x y).2.2 := ⟨_, rfl⟩
          rw [← hrx, ← hry, ← hE] at CV
          rw [← hE] at hmk htwo
          rw [← hrx, ← hry] at HNX
          have HC := Lib.hid (show ∀ W, Below wr.heap.size wr W → (W.cell? ⟨bx, 0, none⟩ = some (.int .i64 g) ∧ W.cell? ⟨bx, 1, none⟩ = some (.int .i64 dx) ∧ W.cell? ⟨bx, 2, none⟩ = some (.int .i64 dy) ∧ W.cell? ⟨bx, 3, none⟩ = some (.int .i64 a) ∧ W.cell? ⟨bx, 4, none⟩ = some (.int .i64 b) ∧ W.cell? ⟨bx, 5, none⟩ = some (.int .i64 c0) ∧ W.cell? ⟨bx, 6, none⟩ = some (.int .i64 d)) ∧ (W.cell? ⟨bi, l * 3, none⟩ = some (.int .i64 x) ∧ W.cell? ⟨bi, l * 3 + 1, none⟩ = some (.int .i64 y) ∧ W.cell? ⟨bi, l * 3 + 2, none⟩ = some (.bool o)) ∧ W.frozen? ⟨bi, l * 3, none⟩ = false ∧ W.frozen? ⟨bi, l * 3 + 1, none⟩ = false ∧ W.frozen? ⟨bi, l * 3 + 2, none⟩ = false from fun W hW =>
            ⟨((HBX.out wr HQ.out.on).bel hW).cells, ⟨(HQ.out.bel hW).get y0, (HQ.out.bel hW).get y1, (HQ.out.bel hW).get y2⟩, (HQ.out.bel hW).rv.fr _, (HQ.out.bel hW).rv.fr _, (HQ.out.bel hW).rv.fr _⟩)
          obtain ⟨⟨b0, b1, b2, b3, b4, b5, b6⟩, ⟨o0, o1, o2⟩, f0, f1, f2⟩ := HC.out wr (Below.refl _ _)
          clear hq hokl y0 y1 y2 z0 z1 z2 hx hy ho hpe hmp hrx hry hE hlQ hux
          go_upto_region 7 with fail
          have hA1 : Below wr.heap.size wr (wr.alloc (.cells #[.int .i64 x, .int .i64 y, .bool o] 46)) := (Below.refl _ _).alloc (Nat.le_refl _) _
          have HN1 := Lib.hid (show (wr.alloc (.cells #[.int .i64 x, .int .i64 y, .bool o] 46)).heap[wr.heap.size]? = some (.cells #[.int .i64 x, .int .i64 y, .bool o] 46 (0, 0)) from heap_alloc_new wr _)
          obtain ⟨W1, hW1⟩ : ∃ W, W = wr.alloc (.cells #[.int .i64 x, .int .i64 y, .bool o] 46) := ⟨_, rfl⟩
          rw [← hW1] at hA1 HN1 ⊢
          obtain ⟨nb, hnb⟩ : ∃ b, b = wr.heap.size := ⟨_, rfl⟩
          rw [← hnb] at HN1 ⊢
          have HA1 := Lib.hid hA1
          have n0 : W1.cell? ⟨nb, 0, none⟩ = some (.int .i64 x) := cell_of_row W1 nb 0 _ 46 (0, 0) HN1.out
          have n1 : W1.cell? ⟨nb, 1, none⟩ = some (.int .i64 y) := cell_of_row W1 nb 1 _ 46 (0, 0) HN1.out
          have HN2 := Lib.hid (show ∀ W, Below W1.heap.size W1 W → W.cell? ⟨nb, 2, none⟩ = some (.bool o) from fun W hW => cell_of_row W nb 2 _ 46 (0, 0) ((hW.block nb (heap_lt HN1.out)).trans HN1.out))
          clear b0 b1 b2 b3 b4 b5 b6 o0 o1 o2 f0 f1 f2 hW1 hnb
          obtain ⟨⟨b0, b1, b2, b3, b4, b5, b6⟩, _, _⟩ := HC.out W1 HA1.out
          clear hA1
          go_upto_region 8 with (go_at_call 53; (with_reducible refine (CV.out _).mono ?_); rintro e w4 ⟨rfl, hb⟩; have HB4 := Lib.hid hb; have HC4 := Lib.hid (HA1.out.trans (hb.mono HA1.out.size)); clear hb)
          clear b0 b1 b2 b3 b4 b5 b6 n0 n1
          have n2 := HN2.out w4 HB4.out
          obtain ⟨_, ⟨o0, o1, o2⟩, f0, f1, f2⟩ := HC.out w4 HC4.out
          have HQ4 := Lib.hid (HQ.out.bel HC4.out)
          rcases htwo with h0 | h0
          · have HK := Lib.hid (HMK.out (hmk.2 h0))
            subst h0
            clear hmk
            go_wp2_with fail
            exact ⟨⟨l + 1, _, by simp, by omega, HQ4.out.put _ _ _ HNX.out, HK.out⟩, by simp [intOf]; omega⟩
          · have HK := Lib.hid (HNK.out (fun h => by have := hmk.1 h; omega))
            subst h0
            have HF4 := Lib.hid (HFs.out w4 (HQ4.out.on))
            clear hmk
            go_wp2_with fail
            go_ret
            exact ⟨by rw [HK.out]; rfl, F46.pre HW.out HF4.out, fun h => absurd (HK.out.symm.trans h) (by decide)⟩
        · obtain rfl : l = n := by omega
          have HOK := Lib.hid (HSU.out (fun j hj => hokl j (by rw [HNn.out]; exact hj)))
          have HQ2 := Lib.hid (show MqS bi wo wr l cap (Q.map (mvPt p)) cx from by have := HQ.out; rw [HNn.out, mvQ_all] at this; rw [HNn.out]; exact this)
          have HD2 := Lib.hid (HT.out wr HQ.out.on cx HQ2.out HBB.out.1 HBB.out.2.1 HBB.out.2.2)
          have HF2 := Lib.hid (HFs.out wr HQ.out.on)
          clear hq hokl
          go_wp2_with fail
          exact ⟨⟨i + 1, by simp, by omega, HD2.out, HF2.out, HOK.out⟩, by simp [intOf]; omega⟩
    · obtain rfl : i = k := by omega
      have hall : okMvC p LL := fun i hi => hok i (by rw [HLen.out] at hi; exact hi)
      have HX := Lib.hid (And.intro (HE0.out hall) (hD.eqv (mvC_all p LL hall i HLen.out)))
      clear hD hF hok hall
      go_wp2_with fail
      go_ret
      exact ⟨by rw [HX.out.1]; rfl, F46.pre HW.out HF.out, fun _ => HX.out.2⟩
end Go.Proofs.Ytlfnagfcggmeaaa
namespace Go.Proofs.Ytlfnagfcggmeaaa
open Go.RowKit

/-- All below bd stays but block wb, and a row. -/
structure Frm (bd wb : Nat) (ob : Option Nat) (W W' : World) : Prop where
  os : W'.os = W.os
  tape : W'.tape = W.tape
  output : W'.output = W.output
  size : W.heap.size ≤ W'.heap.size
  block : ∀ g, g < bd → g ≠ wb → some g ≠ ob → W'.heap[g]? = W.heap[g]?
/-- A row that is the same, or new. -/
def Nx (bd : Nat) (ob ob' : Option Nat) : Prop := ∀ k, ob' = some k → ob = some k ∨ bd ≤ k
theorem Nx.refl (bd : Nat) (ob : Option Nat) : Nx bd ob ob := fun _ h => .inl h
theorem Nx.trans {bd : Nat} {o1 o2 o3 : Option Nat} (h : Nx bd o1 o2) (k : Nx bd o2 o3) : Nx bd o1 o3 := fun g hg => (k g hg).elim (h g) .inr
theorem Nx.le {bd b2 : Nat} {o1 o2 : Option Nat} (h : Nx bd o1 o2) (hb : b2 ≤ bd) : Nx b2 o1 o2 := fun g hg => (h g hg).imp id fun h2 => Nat.le_trans hb h2
section
variable {bd wb : Nat} {ob ob1 : Option Nat} {W W1 W2 : World}
theorem Frm.of (hb : bd ≤ W.heap.size) (h : Below W.heap.size W W1) : Frm bd wb ob W W1 := ⟨h.os, h.tape, h.output, h.size, fun g hg _ _ => h.block g (Nat.lt_of_lt_of_le hg hb)⟩
theorem Frm.refl (bd wb : Nat) (ob : Option Nat) (W : World) : Frm bd wb ob W W := ⟨rfl, rfl, rfl, Nat.le_refl _, fun _ _ _ _ => rfl⟩
theorem Frm.onl (hb : bd ≤ W.heap.size) (h : Onl wb W W1) : Frm bd wb ob W W1 := ⟨h.os, h.tape, h.output, h.size, fun g hg hn _ => h.block g (Nat.lt_of_lt_of_le hg hb) hn⟩
theorem Frm.grown (hb : bd ≤ W.heap.size) (h : W.grownBy W1 ob) : Frm bd wb ob W W1 := ⟨h.os, h.tape, h.output, h.size, fun g hg _ hn => h.block g (Nat.lt_of_lt_of_le hg hb) hn⟩
theorem Frm.le {b2 : Nat} (h : Frm bd wb ob W W1) (hb : b2 ≤ bd) : Frm b2 wb ob W W1 := ⟨h.os, h.tape, h.output, h.size, fun g hg => h.block g (Nat.lt_of_lt_of_le hg hb)⟩
theorem Frm.trans (h : Frm bd wb ob W W1) (hx : Nx bd ob ob1) (k : Frm bd wb ob1 W1 W2) : Frm bd wb ob W W2 :=
  ⟨k.os.trans h.os, k.tape.trans h.tape, k.output.trans h.output, Nat.le_trans h.size k.size, fun g hg h1 h2 =>
    (k.block g hg h1 fun e => (hx g e.symm).elim (fun h3 => h2 h3.symm) fun h3 => by omega).trans (h.block g hg h1 h2)⟩
theorem Frm.below {w0 : World} (h : Frm bd wb ob W W1) (hb : Below w0.heap.size w0 W) (hw : w0.heap.size ≤ wb) (hd : w0.heap.size ≤ bd) (ho : ∀ g, ob = some g → w0.heap.size ≤ g) : Below w0.heap.size w0 W1 :=
  ⟨h.os.trans hb.os, h.tape.trans hb.tape, h.output.trans hb.output, Nat.le_trans hb.size h.size, fun g hg =>
    (h.block g (by omega) (by omega) fun e => by have := ho g e.symm; omega).trans (hb.block g hg)⟩
end
/-- The walk's box, and its list of glyphs: w0 is the memory ahead of it. -/
structure WkS (w0 W : World) (A : Option Addr) (m c : Nat) (Ai : Option Addr) (ki ki' : Nat) (now : List Int) (v : Int) : Prop where
  bel : Below w0.heap.size w0 W
  box : W.heap[w0.heap.size]? = some (.cells #[.slice A m c, .slice Ai ki ki', .int .i64 v] 57 (0, 0))
  row : W.ownsRow (w0.heap.size + 1) 3 1 (.slice Ai ki ki') ki (ci .i64 now)
  vb : 0 ≤ v ∧ v ≤ 4096
section
variable {w0 W W' : World} {A : Option Addr} {m c : Nat} {Ai : Option Addr} {ki ki' : Nat} {now : List Int} {v : Int}
theorem WkS.len (h : WkS w0 W A m c Ai ki ki' now v) : now.length = ki := by have := h.row.1; rw [ci_len] at this; omega
theorem WkS.ob (h : WkS w0 W A m c Ai ki ki' now v) : ∀ g, (Value.slice Ai ki ki').ownBlock = some g → w0.heap.size + 1 ≤ g ∧ g < W.heap.size := h.row.lt
theorem WkS.next (h : WkS w0 W A m c Ai ki ki' now v) (hb : Below W.heap.size W W') : WkS w0 W' A m c Ai ki ki' now v := ⟨h.bel.trans (hb.mono h.bel.size), (hb.block _ (heap_lt h.box)).trans h.box, own_bel h.row hb, h.vb⟩
theorem WkS.lt (h : WkS w0 W A m c Ai ki ki' now v) : w0.heap.size < W.heap.size := heap_lt h.box
theorem WkS.set (h : WkS w0 W A m c Ai ki ki' now v) {u : Int} (hu : 0 ≤ u ∧ u ≤ 4096) : WkS w0 (W.setCell ⟨w0.heap.size, 2, none⟩ (.int .i64 u)) A m c Ai ki ki' now u :=
  ⟨h.bel.setCell (p := ⟨w0.heap.size, 2, none⟩) (Nat.le_refl _) _, by have e := h.box; simp [World.setCell, Array.getElem?_modify, e], own_onl h.row (Onl.set _ _ _ _) (Nat.lt_succ_self _), hu⟩
theorem WkS.cells (h : WkS w0 W A m c Ai ki ki' now v) : W.cell? ⟨w0.heap.size, 0, none⟩ = some (.slice A m c) ∧ W.cell? ⟨w0.heap.size, 1, none⟩ = some (.slice Ai ki ki') ∧ W.cell? ⟨w0.heap.size, 2, none⟩ = some (.int .i64 v) :=
  ⟨cell_of_row W _ 0 _ 57 (0, 0) h.box, cell_of_row W _ 1 _ 57 (0, 0) h.box, cell_of_row W _ 2 _ 57 (0, 0) h.box⟩
theorem WkS.fr (h : WkS w0 W A m c Ai ki ki' now v) (j : Nat) : W.frozen? ⟨w0.heap.size, j, none⟩ = false := by have := h.box; simp [World.frozen?, this]
theorem WkS.frm (h : WkS w0 W A m c Ai ki ki' now v) {bd : Nat} (hd : w0.heap.size ≤ bd) (f : Frm bd w0.heap.size (Value.slice Ai ki ki').ownBlock W W') : Below w0.heap.size w0 W' := f.below h.bel (Nat.le_refl _) hd fun g hg => by have := (h.ob g hg).1; omega
end
/-- What enter answers. -/
def enE (now : List Int) (gl v : Int) : Int := if gl ∈ now then 9 else if 8 < now.length then 8 else if v = 4096 then 6 else 0
set_option maxHeartbeats 4000000 in
set_option maxRecDepth 100000 in
theorem enter_any (w0 W : World) (A : Option Addr) (m c : Nat) (Ai : Option Addr) (ki ki' : Nat) (now : List Int) (v gl : Int) (h : WkS w0 W A m c Ai ki ki' now v) (hk : ki ≤ 1000) :
    Calls Try.prog 52 #[.pointer (some ⟨w0.heap.size, 0, none⟩), .int .i64 gl] W fun e W' => e = .returned (.int .i64 (enE now gl v)) ∧ Onl w0.heap.size W W' ∧ (enE now gl v = 0 → WkS w0 W' A m c Ai ki ki' now (v + 1)) := by
  have CC := Lib.hid (contains_any Ai ki ki' now gl W (own_il h.row h.len) (by omega))
  have hlen := h.len
  obtain ⟨c0, c1, c2⟩ := h.cells
  have HS := Lib.hid h
  have hb1 := h.vb.1
  have hb2 := h.vb.2
  obtain ⟨E, hE⟩ : ∃ E, E = enE now gl v := ⟨_, rfl⟩
  rw [← hE]
  unfold enE at hE
  rw [hlen] at hE
  have HN := Lib.hid (fun W' hb => HS.out.next (W' := W') hb)
  clear h hlen
  obtain ⟨wb, hwb⟩ : ∃ b, b = w0.heap.size := ⟨_, rfl⟩
  have HF := Lib.hid (show ∀ W', Below W.heap.size W W' → (W'.cell? ⟨wb, 1, none⟩ = some (.slice Ai ki ki') ∧ W'.cell? ⟨wb, 2, none⟩ = some (.int .i64 v)) ∧ W'.frozen? ⟨wb, 2, none⟩ = false from fun W' hb => by
    rw [hwb]; exact ⟨(HN.out W' hb).cells.2, (HN.out W' hb).fr 2⟩)
  rw [← hwb] at c0 c1 c2 ⊢
  have HW := Lib.hid hwb
  clear hwb
  by_cases h1 : gl ∈ now
  · rw [decide_eq_true h1] at CC
    rw [if_pos h1] at hE
    subst hE
    clear h1
    go_enter Try.func52, Try.ntmps52
    go_wp2_with (go_at_call 69; (with_reducible refine CC.out.mono ?_); rintro e w1 ⟨rfl, hb⟩; have HB := Lib.hid hb; clear hb)
    go_ret
    exact ⟨rfl, Onl.of HB.out, fun h => absurd h (by decide)⟩
  rw [decide_eq_false h1] at CC
  rw [if_neg h1] at hE
  clear h1
  by_cases h2 : 8 < ki
  · have e1 : decide (8 < (ki : Int)) = true := decide_eq_true (by omega)
    rw [if_pos h2] at hE
    subst hE
    go_enter Try.func52, Try.ntmps52
    go_upto_region 3 with (go_at_call 69; (with_reducible refine CC.out.mono ?_); rintro e w1 ⟨rfl, hb⟩; have HB := Lib.hid hb; clear hb)
    clear c0 c1 c2
    obtain ⟨⟨c1, c2⟩, f2⟩ := HF.out w1 HB.out
    go_wp2_with fail
    go_ret
    exact ⟨rfl, Onl.of HB.out, fun h => absurd h (by decide)⟩
  have e1 : decide (8 < (ki : Int)) = false := decide_eq_false (by omega)
  rw [if_neg h2] at hE
  by_cases h3 : v = 4096
  · rw [if_pos h3] at hE
    subst h3
    subst hE
    go_enter Try.func52, Try.ntmps52
    go_upto_region 3 with (go_at_call 69; (with_reducible refine CC.out.mono ?_); rintro e w1 ⟨rfl, hb⟩; have HB := Lib.hid hb; clear hb)
    clear c0 c1 c2
    obtain ⟨⟨c1, c2⟩, f2⟩ := HF.out w1 HB.out
    go_wp2_with fail
    go_ret
    exact ⟨rfl, Onl.of HB.out, fun h => absurd h (by decide)⟩
  · have e2 : (v == 4096) = false := by simp [h3]
    rw [if_neg h3] at hE
    subst hE
    go_enter Try.func52, Try.ntmps52
    go_upto_region 3 with (go_at_call 69; (with_reducible refine CC.out.mono ?_); rintro e w1 ⟨rfl, hb⟩; have HB := Lib.hid hb; clear hb)
    clear c0 c1 c2
    obtain ⟨⟨c1, c2⟩, f2⟩ := HF.out w1 HB.out
    have h4 : v + 1 ≤ 4096 := by omega
    go_wp2_with fail
    go_ret
    refine ⟨rfl, (Onl.of HB.out).trans (Onl.set _ _ _ _), fun _ => ?_⟩
    have := (HN.out w1 HB.out).set (u := v + 1) ⟨by omega, by omega⟩
    rw [← HW.out] at this
    exact this
end Go.Proofs.Ytlfnagfcggmeaaa
namespace Go.Proofs.Ytlfnagfcggmeaaa
open Go.RowKit

section
variable {w0 W W' : World} {A : Option Addr} {m c : Nat} {Ai : Option Addr} {ki ki' : Nat} {now : List Int} {v : Int}
theorem WkS.push (h : WkS w0 W A m c Ai ki ki' now v) {A2 : Option Addr} {c2 : Nat} {g : Int} (hg : W.grownBy W' (Value.slice Ai ki ki').ownBlock) (ho : W'.ownsRow (w0.heap.size + 1) 3 1 (.slice A2 (ki + 1) c2) (ki + 1) (ci .i64 now ++ [.int .i64 g])) :
    WkS w0 (W'.setCell ⟨w0.heap.size, 1, none⟩ (.slice A2 (ki + 1) c2)) A m c A2 (ki + 1) c2 (now ++ [g]) v :=
  have hb : Below w0.heap.size w0 W' := h.bel.grown hg h.bel.size (fun k hk => by have := (h.ob k hk).1; omega)
  have hx : W'.heap[w0.heap.size]? = some (.cells #[.slice A m c, .slice Ai ki ki', .int .i64 v] 57 (0, 0)) := (hg.block _ (heap_lt h.box) (fun e => by have := (h.ob _ e.symm).1; omega)).trans h.box
  ⟨hb.setCell (p := ⟨w0.heap.size, 1, none⟩) (Nat.le_refl _) _, by simp [World.setCell, Array.getElem?_modify, hx], by rw [ci_snoc]; exact own_onl ho (Onl.set _ _ _ _) (Nat.lt_succ_self _), h.vb⟩
theorem WkS.pop {g : Int} (h : WkS w0 W A m c Ai (ki + 1) ki' (now ++ [g]) v) : WkS w0 (W.setCell ⟨w0.heap.size, 1, none⟩ (.slice Ai ki ki')) A m c Ai ki ki' now v := by
  refine ⟨h.bel.setCell (p := ⟨w0.heap.size, 1, none⟩) (Nat.le_refl _) _, by have e := h.box; simp [World.setCell, Array.getElem?_modify, e], own_onl (W := W) ?_ (Onl.set _ _ _ _) (Nat.lt_succ_self _), h.vb⟩
  have hl := h.len
  rw [List.length_append] at hl
  have hl2 : now.length = ki := by simpa using hl
  rcases h.row.2 with ⟨h1, h2⟩ | ⟨j, cap, cur, h1, h2, h3, h4, h5, h6, h7⟩
  · omega
  · injection h1 with e1 _ e3
    subst e1 e3
    refine ⟨by rw [ci_len, hl2, Nat.mul_one], .inr ⟨j, _, cur, rfl, h2, h3, by omega, h5, h6, ?_⟩⟩
    have h8 := congrArg (List.take ki) h7
    rw [List.take_take, ci_snoc, List.take_append_of_le_length (by rw [ci_len]; omega), Nat.min_eq_left (by omega)] at h8
    rw [Nat.mul_one, h8]
    exact List.take_of_length_le (by rw [ci_len]; omega)
end
/-- What each answers. -/
def EaP (bd : Nat) (w0 : World) (A : Option Addr) (m c : Nat) (inn : List Int) (ob : Option Nat) (Inv : Int → World → Option Nat → Prop) (Bad : Int → Prop) (W : World) (e : Ending) (W' : World) : Prop :=
  ∃ E, e = .returned (.int .i64 E) ∧ Frm bd w0.heap.size ob W W' ∧
    (E = 0 → ∃ Ai ki ki' v, WkS w0 W' A m c Ai ki ki' inn v ∧ Nx bd ob (Value.slice Ai ki ki').ownBlock ∧ Inv v W' (Value.slice Ai ki ki').ownBlock) ∧ (E ≠ 0 → Bad E)
def pAg (p : C.Prt) : Value := .agg #[.int .i64 p.1, .int .i64 p.2.1, .int .i64 p.2.2.1, .int .i64 p.2.2.2.1, .int .i64 p.2.2.2.2.1, .int .i64 p.2.2.2.2.2.1, .int .i64 p.2.2.2.2.2.2]
end Go.Proofs.Ytlfnagfcggmeaaa
